import Derived.Test.YtjncahcigbdbgaaPH
import Derived.Test.YtjncahcigbdbgaaGC
namespace Go.Proofs.Ytjncahcigbdbgaa
open Go.ChangeShapes Go.WideShapes Go.ChangeAt Go.RowKit Go.Deep

/-! Layer 12: what came in; PostFits. -/
theorem cells40 : Try.prog.cellsOf 40 = 1 := by kernel_rfl
section
variable {H : Type} {enc : TypeId × Value → H} {w : World} {base : Nat} {spare : Nat → Bool} {held : Bool}
set_option maxRecDepth 100000 in
theorem fits_open {v : Value} {d : DataW H} {p : List MemPlace} (h : DataW.Trod enc Try.prog w base spare held 35 v d p) (hv : ∃ cs : Array Value, v = .agg cs ∧ cs.size = Try.prog.cellsOf 35) :
    ∃ (t : Tm) (x0 : Int) (A1 : Option Addr) (c1 : Nat) (bs1 : List UInt8) (x2 : Int), v = .agg (tmV t [.int .i64 x0, .slice A1 bs1.length c1, .int .i64 x2]) ∧ t.Ok ∧ i64ok x0 ∧ SlB w w.heap.size A1 c1 bs1 ∧ i64ok x2 := by
  obtain ⟨fuel, hf⟩ := h
  obtain ⟨cs0, rfl, hsz⟩ := hv
  obtain ⟨xs, n, _, _, hlen, hxl, hff⟩ := DataW.trod_struct Try.underlying35 hf
  have hcs : (Value.agg cs0).cells.toList = cs0.toList := rfl
  rw [hcs] at hff hlen
  rw [show Try.prog.cellsOf 35 = 27 by kernel_rfl] at hlen
  have hx : ∀ i, i < 4 → ∃ y, xs[i]? = some y := fun i hi => ⟨xs[i]'(by simpa [hxl] using hi), List.getElem?_eq_getElem _⟩
  obtain ⟨y0, e0⟩ := hx 0 (by omega)
  obtain ⟨y1, e1⟩ := hx 1 (by omega)
  obtain ⟨y2, e2⟩ := hx 2 (by omega)
  obtain ⟨y3, e3⟩ := hx 3 (by omega)
  have h0 : DataW.trod enc Try.prog w base spare held n 26 ((cs0.toList.drop 0).take (Try.prog.cellsOf 26)) = xs[0]? := hff 0 _ rfl
  have h1 : DataW.trod enc Try.prog w base spare held n 3 ((cs0.toList.drop 24).take (Try.prog.cellsOf 3)) = xs[1]? := hff 1 _ rfl
  have h2 : DataW.trod enc Try.prog w base spare held n 27 ((cs0.toList.drop 25).take (Try.prog.cellsOf 27)) = xs[2]? := hff 2 _ rfl
  have h3 : DataW.trod enc Try.prog w base spare held n 3 ((cs0.toList.drop (25 + 1)).take (Try.prog.cellsOf 3)) = xs[3]? := hff 3 _ rfl
  rw [cells26, e0] at h0
  rw [cells3, e1] at h1
  rw [cells32, e2] at h2
  rw [cells3, e3] at h3
  obtain ⟨t, t1, ht⟩ := tm_cells h0
  obtain ⟨x0, o0, _, w0⟩ := DataW.trod_int Try.underlying3 h1
  obtain ⟨A1, c1, bs1, o1, hb1⟩ := bytes_open h2
  obtain ⟨x2, o2, _, w2⟩ := DataW.trod_int Try.underlying3 h3
  refine ⟨t, x0, A1, c1, bs1, x2, ?_, ht, i64_of w0, hb1, i64_of w2⟩
  congr 1
  rw [← Array.toList_inj]
  refine cells_app (cl_len ht.len) hlen t1 (fun j hj => ?_)
  match j, hj with
  | 0, _ => exact one_at o0
  | 1, _ => exact one_at o1
  | 2, _ => exact one_at o2
set_option maxRecDepth 100000 in
theorem cut_open {v : Value} {d : DataW H} {p : List MemPlace} (h : DataW.Trod enc Try.prog w base spare held 42 v d p) (hv : ∃ cs : Array Value, v = .agg cs ∧ cs.size = Try.prog.cellsOf 42) :
    ∃ (t : Tm) (x0 : Int) (A1 : Option Addr) (c1 : Nat) (bs1 : List UInt8) (x2 : Nat), v = .agg (tmV t [.int .i64 x0, .slice A1 bs1.length c1, .int .u16 (x2 : Int)]) ∧ t.Ok ∧ i64ok x0 ∧ SlB w w.heap.size A1 c1 bs1 ∧ x2 ≤ 65535 := by
  obtain ⟨fuel, hf⟩ := h
  obtain ⟨cs0, rfl, hsz⟩ := hv
  obtain ⟨xs, n, _, _, hlen, hxl, hff⟩ := DataW.trod_struct Try.underlying42 hf
  have hcs : (Value.agg cs0).cells.toList = cs0.toList := rfl
  rw [hcs] at hff hlen
  rw [show Try.prog.cellsOf 42 = 27 by kernel_rfl] at hlen
  have hx : ∀ i, i < 4 → ∃ y, xs[i]? = some y := fun i hi => ⟨xs[i]'(by simpa [hxl] using hi), List.getElem?_eq_getElem _⟩
  obtain ⟨y0, e0⟩ := hx 0 (by omega)
  obtain ⟨y1, e1⟩ := hx 1 (by omega)
  obtain ⟨y2, e2⟩ := hx 2 (by omega)
  obtain ⟨y3, e3⟩ := hx 3 (by omega)
  have h0 : DataW.trod enc Try.prog w base spare held n 26 ((cs0.toList.drop 0).take (Try.prog.cellsOf 26)) = xs[0]? := hff 0 _ rfl
  have h1 : DataW.trod enc Try.prog w base spare held n 3 ((cs0.toList.drop 24).take (Try.prog.cellsOf 3)) = xs[1]? := hff 1 _ rfl
  have h2 : DataW.trod enc Try.prog w base spare held n 27 ((cs0.toList.drop 25).take (Try.prog.cellsOf 27)) = xs[2]? := hff 2 _ rfl
  have h3 : DataW.trod enc Try.prog w base spare held n 40 ((cs0.toList.drop (25 + 1)).take (Try.prog.cellsOf 40)) = xs[3]? := hff 3 _ rfl
  rw [cells26, e0] at h0
  rw [cells3, e1] at h1
  rw [cells32, e2] at h2
  rw [cells40, e3] at h3
  obtain ⟨t, t1, ht⟩ := tm_cells h0
  obtain ⟨x0, o0, _, w0⟩ := DataW.trod_int Try.underlying3 h1
  obtain ⟨A1, c1, bs1, o1, hb1⟩ := bytes_open h2
  obtain ⟨x2, o2, _, w2⟩ := DataW.trod_int Try.underlying40 h3
  have r2 := u16_of w2
  refine ⟨t, x0, A1, c1, bs1, x2.toNat, ?_, ht, i64_of w0, hb1, by omega⟩
  have q2 : ((x2.toNat : Nat) : Int) = x2 := by omega
  rw [q2]
  congr 1
  rw [← Array.toList_inj]
  refine cells_app (cl_len ht.len) hlen t1 (fun j hj => ?_)
  match j, hj with
  | 0, _ => exact one_at o0
  | 1, _ => exact one_at o1
  | 2, _ => exact one_at o2
end
theorem Try.size35 : (Try.prog.info? 35).map (·.size) = some 27 := by kernel_rfl
theorem Try.size42 : (Try.prog.info? 42).map (·.size) = some 27 := by kernel_rfl
theorem q13 {u0 : World} {z : Gr u0} {t : Tm} (ht : t.Ok) {col room : Int} {A : Option Addr} {n c : Nat} {bs : List UInt8} {f : PoF} (hf : Hid (poF t = f)) (hb : Hid (SlB u0 u0.heap.size A c bs)) (hn : Hid (bs.length = n)) (hm : n ≤ 400000) (hri : room ≤ 9223372036854775807) {M : Nat} (hM : Hid (fitP f (nrm col) bs room = M)) :
    Calls Try.prog 13 #[.agg t.cs, .int .i64 col, .slice A n c, .int .i64 room] (grw z) fun e w'' => e = .returned (.int .i64 (M : Int)) ∧ ∃ z' : Gr u0, w'' = grw z' := by
  rw [← hM.out]
  exact gr_call (fitp_any _ ht col A n c bs room hf (slb_up hb z.b) hn.out hm hri)
theorem q14 {u0 : World} {z : Gr u0} {t : Tm} (ht : t.Ok) {col room : Int} {A : Option Addr} {n c : Nat} {bs : List UInt8} {f : PoF} (hf : Hid (poF t = f)) (hb : Hid (SlB u0 u0.heap.size A c bs)) (hn : Hid (bs.length = n)) (hm : n ≤ 400000) {M : Nat} (hM : Hid (fitP f (nrm col) bs room = M)) :
    Calls Try.prog 14 #[.agg t.cs, .int .i64 col, .slice A n c, .int .i64 room] (grw z) fun e w'' => e = .returned (.int .i64 (M : Int)) ∧ ∃ z' : Gr u0, w'' = grw z' := by
  rw [← hM.out]
  exact gr_call (fitr_any _ ht col A n c bs room hf (slb_up hb z.b) hn.out hm)
attribute [local go_sem ↓] wp_st26 wp_ldR ex_ld26 wq_ld26 Go.wp_at_zero Go.wp_at_succ
attribute [local go_sem] isP_v blkV_v aggV_v
set_option maxRecDepth 100000 in
set_option maxHeartbeats 8000000 in
theorem fits_walk0 (w : World) (t : Tm) (ht : t.Ok) (col room : Int) (A : Option Addr) (c n : Nat) (bs : List UInt8) (hx : Hid (SlB w w.heap.size A c bs)) (hn : Hid (bs.length = n)) (hri : room ≤ 9223372036854775807) (r : List Value) (hr : r = [.int .i64 col, .slice A n c, .int .i64 room]) :
    Calls Try.prog 4 #[.agg (tmV t r)] w fun e w' => e = .returned (.bool true) ∧ Hid (Below w.heap.size w w') := by
  have hl := ht.len
  have hs := cs_size hl
  have hsz : Hid ((Try.prog.info? 35).map (·.size) = some (tmV t r).size) := hid (by rw [tmV_size ht, hr]; exact Try.size35)
  have HB0 : Hid (Box (w.alloc (.cells (tmV t r) 35)) w.heap.size 35 (tmV t r)) := hid (Box.new w 35 _)
  have HK0 : Hid (Below w.heap.size w (w.alloc (.cells (tmV t r) 35))) := hid ((Below.refl _ w).alloc (Nat.le_refl _) _)
  have F24 : Hid ((tmV t r)[24]? = some (.int .i64 col)) := hid (tmV_back ht (j := 0) (by rw [hr]; rfl))
  have F25 : Hid ((tmV t r)[25]? = some (.slice A n c)) := hid (tmV_back ht (j := 1) (by rw [hr]; rfl))
  have F26 : Hid ((tmV t r)[26]? = some (.int .i64 room)) := hid (tmV_back ht (j := 2) (by rw [hr]; rfl))
  generalize hV : tmV t r = V at hsz HB0 HK0 F24 F25 F26 ⊢
  have F0 : Hid (∀ (j : Nat) (v : Value), t.cl[j]? = some v → V[j]? = some v) := hid (by rw [← hV]; exact tmV_front r)
  clear hV hr
  go_enter Try.func4, Try.ntmps4
  go_wp2_with (first
    | (refine bxT (by rfl) 35 _ (by rfl) _ (by rfl) hsz.out ?_)
    | (go_at_call 7
       (with_reducible refine (call_alive HK0).mono ?_)
       rintro e u1 ⟨rfl, k, HK1⟩
       have HB1 := hid (box_below HB0.out k.out)
       clear k HB0 HK0))
  obtain ⟨r1, r2⟩ := front_R (W := u1.drew) (g := w.heap.size) hl HB1.out F0.out
  obtain ⟨r3, r4⟩ := front_R (W := (u1.alloc (.cells #[.int .u8 0, .int .u8 0, .int .u8 0, .int .u8 0, .int .u8 0, .int .u8 0, .int .u8 0, .int .u8 0, .int .u8 0, .int .u8 0, .int .u8 0, .int .u8 0, .int .u8 0, .int .u8 0, .int .u8 0, .int .u8 0, .int .u8 0, .int .u8 0, .int .u8 0, .int .u64 0, .int .u32 0, .int .u32 0, .int .i64 0, .int .i64 0] 26)).drew) (g := w.heap.size) hl (box_below HB1.out (bel_dr (bel_al (Below.refl _ _)))) F0.out
  obtain ⟨r31, r41⟩ := front_R (W := u1.drew.alloc (.cells #[.int .u8 0, .int .u8 0, .int .u8 0, .int .u8 0, .int .u8 0, .int .u8 0, .int .u8 0, .int .u8 0, .int .u8 0, .int .u8 0, .int .u8 0, .int .u8 0, .int .u8 0, .int .u8 0, .int .u8 0, .int .u8 0, .int .u8 0, .int .u8 0, .int .u8 0, .int .u64 0, .int .u32 0, .int .u32 0, .int .i64 0, .int .i64 0] 26)) (g := w.heap.size) hl (box_below HB1.out (bel_al (bel_dr (Below.refl _ _)))) F0.out
  have r5 := isB_new u1 #[.int .u8 0, .int .u8 0, .int .u8 0, .int .u8 0, .int .u8 0, .int .u8 0, .int .u8 0, .int .u8 0, .int .u8 0, .int .u8 0, .int .u8 0, .int .u8 0, .int .u8 0, .int .u8 0, .int .u8 0, .int .u8 0, .int .u8 0, .int .u8 0, .int .u8 0, .int .u64 0, .int .u32 0, .int .u32 0, .int .i64 0, .int .i64 0] rfl
  have r51 := isB_new u1.drew #[.int .u8 0, .int .u8 0, .int .u8 0, .int .u8 0, .int .u8 0, .int .u8 0, .int .u8 0, .int .u8 0, .int .u8 0, .int .u8 0, .int .u8 0, .int .u8 0, .int .u8 0, .int .u8 0, .int .u8 0, .int .u8 0, .int .u8 0, .int .u8 0, .int .u8 0, .int .u64 0, .int .u32 0, .int .u32 0, .int .i64 0, .int .i64 0] rfl
  have r52 : isB (u1.alloc (.cells #[.int .u8 0, .int .u8 0, .int .u8 0, .int .u8 0, .int .u8 0, .int .u8 0, .int .u8 0, .int .u8 0, .int .u8 0, .int .u8 0, .int .u8 0, .int .u8 0, .int .u8 0, .int .u8 0, .int .u8 0, .int .u8 0, .int .u8 0, .int .u8 0, .int .u8 0, .int .u64 0, .int .u32 0, .int .u32 0, .int .i64 0, .int .i64 0] 26)).drew u1.heap.size = true := r5
  have r53 : isB (u1.drew.alloc (.cells #[.int .u8 0, .int .u8 0, .int .u8 0, .int .u8 0, .int .u8 0, .int .u8 0, .int .u8 0, .int .u8 0, .int .u8 0, .int .u8 0, .int .u8 0, .int .u8 0, .int .u8 0, .int .u8 0, .int .u8 0, .int .u8 0, .int .u8 0, .int .u8 0, .int .u8 0, .int .u64 0, .int .u32 0, .int .u32 0, .int .i64 0, .int .i64 0] 26)) u1.heap.size = true := r51
  have hne : w.heap.size ≠ u1.heap.size := by have := HB1.out.lt; omega
  have c24 : u1.cell? ⟨w.heap.size, 24, none⟩ = some (.int .i64 col) := (HB1.out.cell 24).trans F24.out
  have d24 : ∀ o, (u1.alloc o).cell? ⟨w.heap.size, 24, none⟩ = some (.int .i64 col) := fun o => cellOld o c24
  have e24 : ∀ o cs, ((u1.alloc o).drew.setRow u1.heap.size cs).cell? ⟨w.heap.size, 24, none⟩ = some (.int .i64 col) := fun o cs => (cell_setRow_other _ _ _ _ hne).trans (d24 o)
  have c25 : u1.cell? ⟨w.heap.size, 25, none⟩ = some (.slice A n c) := (HB1.out.cell 25).trans F25.out
  have d25 : ∀ o, (u1.alloc o).cell? ⟨w.heap.size, 25, none⟩ = some (.slice A n c) := fun o => cellOld o c25
  have e25 : ∀ o cs, ((u1.alloc o).drew.setRow u1.heap.size cs).cell? ⟨w.heap.size, 25, none⟩ = some (.slice A n c) := fun o cs => (cell_setRow_other _ _ _ _ hne).trans (d25 o)
  have c26 : u1.cell? ⟨w.heap.size, 26, none⟩ = some (.int .i64 room) := (HB1.out.cell 26).trans F26.out
  have d26 : ∀ o, (u1.alloc o).cell? ⟨w.heap.size, 26, none⟩ = some (.int .i64 room) := fun o => cellOld o c26
  have e26 : ∀ o cs, ((u1.alloc o).drew.setRow u1.heap.size cs).cell? ⟨w.heap.size, 26, none⟩ = some (.int .i64 room) := fun o cs => (cell_setRow_other _ _ _ _ hne).trans (d26 o)
  obtain ⟨r6, r7⟩ := okS_cs hl
  go_region
  all_goals
    obtain ⟨HK3, HG3, HL3⟩ := bel_new (g := u1.heap.size) t.cs #[.int .u8 0, .int .u8 0, .int .u8 0, .int .u8 0, .int .u8 0, .int .u8 0, .int .u8 0, .int .u8 0, .int .u8 0, .int .u8 0, .int .u8 0, .int .u8 0, .int .u8 0, .int .u8 0, .int .u8 0, .int .u8 0, .int .u8 0, .int .u8 0, .int .u8 0, .int .u64 0, .int .u32 0, .int .u32 0, .int .i64 0, .int .i64 0] rfl HK1
    generalize hW : World.setRow _ _ _ = u3 at HK3 HG3 HL3 ⊢
    clear hW r1 r2 r3 r4 r31 r41 r5 r51 r52 r53 c24 d24 e24 c25 d25 e25 c26 d26 e26 hne HB1 HL3 HK1
    generalize u1.heap.size = g3 at HG3 ⊢
    clear F24 F25 F26 F0 r6 r7 hsz
    have X3 := slb_at hx HK3
    as_aux_lemma =>
      by_cases h1 : 300 < n
      · have k1 : (300 : Int) < (n : Int) := by omega
        go_wp2
        go_ret
        exact ⟨rfl, HK3⟩
      · have k1 : ¬ (300 : Int) < (n : Int) := by omega
        have hm : n ≤ 400000 := by omega
        obtain ⟨f, hf⟩ : ∃ f, Hid (poF t = f) := ⟨_, hid rfl⟩
        obtain ⟨M, hM⟩ : ∃ M, Hid (fitP f (nrm col) bs room = M) := ⟨_, hid rfl⟩
        go_wp2
        obtain ⟨q1, q2⟩ := box_isB HG3.out ht.len
        refine wp_region_grown (by kernel_rfl) (by kernel_rfl) ?_
        repeat (go_big_quiet_step (first | (go_at_call 13; with_reducible exact q13 ht hf X3 hn hm hri hM) | (go_at_call 14; with_reducible exact q14 ht hf X3 hn hm hM)))
        refine wpQuiet_nil ?_
        intro z
        have B6 := bel_t HK3 z.b
        clear q1 q2
        go_wp2
        go_ret
        exact ⟨rfl, B6⟩
theorem fits_walk (w : World) (t : Tm) (ht : t.Ok) (col room : Int) (A : Option Addr) (c n : Nat) (bs : List UInt8) (hx : Hid (SlB w w.heap.size A c bs)) (hn : bs.length = n) (hri : i64ok room) :
    Calls Try.prog 4 #[.agg (tmV t [.int .i64 col, .slice A n c, .int .i64 room])] w fun e w' => e = .returned (.bool true) ∧ Hid (Below w.heap.size w w') :=
  fits_walk0 w t ht col room A c n bs hx (hid hn) hri.2 _ rfl
end Go.Proofs.Ytjncahcigbdbgaa
