import Derived.Test.YteeienmigoebmaaGreatDoorKL
import Derived.Shelf.Strings.Builder1
namespace Go.Proofs.YteeienmigoebmaaGreatDoor
namespace L19
open Go.RowKit L18

/-! Layer 19, the program's side: a builder that the call has made. -/
theorem szB : (Tryz.prog.info? 68).map (·.size) = some 2 := by kernel_rfl
theorem liesB : liesAt Tryz.prog Tryz.prog.depth 68 (2 / Tryz.prog.cellsOf 68) 0 68 1 = true := by kernel_rfl
set_option maxHeartbeats 1000000 in
set_option maxRecDepth 100000 in
theorem copy_used (b : Nat) (w : World) (h0 : w.cell? ⟨b, 0, none⟩ = some (.pointer (some ⟨b, 0, none⟩))) :
    Calls Tryz.prog 46 #[.pointer (some ⟨b, 0, none⟩)] w fun e w' => e = .returned (.tuple #[]) ∧ w' = w := by
  obtain ⟨j, hj, _⟩ := Option.map_eq_some_iff.1 szB
  go_enter Tryz.func46, Tryz.ntmps46
  go_wp2
  rw [Lib.run_neq_ptr_same w _ Tryz.underlying65 hj]
  go_wp2
  go_end0
  exact ⟨rfl, rfl⟩
set_option maxHeartbeats 1000000 in
set_option maxRecDepth 100000 in
theorem copy_fresh (b : Nat) (w : World) (h0 : w.cell? ⟨b, 0, none⟩ = some (.pointer none)) (hsh : w.shape? b = some (68, 2)) (hfz : w.frozen? ⟨b, 0, none⟩ = false) :
    Calls Tryz.prog 46 #[.pointer (some ⟨b, 0, none⟩)] w fun e w' => e = .returned (.tuple #[]) ∧ w' = w.setCell ⟨b, 0, none⟩ (.pointer (some ⟨b, 0, none⟩)) := by
  obtain ⟨j, hj, hjs⟩ := Option.map_eq_some_iff.1 szB
  go_enter Tryz.func46, Tryz.ntmps46
  go_wp2
  rw [Lib.run_to_unsafe w ⟨b, 0, none⟩ Tryz.underlying65 Tryz.underlying112 hj (by rw [hjs]; decide) hsh (Nat.zero_lt_succ 1)]
  simp only [Result.andThen]
  rw [Oper.upon_value]
  go_wp2
  rw [run_callFunc_extern Tryz.func68 (by kernel_rfl) (by kernel_rfl) (by kernel_rfl) (e := Extern.AbiNoEscape.same) (by kernel_rfl)]
  rw [Lib.run_noEscape]
  simp only [Result.andThen]
  rw [Oper.upon_value]
  go_wp2
  rw [Lib.run_from_unsafe w ⟨b, 0, none⟩ Tryz.underlying112 Tryz.underlying65 hj hsh liesB]
  simp only [Result.andThen]
  rw [Oper.upon_value]
  go_wp2
  go_end0
  exact ⟨rfl, rfl⟩
theorem strC (s : List UInt8) : Lib.strCells (bs s) = Lib.byteCells s := by simp [Lib.strCells, Lib.byteCells, bs]
theorem byteCells_app (a b : List UInt8) : Lib.byteCells (a ++ b) = Lib.byteCells a ++ Lib.byteCells b := by simp [Lib.byteCells]
theorem byteCells_len (a : List UInt8) : (Lib.byteCells a).length = a.length := by simp [Lib.byteCells]
abbrev BldS (w : World) (B b : Nat) (l : List UInt8) : Prop := Lib.IsBuilder 68 5 B b (Lib.byteCells l) w
theorem copy_any {w : World} {B b : Nat} {bc : List Value} (h : Lib.IsBuilder 68 5 B b bc w) :
    Calls Tryz.prog 46 #[.pointer (some ⟨b, 0, none⟩)] w fun e w' => e = .returned (.tuple #[]) ∧ Lib.BuilderAt 68 5 B b (.pointer (some ⟨b, 0, none⟩)) bc w' ∧ Kept B [68, 5] w w' := by
  rcases h with h | h
  · refine (copy_fresh b w h.cell0 h.shape h.frozen0).mono ?_
    rintro e w' ⟨rfl, rfl⟩
    obtain ⟨hB, v, hbk, _⟩ := id h
    exact ⟨rfl, h.used _, (Kept.refl _ _ w).store (t := 68) hbk hB (by simp) _⟩
  · refine (copy_used b w h.cell0).mono ?_
    rintro e w' ⟨rfl, rfl⟩
    exact ⟨rfl, h, Kept.refl _ _ _⟩
set_option maxHeartbeats 2000000 in
set_option maxRecDepth 100000 in
theorem writeS_any {w : World} {B b : Nat} {l s : List UInt8} (h : Hid (BldS w B b l)) (hlen : l.length + s.length ≤ 140737488355328) (hBw : B ≤ w.heap.size) :
    Calls Tryz.prog 19 #[.pointer (some ⟨b, 0, none⟩), .string (bs s)] w fun e w' => (∃ v, e = .returned (.tuple #[v, .nilIface])) ∧ Hid (BldS w' B b (l ++ s)) ∧ Hid (Kept B [68, 5] w w') := by
  obtain ⟨i0, hi, hz0, hz1, hz2⟩ := info_parts infoU8
  have hl1 := byteCells_len l
  have hss := bs_size s
  go_enter Tryz.func19, Tryz.ntmps19
  go_wp2_with (first
    | (go_at_call 46
       refine (copy_any h.out).mono ?_
       rintro e w1 ⟨rfl, h1, k1⟩
       obtain ⟨hB, v, hbk, hown, hne⟩ := h1
       have c0 : w1.cell? ⟨b, 0, none⟩ = some (.pointer (some ⟨b, 0, none⟩)) := by rw [Lib.cell_of_heap hbk]; rfl
       have c1 : w1.cell? ⟨b, 1, none⟩ = some v := by rw [Lib.cell_of_heap hbk]; rfl)
    | (at_builtin
       refine Lib.wpList_append_own_string _ rfl _ _ 66 9 rfl B 5 i0 Tryz.underlying66 Tryz.underlying9 hi hz0 hz1 hz2 _ _ _ rfl hown (bs s) rfl ?c3 ?c4 ?c5 ?_
       case c3 => unfold maxLen; omega
       case c4 => omega
       case c5 => exact Nat.le_trans hBw k1.size
       intro v' w2 hown' hgrow hx9
       have hlt : b < w1.heap.size := by
         rcases Nat.lt_or_ge b w1.heap.size with h' | h'
         · exact h'
         · simp [Array.getElem?_eq_none h'] at hbk
       have hb2 : w2.heap[b]? = some (.cells #[.pointer (some ⟨b, 0, none⟩), v] 68 (0, 0)) := by
         rw [hgrow.block b hlt (fun e => hne e.symm)]
         exact hbk
       have d0 : w2.cell? ⟨b, 0, none⟩ = some (.pointer (some ⟨b, 0, none⟩)) := by rw [Lib.cell_of_heap hb2]; rfl
       have d1 : w2.cell? ⟨b, 1, none⟩ = some v := by rw [Lib.cell_of_heap hb2]; rfl
       have f1 : w2.frozen? ⟨b, 1, none⟩ = false := Lib.frozen_of_heap hb2 1
       obtain ⟨ao, n', cap, rfl⟩ : ∃ ao n' cap, v' = .slice ao n' cap := by
         rcases hown'.2 with ⟨hv, _⟩ | ⟨g, cap, cur, hv, _⟩
         · exact ⟨_, _, _, hv⟩
         · exact ⟨_, _, _, hv⟩
       have HO := hid hown'
       have HK : Hid (Kept B [68, 5] w w2) := hid (k1.grown hgrow (fun k hk => by
         obtain ⟨hk1, cs, hk2⟩ := own_box hown k hk
         exact ⟨hk1, 5, cs, by simp, hk2⟩))
       clear hown' hown hgrow))
  go_ret2
  refine ⟨⟨_, rfl⟩, hid (.inr ?_), hid (HK.out.store (t := 68) hb2 hB (by simp) _)⟩
  rw [byteCells_app, ← strC]
  exact Lib.BuilderAt.put (T := 68) (e := 5) hB hb2 (bs' := Lib.byteCells l ++ Lib.strCells (bs s)) (by simpa [Lib.strCells_length] using HO.out) (by decide)
end L19
end Go.Proofs.YteeienmigoebmaaGreatDoor
namespace Go.Proofs.YteeienmigoebmaaGreatDoor
namespace L19
open Go.RowKit L18

/-! Layer 19, the program's side: Print. -/
theorem bldAt_up {w w' : World} {T e : TypeId} {B b : Nat} {p : Value} {l : List Value} (h : Lib.BuilderAt T e B b p l w) (hb : Below w.heap.size w w') : Lib.BuilderAt T e B b p l w' := by
  obtain ⟨hB, v, hbk, hown, hne⟩ := id h
  exact ⟨hB, v, (hb.block b h.lt).trans hbk, own_keep hown hb, hne⟩
theorem bld_up {w w' : World} {B b : Nat} {l : List UInt8} (h : Hid (BldS w B b l)) (hb : Below w.heap.size w w') : Hid (BldS w' B b l) := hid (h.out.elim (fun h => .inl (bldAt_up h hb)) (fun h => .inr (bldAt_up h hb)))
theorem bld_new (u : World) : BldS (u.alloc (.cells #[.pointer none, .slice none 0 0] 68)) u.heap.size u.heap.size [] :=
  .inl ⟨Nat.le_refl _, .slice none 0 0, Box.new u _ _, World.ownsRow_nil _ _ _ _, by simp [Value.ownBlock]⟩
theorem kept_in {B : Nat} {u w w' : World} {T : List TypeId} (h : Hid (Below B u w)) (k : Hid (Kept B T w w')) (hB : B ≤ w.heap.size) : Hid (Below B u w') := hid (h.out.trans (k.out.below hB))
theorem below_in {B : Nat} {u w w' : World} (h : Hid (Below B u w)) (k : Hid (Below w.heap.size w w')) (hB : B ≤ w.heap.size) : Hid (Below B u w') := hid (h.out.trans (k.out.mono hB))
set_option maxRecDepth 100000 in
set_option maxHeartbeats 8000000 in
theorem print_one {w : World} (H : Hid (TabX w)) {A : Option Addr} {n c : Nat} {X : List PgX} (hl : Hid (PgM w w.heap.size A c X)) (hn : Hid (X.length = n)) {s : List UInt8} {e0 : Int} (he : Hid (printP (prL X) = (s, e0))) :
    Calls Tryz.prog 10 #[.slice A n c] w fun e w' => e = .returned (.tuple #[.string (bs s), .int .i64 e0]) ∧ Hid (Below w.heap.size w w') := by
  obtain ⟨ck, hck⟩ : ∃ z, Hid (checkP (prL X) = z) := ⟨_, hid rfl⟩
  go_enter Tryz.func10, Tryz.ntmps10
  by_cases h0 : ¬ ck = 0
  · have h5 : [] = s ∧ ck = e0 := by
      have := he.out
      unfold printP at this
      rw [hck.out, if_pos h0] at this
      injection this with h1 h2
      exact ⟨h1, h2⟩
    obtain ⟨rfl, rfl⟩ := h5
    have tb : (ck != 0) = true := by simp [h0]
    go_wp2_with (first
      | (go_at_call 15
         (with_reducible refine (check_one (TabX.w H) hl hn hck).mono ?_)
         rintro e w1 ⟨rfl, B1⟩))
    go_ret2
    exact ⟨rfl, B1⟩
  have h1 : ck = 0 := by simpa using h0
  subst h1
  clear h0
  have h5 : printT (prL X) = s ∧ 0 = e0 := by
    have := he.out
    unfold printP at this
    rw [hck.out, if_neg (by simp)] at this
    injection this with h1 h2
    exact ⟨h1, h2⟩
  obtain ⟨hs, rfl⟩ := h5
  have HS := hid hs
  have hn32 : n ≤ 32 := by
    have := (check_scan hck.out).2.1
    rw [prL_len, hn.out] at this
    exact this
  have HLn : Hid ((prL X).length = n) := hid (by rw [prL_len]; exact hn.out)
  clear he hs
  go_upto_region 5 with (first
    | (go_at_call 15
       (with_reducible refine (check_one (TabX.w H) hl hn hck).mono ?_)
       rintro e w0 ⟨rfl, C0⟩)
    | (go_at_call 18
       (with_reducible refine (allRows_any _).mono ?_)
       rintro e w1 ⟨rfl, C1⟩)
    | (refine stG rows_sz rows_one (by rfl) _ _ (by rfl) _ (by rfl) (by rfl) 63 Tryz.zeroCells63 (hid (Box.new w1 _ _)) (by kernel_rfl) ?_
       intro u XR hu
       have K2 := set_up (hid ((bel_3 C0 C1).out.alloc (bel_3 C0 C1).out.size _)) hu (bel_3 C0 C1).out.size))
  obtain ⟨gr, hgr⟩ : ∃ z, w1.heap.size = z := ⟨_, rfl⟩
  rw [hgr] at XR
  simp only [hgr]
  have HX := TabX.below H K2.out
  have L2 := pg_up hl K2.out
  clear hu C0 C1 hgr
  obtain ⟨B, hB⟩ : ∃ z, u.heap.size = z := ⟨_, rfl⟩
  have N0 := hid (bld_new u)
  have M0 : Hid (Below B u (u.alloc (.cells #[.pointer none, .slice none 0 0] 68))) := hid (by rw [← hB]; exact (Below.refl _ u).alloc (Nat.le_refl _) _)
  have Z0 : B ≤ (u.alloc (.cells #[.pointer none, .slice none 0 0] 68)).heap.size := by rw [← hB]; simp
  rw [hB] at N0
  go_upto_region 6 with fail
  generalize u.alloc (.cells #[.pointer none, .slice none 0 0] 68) = u2 at N0 M0 Z0 ⊢
  have up : ∀ W, Hid (Below B u W) → Below u.heap.size u W := fun W h => hB ▸ h.out
  go_wp2
  go_loopw [19] (fun y wr => ∃ (k : Nat) (r : List UInt8), y = .int .i64 (k : Int) ∧ k ≤ n ∧ r.length ≤ k * 1000000 ∧ Hid (printT ((prL X).take k) = r) ∧ Hid (BldS wr B B r) ∧ Hid (Below B u wr) ∧ B ≤ wr.heap.size) (fun y _ => n - (intOf y).toNat)
  case atStart => exact ⟨0, [], rfl, Nat.zero_le _, by simp, hid rfl, N0, M0, Z0⟩
  case round =>
    obtain ⟨k, r, rfl, hk, hr, HR, HN, HM, HZ⟩ := hrel
    have hw7 : IntKind.i64.wrap ((k : Int) + 1) = (k : Int) + 1 := IntWalk.i64_in _ (by omega)
    by_cases hlt : k < n
    · have hi : (k : Int) < n := by omega
      obtain ⟨b, o, x, hA, hx, c0, c1, hS⟩ := (pg_up L2 (up _ HM)).out.at (k := k) (by rw [hn.out]; exact hlt)
      subst hA
      have hxk : (prL X)[k]? = some x.1 := by simp [prL, hx]
      have hch := check_at hck.out hxk
      have HT := hid (print_take hxk)
      have hSU := L2.out.text x (List.mem_of_getElem? hx)
      obtain ⟨⟨nm, ops⟩, oA, oc⟩ := x
      simp only at c0 c1 hS HT hch hSU
      have SU := hid hSU
      obtain ⟨q, hq⟩ : ∃ z, Hid (ops.length = z) := ⟨_, hid rfl⟩
      rw [hq.out] at c1
      have hq64 : q ≤ 64 := by rw [← hq.out]; exact hch.2.1
      have HRO : Hid (∀ o ∈ ops, rightO o k n = true) := hid (by have := hch.2.2; rw [HLn.out] at this; exact this)
      have hnl : nm.length ≤ 64 := by
        have := hch.1
        unfold namedB at this
        simp at this
        omega
      clear hch hS hx hxk hSU
      obtain ⟨x1, hx1⟩ : ∃ z, progW ++ nm = z := ⟨_, rfl⟩
      obtain ⟨x2, hx2⟩ : ∃ z, x1 ++ [10] = z := ⟨_, rfl⟩
      obtain ⟨r1, hr1⟩ : ∃ z, r ++ x2 = z := ⟨_, rfl⟩
      have l1 : x1.length = 5 + nm.length := by rw [← hx1, List.length_append]; rfl
      have l2 : x2.length = x1.length + 1 := by rw [← hx2, List.length_append]; rfl
      have l3 : r1.length = r.length + x2.length := by rw [← hr1, List.length_append]
      have s1 : ¬ 9223372036854775807 < (⟨#[112, 114, 111, 103, 32]⟩ : ByteArray).size + (bs nm).size := cat_ok (a := progW) (b := nm) (by simp [progW]; omega)
      have e1 : (⟨#[112, 114, 111, 103, 32]⟩ : ByteArray) ++ bs nm = bs x1 := by rw [← hx1]; exact (bs_app progW nm).symm
      have s2 : ¬ 9223372036854775807 < (bs x1).size + (⟨#[10]⟩ : ByteArray).size := cat_ok (a := x1) (b := [10]) (by simp; omega)
      have e2 : bs x1 ++ (⟨#[10]⟩ : ByteArray) = bs x2 := by rw [← hx2]; exact (bs_app x1 [10]).symm
      have HR1 : Hid (r1 = r ++ (progW ++ nm ++ [10])) := hid (by rw [← hr1, ← hx2, ← hx1])
      have HW1 : Hid (r ++ x2 = r1) := hid hr1
      have hr1b : r1.length ≤ k * 1000000 + 100 := by omega
      have hlen1 : r.length + x2.length ≤ 140737488355328 := by omega
      clear l1 l2 l3 hx1 hx2 hr1
      have k1 : ∀ ob, Below wr.heap.size wr (wr.alloc ob) := fun ob => (Below.refl _ wr).alloc (Nat.le_refl _) ob
      go_upto_region 9 with fail
      have M1 := below_in HM (hid (k1 (.cells #[.string (bs nm), .slice oA q oc] 43))) HZ
      have N1 := bld_up HN (k1 (.cells #[.string (bs nm), .slice oA q oc] 43))
      have G1 := hid (Box.new wr 43 #[.string (bs nm), .slice oA q oc])
      have Z1 : B ≤ (wr.alloc (.cells #[.string (bs nm), .slice oA q oc] 43)).heap.size := Nat.le_trans HZ (k1 _).size
      generalize wr.alloc (.cells #[.string (bs nm), .slice oA q oc] 43) = u1 at M1 N1 G1 Z1 ⊢
      have d0 := G1.out.cell 0
      have d1 := G1.out.cell 1
      generalize wr.heap.size = g1 at G1 d0 d1 ⊢
      clear k1 c0 c1 HM HN HZ
      go_upto_region 10 with (first
        | (go_at_call 19
           (with_reducible refine (writeS_any N1 hlen1 Z1).mono ?_)
           rintro e u3 ⟨⟨vv, rfl⟩, N3, KK⟩))
      have M3 := kept_in M1 KK Z1
      have Z3 : B ≤ u3.heap.size := Nat.le_trans Z1 KK.out.size
      have d1 := (KK.out.box G1.out (by decide)).cell 1
      rw [HW1.out] at N3
      clear KK N1 M1 Z1 d0 G1 s1 s2 e1 e2
      go_wp2
      go_loopw [31] (fun y wq => ∃ (j : Nat) (r2 : List UInt8), y = .int .i64 (j : Int) ∧ j ≤ q ∧ r2.length ≤ k * 1000000 + 100 + j * 10000 ∧ Hid (r2 = r1 ++ ended ((ops.take j).map opLine)) ∧ Hid (BldS wq B B r2) ∧ Hid (Below B u wq) ∧ B ≤ wq.heap.size) (fun y _ => q - (intOf y).toNat)
      case atStart => exact ⟨0, r1, rfl, Nat.zero_le _, by omega, hid (by simp [ended]), N3, M3, Z3⟩
      case round =>
        obtain ⟨j, r2, rfl, hj, hl2, HR2, HNj, HMj, HZj⟩ := hrel
        have hw8 : IntKind.i64.wrap ((j : Int) + 1) = (j : Int) + 1 := IntWalk.i64_in _ (by omega)
        by_cases hjq : j < q
        · have hij : (j : Int) < q := by omega
          obtain ⟨b9, o9, y, hA9, hy, f0, f1, f2, f3⟩ := (ops_up SU (up _ HMj)).out.at (k := j) (by rw [hq.out]; exact hjq)
          subst hA9
          have hro := HRO.out y (List.mem_of_getElem? hy)
          obtain ⟨ka, kb, kc⟩ := right_kind hro
          obtain ⟨a0, a1, b0, b1⟩ := right_a hro (by omega) (by omega)
          have htl := right_text hro
          have HY := hid (take_at hy)
          obtain ⟨y1, ay, byy, t⟩ := y
          simp only at ka kb kc a0 a1 b0 b1 htl f0 f1 f2 f3 HY
          obtain ⟨kk, rfl⟩ : ∃ z : Nat, y1 = (z : Int) := ⟨y1.toNat, kc.symm⟩
          obtain ⟨a, rfl⟩ := Int.eq_ofNat_of_zero_le a0
          obtain ⟨bb, rfl⟩ := Int.eq_ofNat_of_zero_le b0
          rw [Int.toNat_natCast] at ka kb
          obtain ⟨ln, hln⟩ : ∃ z, Hid (opLine ((kk : Int), (a : Int), (bb : Int), t) = z) := ⟨_, hid rfl⟩
          have hlnl : ln.length ≤ 3300 := by
            rw [← hln.out, opLine_is, List.length_append]
            have d0 := word_len7 (show kk ≤ 16 by omega)
            have d1 := dig_len6 (show a ≤ 999999 by omega)
            have d2 := dig_len6 (show bb ≤ 999999 by omega)
            have d3 := esc_all t
            unfold behindL
            simp only [Int.toNat_natCast]
            split
            · rw [List.length_cons]; omega
            · split
              · simp; omega
              · split
                · rw [List.length_cons]; omega
                · simp; omega
          obtain ⟨x5, hx5⟩ : ∃ z, ln ++ [10] = z := ⟨_, rfl⟩
          have l5 : x5.length = ln.length + 1 := by rw [← hx5, List.length_append]; rfl
          obtain ⟨r4, hr4⟩ : ∃ z, r2 ++ x5 = z := ⟨_, rfl⟩
          have l4 : r4.length = r2.length + x5.length := by rw [← hr4, List.length_append]
          have s5 : ¬ 9223372036854775807 < (bs ln).size + (⟨#[10]⟩ : ByteArray).size := cat_ok (a := ln) (b := [10]) (by simp; omega)
          have e5 : bs ln ++ (⟨#[10]⟩ : ByteArray) = bs x5 := by rw [← hx5]; exact (bs_app ln [10]).symm
          have HR4 : Hid (r4 = r1 ++ ended ((ops.take (j + 1)).map opLine)) := hid (by
            rw [HY.out, List.map_append, List.map_cons, List.map_nil, ended_snoc, ← List.append_assoc, ← HR2.out, hln.out, hx5, hr4])
          have HW4 : Hid (r2 ++ x5 = r4) := hid hr4
          have hl4 : r4.length ≤ k * 1000000 + 100 + (j + 1) * 10000 := by omega
          have hlen4 : r2.length + x5.length ≤ 140737488355328 := by omega
          have ha9 : a ≤ 999999 := by omega
          have hb9 : bb ≤ 999999 := by omega
          have hk16 : kk ≤ 16 := by omega
          clear hx5 hr4 l4 l5 HY hro hy a0 a1 b0 b1 kc
          have k1 : ∀ ob, Below wr.heap.size wr (wr.alloc ob) := fun ob => (Below.refl _ wr).alloc (Nat.le_refl _) ob
          have M5 : ∀ ob, Hid (Below B u (wr.alloc ob)) := fun ob => below_in HMj (hid (k1 ob)) HZj
          have N5 : ∀ ob, Hid (BldS (wr.alloc ob) B B r2) := fun ob => bld_up HNj (k1 ob)
          have H5 : ∀ ob, Hid (TabX (wr.alloc ob)) := fun ob => TabX.below HX (up _ (M5 ob))
          have X5 : ∀ ob, Hid (Box (wr.alloc ob) gr 63 rowsA) := fun ob => hid (box_below XR.out (up _ (M5 ob)))
          have Z5 : ∀ ob, B ≤ (wr.alloc ob).heap.size := fun ob => Nat.le_trans HZj (k1 ob).size
          go_wp2_with (first
            | (refine ldG Tryz.underlying63 rfl rows_sz (by rfl) _ (by rfl) _ (by rfl) 63 (X5 _) ?_)
            | (go_at_call 20
               (with_reducible refine (line_any (H5 _) ka hk16 ha9 hb9 htl hln).mono ?_)
               rintro e u6 ⟨rfl, C6⟩
               have N6 := bld_up (N5 _) C6.out
               have M6 := below_in (M5 _) C6 (Z5 _)
               have Z6 := Nat.le_trans (Z5 _) C6.out.size)
            | (go_at_call 19
               (with_reducible refine (writeS_any N6 hlen4 Z6).mono ?_)
               rintro e u7 ⟨⟨vv, rfl⟩, N7, K7⟩
               have M7 := kept_in M6 K7 Z6
               have Z7 := Nat.le_trans Z6 K7.out.size))
          rw [HW4.out] at N7
          go_roundw
          case rel => exact ⟨j + 1, r4, by go_num, by omega, hl4, HR4, N7, M7, Z7⟩
          case measure => simp [intOf] <;> omega
        · have hij : ¬ (j : Int) < q := by omega
          have e : ops.take j = ops := List.take_of_length_le (by rw [hq.out]; omega)
          have HR3 : Hid (printT ((prL X).take (k + 1)) = r2) := hid (by
            rw [HT.out, HR.out, HR2.out, HR1.out, e]
            simp [ended, List.append_assoc])
          have hb2 : r2.length ≤ (k + 1) * 1000000 := by omega
          clear e HR2 HT HR HR1
          go_wp2
          go_roundw
          case rel => exact ⟨k + 1, r2, by go_num, by omega, hb2, HR3, HNj, HMj, HZj⟩
          case measure => simp [intOf] <;> omega
    · have hi : ¬ (k : Int) < n := by omega
      have e : (prL X).take k = prL X := List.take_of_length_le (by rw [HLn.out]; omega)
      rw [e, HS.out] at HR
      have hrs := HR.out
      subst hrs
      clear e HR
      go_wp2_with (first
        | (go_at_call 21
           (with_reducible refine (Tryz.Builder_String_any _ _ _ _ HN.out HZ).mono ?_)
           rintro e u3 ⟨rfl, KK⟩))
      go_ret2
      exact ⟨rfl, hid (K2.out.trans ((up _ (hid (HM.out.trans KK))).mono K2.out.size))⟩
end L19
end Go.Proofs.YteeienmigoebmaaGreatDoor
namespace Go.Proofs.YteeienmigoebmaaGreatDoor
namespace L19
open Go.RowKit L18

/-! Layer 19, the program's side: the library's cuts in this layer's words. -/
theorem ix_here (d : UInt8) (l : List UInt8) : Lib.index (d :: l) [d] = 0 := by simp [Lib.index]
theorem ix_other {d b : UInt8} (l : List UInt8) (h : b ≠ d) : Lib.index (b :: l) [d] = if Lib.index l [d] == -1 then -1 else Lib.index l [d] + 1 := by
  have : ([d] : List UInt8).isPrefixOf (b :: l) = false := by simp [List.isPrefixOf]; exact fun e => h e.symm
  rw [Lib.index, this]
  simp
theorem cutL_here (d : UInt8) (l : List UInt8) : cutL d (d :: l) = [] :: cutL d l := by simp [cutL]
theorem cutL_other {d b : UInt8} (l : List UInt8) (h : b ≠ d) {x : List UInt8} {r : List (List UInt8)} (e : cutL d l = x :: r) : cutL d (b :: l) = (b :: x) :: r := by rw [cutL, if_neg h, e]
theorem cutL_cons (d : UInt8) (l : List UInt8) : ∃ x r, cutL d l = x :: r := by
  cases h : cutL d l with
  | nil => exact absurd h (cut_ne d l)
  | cons x r => exact ⟨x, r, rfl⟩
theorem splitK_cutL (d : UInt8) : ∀ (s : List UInt8) (k : Nat), s.count d ≤ k → Lib.splitK [d] 0 k s = cutL d s
  | [], 0, _ => rfl
  | [], k + 1, _ => by simp [Lib.splitK, Lib.index, cutL]
  | b :: l, k, h => by
    by_cases hb : b = d
    · subst hb
      cases k with
      | zero => simp at h
      | succ k =>
        have hk : l.count b ≤ k := by simp at h; omega
        rw [cutL_here, ← splitK_cutL b l k hk, Lib.splitK, ix_here]
        simp
    · have hc : (b :: l).count d = l.count d := by rw [List.count_cons]; simp [hb]
      rw [hc] at h
      cases k with
      | zero =>
        have := splitK_cutL d l 0 h
        rw [Lib.splitK] at this
        rw [cutL_other l hb this.symm, Lib.splitK]
      | succ k =>
        have := splitK_cutL d l (k + 1) h
        rw [Lib.splitK] at this
        rw [Lib.splitK, ix_other l hb]
        by_cases hi : (Lib.index l [d] == -1) = true
        · rw [if_pos hi] at this
          rw [if_pos hi, if_pos (by simp), cutL_other l hb this.symm]
        · have hge := Lib.index_ge l [d]
          have hi' : ¬ Lib.index l [d] = -1 := by simpa using hi
          rw [if_neg hi] at this
          have h0 : ¬ ((Lib.index l [d] + 1 == -1) = true) := by simp; omega
          rw [if_neg hi, if_neg h0, cutL_other l hb this.symm]
          have e : (Lib.index l [d] + 1).toNat = (Lib.index l [d]).toNat + 1 := by omega
          rw [e]
          simp
/-- What stands ahead of the first such byte, what behind it, and whether there is one. -/
theorem cut_lib (d : UInt8) : ∀ (s : List UInt8) (x : List UInt8) (r : List (List UInt8)), cutL d s = x :: r → Lib.cut s [d] = (x, joinL d r, !r.isEmpty)
  | [], x, r, h => by
    simp [cutL] at h
    obtain ⟨rfl, rfl⟩ := h
    simp [Lib.cut, Lib.index, joinL]
  | b :: l, x, r, h => by
    by_cases hb : b = d
    · subst hb
      rw [cutL_here] at h
      injection h with h1 h2
      subst h1
      obtain ⟨y, q, hy⟩ := cutL_cons b l
      have hj := cut_join b l
      unfold Lib.cut
      rw [ix_here]
      simp only [Int.le_refl, if_true, Int.toNat_zero, List.take_zero, Nat.zero_add, List.length_singleton, List.drop_succ_cons, List.drop_zero]
      rw [← h2, hj, hy]
      rfl
    · obtain ⟨y, q, hy⟩ := cutL_cons d l
      rw [cutL_other l hb hy] at h
      injection h with h1 h2
      subst h1 h2
      have ih := cut_lib d l y q hy
      unfold Lib.cut at ih ⊢
      rw [ix_other l hb]
      have hge := Lib.index_ge l [d]
      by_cases hi : 0 ≤ Lib.index l [d]
      · have h0 : (Lib.index l [d] == -1) = false := by simp; omega
        rw [if_pos hi] at ih
        rw [h0]
        simp only [Bool.false_eq_true, if_false]
        rw [if_pos (by omega)]
        have e : (Lib.index l [d] + 1).toNat = (Lib.index l [d]).toNat + 1 := by omega
        rw [e]
        simp only [Prod.mk.injEq] at ih ⊢
        obtain ⟨i1, i2, i3⟩ := ih
        refine ⟨by rw [List.take_succ_cons, i1], ?_, i3⟩
        rw [← i2]
        simp
      · have h0 : (Lib.index l [d] == -1) = true := by simp; omega
        rw [if_neg hi] at ih
        rw [h0]
        simp only [if_true]
        rw [if_neg (by decide)]
        simp only [Prod.mk.injEq] at ih ⊢
        obtain ⟨i1, i2, i3⟩ := ih
        exact ⟨by rw [i1], i2, i3⟩
section
variable {w : World}
theorem cut_any (H : Hid (TabX w)) {d : UInt8} {s x : List UInt8} {r : List (List UInt8)} (hl : s.length ≤ 262144) (h : Hid (cutL d s = x :: r)) {y : List UInt8} (hy : Hid (joinL d r = y)) {b : Bool} (hb : Hid ((!r.isEmpty) = b)) :
    Calls Tryz.prog 53 #[.string (bs s), .string ⟨#[d]⟩] w fun e w' => e = .returned (.tuple #[.string (bs x), .string (bs y), .bool b]) ∧ Hid (Below w.heap.size w w') := by
  obtain ⟨m, hm⟩ := H.out.mx
  refine (Tryz.strings_Cut (bs s) ⟨#[d]⟩ m w (by rw [bs_size]; omega) hm).mono fun e w' h' => ?_
  obtain ⟨rfl, k, rfl⟩ := h'
  have e1 : (bs s).data.toList = s := by simp [bs]
  have e2 : (⟨#[d]⟩ : ByteArray).data.toList = [d] := rfl
  rw [e1, e2, cut_lib d s x r h.out, hy.out, hb.out]
  exact ⟨rfl, hid (drewN_below _ _)⟩
theorem split_any (H : Hid (TabX w)) {d : UInt8} {s : List UInt8} (hl : s.length ≤ 262144) {n : Nat} (hn : Hid ((cutL d s).length = n)) :
    Calls Tryz.prog 75 #[.string (bs s), .string ⟨#[d]⟩] w fun e w' => ∃ g, e = .returned (.slice (some ⟨g, 0, none⟩) n n) ∧ Hid (Lies w' w'.heap.size (some ⟨g, 0, none⟩) ((cutL d s).map fun x => .string (bs x))) ∧ Hid (Below w.heap.size w w') := by
  obtain ⟨m, hm⟩ := H.out.mx
  refine (Tryz.strings_Split (bs s) ⟨#[d]⟩ m w (by rw [bs_size]; omega) hm (Nat.le_refl _)).mono fun e w' h' => ?_
  obtain ⟨rfl, rfl⟩ := h'
  have e1 : (bs s).data.toList = s := by simp [bs]
  have e2 : Lib.countB (bs s) ⟨#[d]⟩ = s.count d := by
    show Lib.count _ _ = _
    rw [e1]
    exact Lib.count_one d s
  have e3 : (Lib.splitB ⟨#[d]⟩ 0 (s.count d) (bs s)).map (·.data.toList) = cutL d s := by
    rw [Lib.splitB_data, e1]
    exact splitK_cutL d s _ (Nat.le_refl _)
  have e4 : (Lib.splitB ⟨#[d]⟩ 0 (s.count d) (bs s)).map Value.string = (cutL d s).map fun x => .string (bs x) := by
    rw [← e3, List.map_map]
    refine List.map_congr_left fun y _ => ?_
    simp [bs]
  have e5 : s.count d + 1 = n := by
    rw [← hn.out, ← e3, List.length_map]
    have := Lib.splitB_all ⟨#[d]⟩ (Nat.le_refl _) 0 (s.count d) (bs s) e2
    exact this.symm
  rw [e2, e5, e4]
  refine ⟨w.heap.size, rfl, hid ?_, bel_w w _⟩
  rw [World.size_alloc]
  have := lies_lit w ((cutL d s).map fun x => Value.string (bs x)).toArray 9
  simpa using this
theorem prefix_any (w : World) (s : List UInt8) : Calls Tryz.prog 78 #[.string (bs s), .string ⟨#[32]⟩] w fun e w' => (∀ r, s = 32 :: r → e = .returned (.tuple #[.string (bs r), .bool true])) ∧ (s.head? ≠ some 32 → e = .returned (.tuple #[.string (bs s), .bool false])) ∧ w' = w := by
  refine (Tryz.strings_CutPrefix (bs s) ⟨#[32]⟩ w).mono fun e w' h' => ?_
  obtain ⟨rfl, rfl⟩ := h'
  have e1 : (bs s).data.toList = s := by simp [bs]
  have e2 : (⟨#[32]⟩ : ByteArray).data.toList = [32] := rfl
  rw [e1, e2]
  refine ⟨fun r h => ?_, fun h => ?_, rfl⟩
  · subst h
    simp [Lib.trimPrefix, Lib.hasPrefix, bs]
  · have hp : Lib.hasPrefix s [32] = false := by
      cases s with
      | nil => rfl
      | cons c r =>
        have hc : ¬ c = 32 := fun e => h (by simp [e])
        simp [Lib.hasPrefix, List.isPrefixOf]
        exact fun e => hc e.symm
    simp [Lib.trimPrefix, hp, bs]
theorem prefix_yes (w : World) (r : List UInt8) : Calls Tryz.prog 78 #[.string (bs (32 :: r)), .string ⟨#[32]⟩] w fun e w' => e = .returned (.tuple #[.string (bs r), .bool true]) ∧ w' = w := (prefix_any w (32 :: r)).mono fun _ _ h => ⟨h.1 r rfl, h.2.2⟩
theorem prefix_no (w : World) {s : List UInt8} (h : Hid (s.head? ≠ some 32)) : Calls Tryz.prog 78 #[.string (bs s), .string ⟨#[32]⟩] w fun e w' => e = .returned (.tuple #[.string (bs s), .bool false]) ∧ w' = w := (prefix_any w s).mono fun _ _ h' => ⟨h'.2.1 h.out, h'.2.2⟩
set_option maxRecDepth 100000 in
theorem clone_any (w : World) {s : List UInt8} (hl : s.length ≤ 262144) : Calls Tryz.prog 89 #[.string (bs s)] w fun e w' => e = .returned (.string (bs s)) ∧ Hid (Below w.heap.size w w') := by
  have hs : (bs s).size ≤ 281474976710656 := by rw [bs_size]; omega
  go_enter Tryz.func89, Tryz.ntmps89
  go_wp2_with (first
    | (go_at_call 103
       (with_reducible refine (Tryz.stringslite_Clone (bs s) _ hs).mono ?_)
       rintro e w1 ⟨rfl, C1⟩))
  go_ret
  exact ⟨rfl, hid C1⟩
end
end L19
end Go.Proofs.YteeienmigoebmaaGreatDoor
