import Derived.Test.YtgollkckdnaegaaHS
namespace Go.Proofs.Ytgollkckdnaegaa
open Go.RowKit

theorem full_grow {u W : World} (hW : Below u.heap.size u W) {fn : FuncId} {args : Array Value} {bs x : List UInt8} (hx : Hid (bs = x)) (h : Calls Try.prog fn args W (Full W bs)) : Calls Try.prog fn args W (RetG u W x) :=
  ret_grow hW hx (h.mono fun _ _ ⟨p, n, he, hn, hS, hb⟩ => ⟨some p, n, n, he, hn, hS, hb⟩)
theorem Try.size38 : (Try.prog.info? 38).map (·.size) = some 27 := by kernel_rfl
theorem Try.size44 : (Try.prog.info? 44).map (·.size) = some 28 := by kernel_rfl
attribute [local go_sem ↓] wp_st26 wp_ldR ex_ld26 Go.wp_at_zero Go.wp_at_succ
attribute [local go_sem] isP_v blkV_v aggV_v
set_option maxRecDepth 100000 in
set_option maxHeartbeats 8000000 in
theorem rubs_walk0 (w : World) (t : Tm) (ht : t.Ok) (col : Int) (A A2 : Option Addr) (c c2 n n2 : Nat) (xs ys : List UInt8) (hx : Hid (SlB w w.heap.size A c xs)) (hy : Hid (SlB w w.heap.size A2 c2 ys)) (hn : Hid (xs.length = n)) (hn2 : Hid (ys.length = n2)) (r : List Value) (hr : r = [.int .i64 col, .slice A n c, .slice A2 n2 c2])
    (hb1 : n ≤ 140737488355328) (hb2 : n2 ≤ 140737488355328) :
    Calls Try.prog 5 #[.agg (tmV t r)] w fun e w' => e = .returned (.bool true) ∧ Hid (Below w.heap.size w w') := by
  have hl := ht.len
  have hs := cs_size hl
  have hsz : Hid ((Try.prog.info? 38).map (·.size) = some (tmV t r).size) := hid (by rw [tmV_size ht, hr]; exact Try.size38)
  have HB0 : Hid (Box (w.alloc (.cells (tmV t r) 38)) w.heap.size 38 (tmV t r)) := hid (Box.new w 38 _)
  have HK0 : Hid (Below w.heap.size w (w.alloc (.cells (tmV t r) 38))) := hid ((Below.refl _ w).alloc (Nat.le_refl _) _)
  have F24 : Hid ((tmV t r)[24]? = some (.int .i64 col)) := hid (tmV_back ht (j := 0) (by rw [hr]; rfl))
  have F25 : Hid ((tmV t r)[25]? = some (.slice A n c)) := hid (tmV_back ht (j := 1) (by rw [hr]; rfl))
  have F26 : Hid ((tmV t r)[26]? = some (.slice A2 n2 c2)) := hid (tmV_back ht (j := 2) (by rw [hr]; rfl))
  generalize hV : tmV t r = V at hsz HB0 HK0 F24 F25 F26 ⊢
  have F0 : Hid (∀ (j : Nat) (v : Value), t.cl[j]? = some v → V[j]? = some v) := hid (by rw [← hV]; exact tmV_front r)
  clear hV hr
  go_enter Try.func5, Try.ntmps5
  go_wp2_with (first
    | (refine bxT (by rfl) 38 _ (by rfl) _ (by rfl) hsz.out ?_)
    | (go_at_call 8
       (with_reducible refine (call_alive HK0).mono ?_)
       rintro e u1 ⟨rfl, k, HK1⟩
       have HB1 := hid (box_below HB0.out k.out)
       clear k HB0 HK0))
  obtain ⟨r1, r2⟩ := front_R (W := u1.drew) (g := w.heap.size) hl HB1.out F0.out
  obtain ⟨r3, r4⟩ := front_R (W := (u1.alloc (.cells #[.int .u8 0, .int .u8 0, .int .u8 0, .int .u8 0, .int .u8 0, .int .u8 0, .int .u8 0, .int .u8 0, .int .u8 0, .int .u8 0, .int .u8 0, .int .u8 0, .int .u8 0, .int .u8 0, .int .u8 0, .int .u8 0, .int .u8 0, .int .u8 0, .int .u8 0, .int .u64 0, .int .u32 0, .int .u32 0, .int .i64 0, .int .i64 0] 26)).drew) (g := w.heap.size) hl (box_below HB1.out (bel_dr (bel_al (Below.refl _ _)))) F0.out
  obtain ⟨r31, r41⟩ := front_R (W := u1.drew.alloc (.cells #[.int .u8 0, .int .u8 0, .int .u8 0, .int .u8 0, .int .u8 0, .int .u8 0, .int .u8 0, .int .u8 0, .int .u8 0, .int .u8 0, .int .u8 0, .int .u8 0, .int .u8 0, .int .u8 0, .int .u8 0, .int .u8 0, .int .u8 0, .int .u8 0, .int .u8 0, .int .u64 0, .int .u32 0, .int .u32 0, .int .i64 0, .int .i64 0] 26)) (g := w.heap.size) hl (box_below HB1.out (bel_al (bel_dr (Below.refl _ _)))) F0.out
  have r5 := isB_new u1 #[.int .u8 0, .int .u8 0, .int .u8 0, .int .u8 0, .int .u8 0, .int .u8 0, .int .u8 0, .int .u8 0, .int .u8 0, .int .u8 0, .int .u8 0, .int .u8 0, .int .u8 0, .int .u8 0, .int .u8 0, .int .u8 0, .int .u8 0, .int .u8 0, .int .u8 0, .int .u64 0, .int .u32 0, .int .u32 0, .int .i64 0, .int .i64 0] rfl
  have r51 := isB_new u1.drew #[.int .u8 0, .int .u8 0, .int .u8 0, .int .u8 0, .int .u8 0, .int .u8 0, .int .u8 0, .int .u8 0, .int .u8 0, .int .u8 0, .int .u8 0, .int .u8 0, .int .u8 0, .int .u8 0, .int .u8 0, .int .u8 0, .int .u8 0, .int .u8 0, .int .u8 0, .int .u64 0, .int .u32 0, .int .u32 0, .int .i64 0, .int .i64 0] rfl
  have r52 : isB (u1.alloc (.cells #[.int .u8 0, .int .u8 0, .int .u8 0, .int .u8 0, .int .u8 0, .int .u8 0, .int .u8 0, .int .u8 0, .int .u8 0, .int .u8 0, .int .u8 0, .int .u8 0, .int .u8 0, .int .u8 0, .int .u8 0, .int .u8 0, .int .u8 0, .int .u8 0, .int .u8 0, .int .u64 0, .int .u32 0, .int .u32 0, .int .i64 0, .int .i64 0] 26)).drew u1.heap.size = true := r5
  have r53 : isB (u1.drew.alloc (.cells #[.int .u8 0, .int .u8 0, .int .u8 0, .int .u8 0, .int .u8 0, .int .u8 0, .int .u8 0, .int .u8 0, .int .u8 0, .int .u8 0, .int .u8 0, .int .u8 0, .int .u8 0, .int .u8 0, .int .u8 0, .int .u8 0, .int .u8 0, .int .u8 0, .int .u8 0, .int .u64 0, .int .u32 0, .int .u32 0, .int .i64 0, .int .i64 0] 26)) u1.heap.size = true := r51
  have hne : w.heap.size ≠ u1.heap.size := by have := HB1.out.lt; omega
  have c24 : u1.cell? ⟨w.heap.size, 24, none⟩ = some (.int .i64 col) := (HB1.out.cell 24).trans F24.out
  have d24 : ∀ o, (u1.alloc o).cell? ⟨w.heap.size, 24, none⟩ = some (.int .i64 col) := fun o => cellOld o c24
  have e24 : ∀ o cs, ((u1.alloc o).drew.setRow u1.heap.size cs).cell? ⟨w.heap.size, 24, none⟩ = some (.int .i64 col) := fun o cs => (cell_setRow_other _ _ _ _ hne).trans (d24 o)
  have c25 : u1.cell? ⟨w.heap.size, 25, none⟩ = some (.slice A n c) := (HB1.out.cell 25).trans F25.out
  have d25 : ∀ o, (u1.alloc o).cell? ⟨w.heap.size, 25, none⟩ = some (.slice A n c) := fun o => cellOld o c25
  have e25 : ∀ o cs, ((u1.alloc o).drew.setRow u1.heap.size cs).cell? ⟨w.heap.size, 25, none⟩ = some (.slice A n c) := fun o cs => (cell_setRow_other _ _ _ _ hne).trans (d25 o)
  have c26 : u1.cell? ⟨w.heap.size, 26, none⟩ = some (.slice A2 n2 c2) := (HB1.out.cell 26).trans F26.out
  have d26 : ∀ o, (u1.alloc o).cell? ⟨w.heap.size, 26, none⟩ = some (.slice A2 n2 c2) := fun o => cellOld o c26
  have e26 : ∀ o cs, ((u1.alloc o).drew.setRow u1.heap.size cs).cell? ⟨w.heap.size, 26, none⟩ = some (.slice A2 n2 c2) := fun o cs => (cell_setRow_other _ _ _ _ hne).trans (d26 o)
  obtain ⟨r6, r7⟩ := okS_cs hl
  go_region
  all_goals
    obtain ⟨HK3, HG3, HL3⟩ := bel_new (g := u1.heap.size) t.cs #[.int .u8 0, .int .u8 0, .int .u8 0, .int .u8 0, .int .u8 0, .int .u8 0, .int .u8 0, .int .u8 0, .int .u8 0, .int .u8 0, .int .u8 0, .int .u8 0, .int .u8 0, .int .u8 0, .int .u8 0, .int .u8 0, .int .u8 0, .int .u8 0, .int .u8 0, .int .u64 0, .int .u32 0, .int .u32 0, .int .i64 0, .int .i64 0] rfl HK1
    generalize hW : World.setRow _ _ _ = u3 at HK3 HG3 HL3 ⊢
    clear hW r1 r2 r3 r4 r31 r41 r5 r51 r52 r53 c24 d24 e24 c25 d25 e25 c26 d26 e26 hne HB1 HL3 HK1
    generalize u1.heap.size = g3 at HG3 ⊢
    clear F24 F25 F26 F0 r6 r7 hsz
    have X3 := slb_at hx HK3
    have Y3 := slb_at hy HK3
    cases hnb : nearB col ((n : Int) + (n2 : Int))
    · have HNB := hid hnb
      clear hnb
      go_wp2_with (first
        | (go_at_call 14
           (with_reducible refine (near_b _ col ((n : Int) + (n2 : Int)) HNB.out).mono ?_)
           rintro e u2 ⟨rfl, rfl⟩))
      go_ret
      exact ⟨rfl, HK3⟩
    · have hnr := near_true hnb
      have HNB := hid hnb
      clear hnb
      have hnn : n + n2 ≤ 30000 := by omega
      have hn1 : n ≤ 1000000 := by omega
      have hn12 : n2 ≤ 1000000 := by omega
      have hmx : n ≤ maxLen := by unfold maxLen; omega
      have hmx2 : n2 ≤ maxLen := by unfold maxLen; omega
      have hnr2 : Hid (nrm col + 8 * (n + n2) ≤ 65535) := hid (by omega)
      clear hnr
      obtain ⟨s, hs60⟩ : ∃ s, Hid (hasN t.f 60 = s) := ⟨_, hid rfl⟩
      obtain ⟨v, hs42⟩ : ∃ v, Hid (hasN t.f 42 = v) := ⟨_, hid rfl⟩
      obtain ⟨l, hl0⟩ : ∃ l, Hid (rubB s v (nrm col) xs ys = l) := ⟨_, hid rfl⟩
      have hll : Hid (l.length ≤ 1000000) := by rw [← hl0.out]; have := rubB_len s v (nrm col) xs ys; rw [hn2.out] at this; exact hid (by omega)
      go_wp2_with (first
        | (go_at_call 14
           (with_reducible refine (near_b _ col ((n : Int) + (n2 : Int)) HNB.out).mono ?_)
           rintro e u2 ⟨rfl, hu2⟩
           rw [hu2]
           clear hu2)
        | (at_builtin
           (first
             | (refine app_copy u3 rfl (.tmp 27) (.tmp 28) rfl rfl A n c xs rfl X3 hn.out hn1 ?_
                intro A4 c4 u4 k4 M4
                have X4 := slb_at X3 k4
                have Y4 := slb_at Y3 k4
                have G4 := hid (box_below HG3.out k4.out)
                have K4 := bel_t HK3 k4.out
                clear k4 HG3 HK3 X3 Y3)
             | (refine app_copy u4 rfl (.tmp 30) (.tmp 31) rfl rfl A2 n2 c2 ys rfl Y4 hn2.out hn12 ?_
                intro A5 c5 u5 k5 M5
                have X5 := slb_at X4 k5
                have Y5 := slb_at Y4 k5
                have M45 := slb_at M4 k5
                have G5 := hid (box_below G4.out k5.out)
                have K5 := bel_t K4 k5.out
                clear k5 G4 K4 X4 Y4 M4))))
      have bz : ∀ W, Below u5.heap.size u5 W → isB W g3 = true ∧ cs26 W g3 = t.cs := fun W h => ⟨isB_mk (box_below G5.out h) hs, cs26_of (box_below G5.out h)⟩
      go_region_held3 (fun u => isB u g3 = true ∧ cs26 u g3 = t.cs) (exact bz _ (by repeat (first | exact Below.refl _ _ | exact b10 | exact b9 | exact b8 | exact b7 | exact b6 | with_reducible apply bel_dr | with_reducible apply bel_al))) ((first
        | (go_at_call 19
           (with_reducible refine (full_grow (u := u5) ?c1 hl0 (rub_any _ ht col A4 A5 n n2 c4 c5 xs ys hs60 hs42 (slb_up M45 ?c6) (slb_up M5 ?c7) hn hn2 hnn)).mono ?_)
           case c1 => repeat (first | exact Below.refl _ _ | exact b7 | with_reducible apply bel_dr | with_reducible apply bel_al)
           case c6 => repeat (first | exact Below.refl _ _ | exact b7 | with_reducible apply bel_dr | with_reducible apply bel_al)
           case c7 => repeat (first | exact Below.refl _ _ | exact b7 | with_reducible apply bel_dr | with_reducible apply bel_al)
           rintro e u6 ⟨A6, n6, c6, rfl, hn6, S6, b6, d6⟩)
        | (go_at_call 20
           (with_reducible refine (own_grow (u := u5) ?c2 hl0 (rubr_any _ ht col A A2 n n2 c c2 xs ys hs60 hs42 (slb_up X5 ?c8) (slb_up Y5 ?c9) hn hn2 hnr2.out)).mono ?_)
           case c2 => repeat (first | exact Below.refl _ _ | exact b6 | with_reducible apply bel_dr | with_reducible apply bel_al)
           case c8 => repeat (first | exact Below.refl _ _ | exact b6 | with_reducible apply bel_dr | with_reducible apply bel_al)
           case c9 => repeat (first | exact Below.refl _ _ | exact b6 | with_reducible apply bel_dr | with_reducible apply bel_al)
           rintro e u7 ⟨A7, n7, c7, rfl, hn7, S7, b7, d7⟩)
        | (go_at_call 9
           (first
             | ((with_reducible refine (bytes_grow u5 _ ?c3 A6 A7 c6 c7 n6 n7 l l hn6 hn7 (hid (Eq.refl l)) (slb_up S6 ?c4) (slb_up S7 ?c5) (by have := hn6.out; have := hll.out; unfold maxLen; omega)).mono ?_)
                case c3 => repeat (first | exact Below.refl _ _ | exact b6 | exact b7 | with_reducible apply bel_dr | with_reducible apply bel_al)
                case c4 => repeat (first | exact Below.refl _ _ | exact d7 | with_reducible apply bel_dr | with_reducible apply bel_al)
                case c5 => repeat (first | exact Below.refl _ _ | exact d6 | with_reducible apply bel_dr | with_reducible apply bel_al)
                rintro e u8 ⟨rfl, b8, d8⟩)
             | ((with_reducible refine (bytes_grow u5 _ ?g1 A4 A c4 c n n xs xs hn hn (hid (Eq.refl xs)) (slb_up M45 ?g2) (slb_up X5 ?g3) hmx).mono ?_)
                case g1 => repeat (first | exact Below.refl _ _ | exact b8 | with_reducible apply bel_dr | with_reducible apply bel_al)
                case g2 => repeat (first | exact Below.refl _ _ | exact b8 | with_reducible apply bel_dr | with_reducible apply bel_al)
                case g3 => repeat (first | exact Below.refl _ _ | exact b8 | with_reducible apply bel_dr | with_reducible apply bel_al)
                rintro e u9 ⟨rfl, b9, d9⟩)
             | ((with_reducible refine (bytes_grow u5 _ ?g4 A5 A2 c5 c2 n2 n2 ys ys hn2 hn2 (hid (Eq.refl ys)) (slb_up M5 ?g5) (slb_up Y5 ?g6) hmx2).mono ?_)
                case g4 => repeat (first | exact Below.refl _ _ | exact b9 | with_reducible apply bel_dr | with_reducible apply bel_al)
                case g5 => repeat (first | exact Below.refl _ _ | exact b9 | with_reducible apply bel_dr | with_reducible apply bel_al)
                case g6 => repeat (first | exact Below.refl _ _ | exact b9 | with_reducible apply bel_dr | with_reducible apply bel_al)
                rintro e u10 ⟨rfl, b10, d10⟩)))))
      all_goals
        have K10 := bel_t K5 b10
        clear bz
        go_wp2
        go_ret
        exact ⟨rfl, K10⟩
theorem rubs_walk (w : World) (t : Tm) (ht : t.Ok) (col : Int) (_ho : i64ok col) (A A2 : Option Addr) (c c2 n n2 : Nat) (xs ys : List UInt8) (hx : Hid (SlB w w.heap.size A c xs)) (hy : Hid (SlB w w.heap.size A2 c2 ys)) (hn : xs.length = n) (hn2 : ys.length = n2) (hb : n ≤ reachBytes ∧ n2 ≤ reachBytes) :
    Calls Try.prog 5 #[.agg (tmV t [.int .i64 col, .slice A n c, .slice A2 n2 c2])] w fun e w' => e = .returned (.bool true) ∧ Hid (Below w.heap.size w w') := by
  unfold reachBytes at hb
  exact rubs_walk0 w t ht col A A2 c c2 n n2 xs ys hx hy (hid hn) (hid hn2) _ rfl (by omega) (by omega)
end Go.Proofs.Ytgollkckdnaegaa
