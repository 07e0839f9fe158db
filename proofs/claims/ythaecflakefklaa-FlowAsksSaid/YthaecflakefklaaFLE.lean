import Derived.Test.YthaecflakefklaaFLD
namespace Go.Proofs.Ythaecflakefklaa
open Go.RowKit

/-! Layer 15: FlowAsks, the walk. -/
set_option maxRecDepth 100000 in
set_option maxHeartbeats 8000000 in
theorem asks_walk (w : World) (t : Tm) (ht : t.Ok) (s h : Bool) (what : Int) :
    Calls Try.prog 6 #[.agg t.cs, .agg #[.bool s, .bool h], .int .i64 what] w fun e w' => e = .returned (.bool true) ∧ Hid (Below w.heap.size w w') := by
  have hs := cs_size ht.len
  have e1 : Hid (askF t s h 1 = ((true, h), [], 0)) := hid (by simp [askF])
  have e2 : Hid (askF t true h 2 = ((false, h), [], 0)) := hid (by simp [askF])
  have B0 : Hid (Below w.heap.size w ((w.alloc (.cells t.cs 26)).alloc (.cells #[.bool s, .bool h] 28))) := hid (((Below.refl _ w).alloc (Nat.le_refl _) _).alloc (by simp) _)
  have G0 : Hid (Box ((w.alloc (.cells t.cs 26)).alloc (.cells #[.bool s, .bool h] 28)) w.heap.size 26 t.cs) := hid (box_al (box_nw rfl))
  have F0 : Hid (Box ((w.alloc (.cells t.cs 26)).alloc (.cells #[.bool s, .bool h] 28)) (w.heap.size + 1) 28 #[.bool s, .bool h]) := hid (by
    have := Box.new (w.alloc (.cells t.cs 26)) 28 #[.bool s, .bool h]
    rwa [World.size_alloc] at this)
  by_cases w1 : what = 1
  · subst w1
    have e3 := e1
    go_enter Try.func6, Try.ntmps6
    go_wp2_with (first
      | (refine bx26 (by rfl) _ (by rfl) _ (by rfl) hs ?_
         intro _)
      | (refine ld26 (by rfl) _ (by rfl) _ (by rfl) t.cs G1.out hs ?_)
      | (refine ld26 (by rfl) _ (by rfl) _ (by rfl) t.cs G2.out hs ?_)
      | (refine ld26 (by rfl) _ (by rfl) _ (by rfl) t.cs G3.out hs ?_)
      | (refine ld26 (by rfl) _ (by rfl) _ (by rfl) t.cs G4.out hs ?_)
      | (go_at_call 7
         (with_reducible refine (alive_any _).mono ?_)
         rintro e v1 ⟨rfl, k1⟩
         have kk := bel_new1 v1 (.cells #[.bool s, .bool h] 32)
         have B1 := bel_t (bel_t B0 k1.out) kk
         have G1 := boxA (boxA G0 k1.out) kk
         have F1 := boxA (boxA F0 k1.out) kk
         have fa : v1.cell? ⟨w.heap.size + 1, 0, none⟩ = some (.bool s) := by simpa using (boxA F0 k1.out).out.cell 0
         have fb : v1.cell? ⟨w.heap.size + 1, 1, none⟩ = some (.bool h) := by simpa using (boxA F0 k1.out).out.cell 1
         have X1 := bx_new v1 #[.bool s, .bool h] 32
         clear kk k1)
      | (go_at_call 12
         (first
           | ((with_reducible refine (askp_any _ t ht s h 1 e1).mono ?_)
              rintro e v2 ⟨A2, n2, d2, rfl, h2, S2, k2⟩
              obtain rfl : n2 = 0 := h2.out.symm
              have kk := bel_new1 v2 (.cells #[.bool true, .bool h] 32)
              have B2 := bel_t (bel_t B1 k2.out) kk
              have G2 := boxA (boxA G1 k2.out) kk
              have F2 := boxA (boxA F1 k2.out) kk
              have X2 := boxA (boxA X1 k2.out) kk
              have Y2 := bx_new v2 #[.bool true, .bool h] 32
              clear kk k2 B1 G1 F1 X1 fa fb)
           | ((with_reducible refine (askp_any _ t ht true h 2 e2).mono ?_)
              rintro e v3 ⟨A3, n3, d3, rfl, h3, S3, k3⟩
              obtain rfl : n3 = 0 := h3.out.symm
              have kk := bel_new1 v3 (.cells #[.bool false, .bool h] 32)
              have B3 := bel_t (bel_t B2 k3.out) kk
              have G3 := boxA (boxA G2 k3.out) kk
              have F3 := boxA (boxA F2 k3.out) kk
              have X3 := boxA (boxA X2 k3.out) kk
              have Y3 := boxA (boxA Y2 k3.out) kk
              have Z3 := bx_new v3 #[.bool false, .bool h] 32
              have x30 : v3.cell? ⟨v1.heap.size, 0, none⟩ = some (.bool s) := by simpa using (boxA X2 k3.out).out.cell 0
              have x31 : v3.cell? ⟨v1.heap.size, 1, none⟩ = some (.bool h) := by simpa using (boxA X2 k3.out).out.cell 1
              have f31 : v3.cell? ⟨w.heap.size + 1, 1, none⟩ = some (.bool h) := by simpa using (boxA F2 k3.out).out.cell 1
              have y30 : v3.cell? ⟨v2.heap.size, 0, none⟩ = some (.bool true) := by simpa using (boxA Y2 k3.out).out.cell 0
              have y31 : v3.cell? ⟨v2.heap.size, 1, none⟩ = some (.bool h) := by simpa using (boxA Y2 k3.out).out.cell 1
              have x30a := cell_al x30
              have x31a := cell_al x31
              have f31a := cell_al f31
              have y30a := cell_al y30
              have y31a := cell_al y31
              clear kk k3 B2 G2 F2 X2 Y2)
           | ((with_reducible refine (askp_any _ t ht s h 1 e3).mono ?_)
              rintro e v4 ⟨A4, n4, d4, rfl, h4, S4, k4⟩
              obtain rfl : n4 = 0 := h4.out.symm
              have kk := bel_new1 v4 (.cells #[.bool true, .bool h] 32)
              have B4 := bel_t (bel_t B3 k4.out) kk
              have G4 := boxA (boxA G3 k4.out) kk
              have X4 := boxA (boxA X3 k4.out) kk
              have Y4 := bx_new v4 #[.bool true, .bool h] 32
              have S4' := slb_up S4 kk
              clear kk k4 B3 G3 F3 X3 Y3))))
    go_ret
    exact ⟨rfl, B4⟩
  by_cases w2 : what = 2
  · subst w2
    clear w1
    have e3 : Hid (askF t s h 2 = ((false, h), [], 0)) := hid (by simp [askF])
    go_enter Try.func6, Try.ntmps6
    go_wp2_with (first
      | (refine bx26 (by rfl) _ (by rfl) _ (by rfl) hs ?_
         intro _)
      | (refine ld26 (by rfl) _ (by rfl) _ (by rfl) t.cs G1.out hs ?_)
      | (refine ld26 (by rfl) _ (by rfl) _ (by rfl) t.cs G2.out hs ?_)
      | (refine ld26 (by rfl) _ (by rfl) _ (by rfl) t.cs G3.out hs ?_)
      | (refine ld26 (by rfl) _ (by rfl) _ (by rfl) t.cs G4.out hs ?_)
      | (go_at_call 7
         (with_reducible refine (alive_any _).mono ?_)
         rintro e v1 ⟨rfl, k1⟩
         have kk := bel_new1 v1 (.cells #[.bool s, .bool h] 32)
         have B1 := bel_t (bel_t B0 k1.out) kk
         have G1 := boxA (boxA G0 k1.out) kk
         have F1 := boxA (boxA F0 k1.out) kk
         have fa : v1.cell? ⟨w.heap.size + 1, 0, none⟩ = some (.bool s) := by simpa using (boxA F0 k1.out).out.cell 0
         have fb : v1.cell? ⟨w.heap.size + 1, 1, none⟩ = some (.bool h) := by simpa using (boxA F0 k1.out).out.cell 1
         have X1 := bx_new v1 #[.bool s, .bool h] 32
         clear kk k1)
      | (go_at_call 12
         (first
           | ((with_reducible refine (askp_any _ t ht s h 1 e1).mono ?_)
              rintro e v2 ⟨A2, n2, d2, rfl, h2, S2, k2⟩
              obtain rfl : n2 = 0 := h2.out.symm
              have kk := bel_new1 v2 (.cells #[.bool true, .bool h] 32)
              have B2 := bel_t (bel_t B1 k2.out) kk
              have G2 := boxA (boxA G1 k2.out) kk
              have F2 := boxA (boxA F1 k2.out) kk
              have X2 := boxA (boxA X1 k2.out) kk
              have Y2 := bx_new v2 #[.bool true, .bool h] 32
              clear kk k2 B1 G1 F1 X1 fa fb)
           | ((with_reducible refine (askp_any _ t ht true h 2 e2).mono ?_)
              rintro e v3 ⟨A3, n3, d3, rfl, h3, S3, k3⟩
              obtain rfl : n3 = 0 := h3.out.symm
              have kk := bel_new1 v3 (.cells #[.bool false, .bool h] 32)
              have B3 := bel_t (bel_t B2 k3.out) kk
              have G3 := boxA (boxA G2 k3.out) kk
              have F3 := boxA (boxA F2 k3.out) kk
              have X3 := boxA (boxA X2 k3.out) kk
              have Y3 := boxA (boxA Y2 k3.out) kk
              have Z3 := bx_new v3 #[.bool false, .bool h] 32
              have x30 : v3.cell? ⟨v1.heap.size, 0, none⟩ = some (.bool s) := by simpa using (boxA X2 k3.out).out.cell 0
              have x31 : v3.cell? ⟨v1.heap.size, 1, none⟩ = some (.bool h) := by simpa using (boxA X2 k3.out).out.cell 1
              have f31 : v3.cell? ⟨w.heap.size + 1, 1, none⟩ = some (.bool h) := by simpa using (boxA F2 k3.out).out.cell 1
              have y30 : v3.cell? ⟨v2.heap.size, 0, none⟩ = some (.bool true) := by simpa using (boxA Y2 k3.out).out.cell 0
              have y31 : v3.cell? ⟨v2.heap.size, 1, none⟩ = some (.bool h) := by simpa using (boxA Y2 k3.out).out.cell 1
              have x30a := cell_al x30
              have x31a := cell_al x31
              have f31a := cell_al f31
              have y30a := cell_al y30
              have y31a := cell_al y31
              clear kk k3 B2 G2 F2 X2 Y2)
           | ((with_reducible refine (askp_any _ t ht s h 2 e3).mono ?_)
              rintro e v4 ⟨A4, n4, d4, rfl, h4, S4, k4⟩
              obtain rfl : n4 = 0 := h4.out.symm
              have kk := bel_new1 v4 (.cells #[.bool false, .bool h] 32)
              have B4 := bel_t (bel_t B3 k4.out) kk
              have G4 := boxA (boxA G3 k4.out) kk
              have X4 := boxA (boxA X3 k4.out) kk
              have Y4 := bx_new v4 #[.bool false, .bool h] 32
              have S4' := slb_up S4 kk
              clear kk k4 B3 G3 F3 X3 Y3))))
    go_ret
    exact ⟨rfl, B4⟩
  by_cases w3 : what = 3
  · subst w3
    clear w1 w2
    cases hb : chB t 9
    · have e3 : Hid (askF t s h 3 = ((s, h), [], 0)) := hid (by simp [askF, toldF, hb])
      go_enter Try.func6, Try.ntmps6
      go_wp2_with (first
        | (refine bx26 (by rfl) _ (by rfl) _ (by rfl) hs ?_
           intro _)
        | (refine ld26 (by rfl) _ (by rfl) _ (by rfl) t.cs G1.out hs ?_)
        | (refine ld26 (by rfl) _ (by rfl) _ (by rfl) t.cs G2.out hs ?_)
        | (refine ld26 (by rfl) _ (by rfl) _ (by rfl) t.cs G3.out hs ?_)
        | (refine ld26 (by rfl) _ (by rfl) _ (by rfl) t.cs G4.out hs ?_)
        | (go_at_call 7
           (with_reducible refine (alive_any _).mono ?_)
           rintro e v1 ⟨rfl, k1⟩
           have kk := bel_new1 v1 (.cells #[.bool s, .bool h] 32)
           have B1 := bel_t (bel_t B0 k1.out) kk
           have G1 := boxA (boxA G0 k1.out) kk
           have F1 := boxA (boxA F0 k1.out) kk
           have fa : v1.cell? ⟨w.heap.size + 1, 0, none⟩ = some (.bool s) := by simpa using (boxA F0 k1.out).out.cell 0
           have fb : v1.cell? ⟨w.heap.size + 1, 1, none⟩ = some (.bool h) := by simpa using (boxA F0 k1.out).out.cell 1
           have X1 := bx_new v1 #[.bool s, .bool h] 32
           clear kk k1)
        | (go_at_call 12
           (first
             | ((with_reducible refine (askp_any _ t ht s h 1 e1).mono ?_)
                rintro e v2 ⟨A2, n2, d2, rfl, h2, S2, k2⟩
                obtain rfl : n2 = 0 := h2.out.symm
                have kk := bel_new1 v2 (.cells #[.bool true, .bool h] 32)
                have B2 := bel_t (bel_t B1 k2.out) kk
                have G2 := boxA (boxA G1 k2.out) kk
                have F2 := boxA (boxA F1 k2.out) kk
                have X2 := boxA (boxA X1 k2.out) kk
                have Y2 := bx_new v2 #[.bool true, .bool h] 32
                clear kk k2 B1 G1 F1 X1 fa fb)
             | ((with_reducible refine (askp_any _ t ht true h 2 e2).mono ?_)
                rintro e v3 ⟨A3, n3, d3, rfl, h3, S3, k3⟩
                obtain rfl : n3 = 0 := h3.out.symm
                have kk := bel_new1 v3 (.cells #[.bool false, .bool h] 32)
                have B3 := bel_t (bel_t B2 k3.out) kk
                have G3 := boxA (boxA G2 k3.out) kk
                have F3 := boxA (boxA F2 k3.out) kk
                have X3 := boxA (boxA X2 k3.out) kk
                have Y3 := boxA (boxA Y2 k3.out) kk
                have Z3 := bx_new v3 #[.bool false, .bool h] 32
                have x30 : v3.cell? ⟨v1.heap.size, 0, none⟩ = some (.bool s) := by simpa using (boxA X2 k3.out).out.cell 0
                have x31 : v3.cell? ⟨v1.heap.size, 1, none⟩ = some (.bool h) := by simpa using (boxA X2 k3.out).out.cell 1
                have f31 : v3.cell? ⟨w.heap.size + 1, 1, none⟩ = some (.bool h) := by simpa using (boxA F2 k3.out).out.cell 1
                have y30 : v3.cell? ⟨v2.heap.size, 0, none⟩ = some (.bool true) := by simpa using (boxA Y2 k3.out).out.cell 0
                have y31 : v3.cell? ⟨v2.heap.size, 1, none⟩ = some (.bool h) := by simpa using (boxA Y2 k3.out).out.cell 1
                have x30a := cell_al x30
                have x31a := cell_al x31
                have f31a := cell_al f31
                have y30a := cell_al y30
                have y31a := cell_al y31
                clear kk k3 B2 G2 F2 X2 Y2)
             | ((with_reducible refine (askp_any _ t ht s h 3 e3).mono ?_)
                rintro e v4 ⟨A4, n4, d4, rfl, h4, S4, k4⟩
                obtain rfl : n4 = 0 := h4.out.symm
                have kk := bel_new1 v4 (.cells #[.bool s, .bool h] 32)
                have B4 := bel_t (bel_t B3 k4.out) kk
                have G4 := boxA (boxA G3 k4.out) kk
                have X4 := boxA (boxA X3 k4.out) kk
                have Y4 := bx_new v4 #[.bool s, .bool h] 32
                have S4' := slb_up S4 kk
                clear kk k4 B3 G3 F3 X3 Y3)))
        | (go_at_call 18
           (with_reducible refine (char_any _ t ht 9).mono ?_)
           rw [hb]
           rintro e v5 ⟨rfl, k5⟩
           have B5 := bel_t B4 k5.out
           have S5 := slb_up S4' k5.out
           have x50 : v5.cell? ⟨v1.heap.size, 0, none⟩ = some (.bool s) := by simpa using (boxA X4 k5.out).out.cell 0
           have x51 : v5.cell? ⟨v1.heap.size, 1, none⟩ = some (.bool h) := by simpa using (boxA X4 k5.out).out.cell 1
           have y50 : v5.cell? ⟨v4.heap.size, 0, none⟩ = some (.bool s) := by simpa using (boxA Y4 k5.out).out.cell 0
           have y51 : v5.cell? ⟨v4.heap.size, 1, none⟩ = some (.bool h) := by simpa using (boxA Y4 k5.out).out.cell 1))
      go_ret
      exact ⟨rfl, B5⟩
    · have e3 : Hid (askF t s h 3 = ((s, h), [chV t 9], 0)) := hid (by simp [askF, toldF, hb])
      go_enter Try.func6, Try.ntmps6
      go_wp2_with (first
        | (refine bx26 (by rfl) _ (by rfl) _ (by rfl) hs ?_
           intro _)
        | (refine ld26 (by rfl) _ (by rfl) _ (by rfl) t.cs G1.out hs ?_)
        | (refine ld26 (by rfl) _ (by rfl) _ (by rfl) t.cs G2.out hs ?_)
        | (refine ld26 (by rfl) _ (by rfl) _ (by rfl) t.cs G3.out hs ?_)
        | (refine ld26 (by rfl) _ (by rfl) _ (by rfl) t.cs G4.out hs ?_)
        | (go_at_call 7
           (with_reducible refine (alive_any _).mono ?_)
           rintro e v1 ⟨rfl, k1⟩
           have kk := bel_new1 v1 (.cells #[.bool s, .bool h] 32)
           have B1 := bel_t (bel_t B0 k1.out) kk
           have G1 := boxA (boxA G0 k1.out) kk
           have F1 := boxA (boxA F0 k1.out) kk
           have fa : v1.cell? ⟨w.heap.size + 1, 0, none⟩ = some (.bool s) := by simpa using (boxA F0 k1.out).out.cell 0
           have fb : v1.cell? ⟨w.heap.size + 1, 1, none⟩ = some (.bool h) := by simpa using (boxA F0 k1.out).out.cell 1
           have X1 := bx_new v1 #[.bool s, .bool h] 32
           clear kk k1)
        | (go_at_call 12
           (first
             | ((with_reducible refine (askp_any _ t ht s h 1 e1).mono ?_)
                rintro e v2 ⟨A2, n2, d2, rfl, h2, S2, k2⟩
                obtain rfl : n2 = 0 := h2.out.symm
                have kk := bel_new1 v2 (.cells #[.bool true, .bool h] 32)
                have B2 := bel_t (bel_t B1 k2.out) kk
                have G2 := boxA (boxA G1 k2.out) kk
                have F2 := boxA (boxA F1 k2.out) kk
                have X2 := boxA (boxA X1 k2.out) kk
                have Y2 := bx_new v2 #[.bool true, .bool h] 32
                clear kk k2 B1 G1 F1 X1 fa fb)
             | ((with_reducible refine (askp_any _ t ht true h 2 e2).mono ?_)
                rintro e v3 ⟨A3, n3, d3, rfl, h3, S3, k3⟩
                obtain rfl : n3 = 0 := h3.out.symm
                have kk := bel_new1 v3 (.cells #[.bool false, .bool h] 32)
                have B3 := bel_t (bel_t B2 k3.out) kk
                have G3 := boxA (boxA G2 k3.out) kk
                have F3 := boxA (boxA F2 k3.out) kk
                have X3 := boxA (boxA X2 k3.out) kk
                have Y3 := boxA (boxA Y2 k3.out) kk
                have Z3 := bx_new v3 #[.bool false, .bool h] 32
                have x30 : v3.cell? ⟨v1.heap.size, 0, none⟩ = some (.bool s) := by simpa using (boxA X2 k3.out).out.cell 0
                have x31 : v3.cell? ⟨v1.heap.size, 1, none⟩ = some (.bool h) := by simpa using (boxA X2 k3.out).out.cell 1
                have f31 : v3.cell? ⟨w.heap.size + 1, 1, none⟩ = some (.bool h) := by simpa using (boxA F2 k3.out).out.cell 1
                have y30 : v3.cell? ⟨v2.heap.size, 0, none⟩ = some (.bool true) := by simpa using (boxA Y2 k3.out).out.cell 0
                have y31 : v3.cell? ⟨v2.heap.size, 1, none⟩ = some (.bool h) := by simpa using (boxA Y2 k3.out).out.cell 1
                have x30a := cell_al x30
                have x31a := cell_al x31
                have f31a := cell_al f31
                have y30a := cell_al y30
                have y31a := cell_al y31
                clear kk k3 B2 G2 F2 X2 Y2)
             | ((with_reducible refine (askp_any _ t ht s h 3 e3).mono ?_)
                rintro e v4 ⟨A4, n4, d4, rfl, h4, S4, k4⟩
                obtain rfl : n4 = 1 := h4.out.symm
                have kk := bel_new1 v4 (.cells #[.bool s, .bool h] 32)
                have B4 := bel_t (bel_t B3 k4.out) kk
                have G4 := boxA (boxA G3 k4.out) kk
                have X4 := boxA (boxA X3 k4.out) kk
                have Y4 := bx_new v4 #[.bool s, .bool h] 32
                have S4' := slb_up S4 kk
                clear kk k4 B3 G3 F3 X3 Y3)))
        | (go_at_call 18
           (with_reducible refine (char_any _ t ht 9).mono ?_)
           rw [hb]
           rintro e v5 ⟨rfl, k5⟩
           have B5 := bel_t B4 k5.out
           have S5 := slb_up S4' k5.out
           have x50 : v5.cell? ⟨v1.heap.size, 0, none⟩ = some (.bool s) := by simpa using (boxA X4 k5.out).out.cell 0
           have x51 : v5.cell? ⟨v1.heap.size, 1, none⟩ = some (.bool h) := by simpa using (boxA X4 k5.out).out.cell 1
           have y50 : v5.cell? ⟨v4.heap.size, 0, none⟩ = some (.bool s) := by simpa using (boxA Y4 k5.out).out.cell 0
           have y51 : v5.cell? ⟨v4.heap.size, 1, none⟩ = some (.bool h) := by simpa using (boxA Y4 k5.out).out.cell 1
           obtain ⟨bq, oq, y, rfl, hy, cy⟩ := slb_cell S5.out (j := 0) rfl (by simp)
           obtain rfl : chV t 9 = y := by simpa using hy
           have cy : v5.cell? ⟨bq, oq, none⟩ = some (.int .u8 ((chV t 9).toNat : Int)) := by simpa using cy))
      go_ret
      exact ⟨rfl, B5⟩
  by_cases w4 : what = 4
  · subst w4
    clear w1 w2 w3
    cases hb : chB t 8
    · have e3 : Hid (askF t s h 4 = ((s, h), [], 0)) := hid (by simp [askF, toldF, hb])
      go_enter Try.func6, Try.ntmps6
      go_wp2_with (first
        | (refine bx26 (by rfl) _ (by rfl) _ (by rfl) hs ?_
           intro _)
        | (refine ld26 (by rfl) _ (by rfl) _ (by rfl) t.cs G1.out hs ?_)
        | (refine ld26 (by rfl) _ (by rfl) _ (by rfl) t.cs G2.out hs ?_)
        | (refine ld26 (by rfl) _ (by rfl) _ (by rfl) t.cs G3.out hs ?_)
        | (refine ld26 (by rfl) _ (by rfl) _ (by rfl) t.cs G4.out hs ?_)
        | (go_at_call 7
           (with_reducible refine (alive_any _).mono ?_)
           rintro e v1 ⟨rfl, k1⟩
           have kk := bel_new1 v1 (.cells #[.bool s, .bool h] 32)
           have B1 := bel_t (bel_t B0 k1.out) kk
           have G1 := boxA (boxA G0 k1.out) kk
           have F1 := boxA (boxA F0 k1.out) kk
           have fa : v1.cell? ⟨w.heap.size + 1, 0, none⟩ = some (.bool s) := by simpa using (boxA F0 k1.out).out.cell 0
           have fb : v1.cell? ⟨w.heap.size + 1, 1, none⟩ = some (.bool h) := by simpa using (boxA F0 k1.out).out.cell 1
           have X1 := bx_new v1 #[.bool s, .bool h] 32
           clear kk k1)
        | (go_at_call 12
           (first
             | ((with_reducible refine (askp_any _ t ht s h 1 e1).mono ?_)
                rintro e v2 ⟨A2, n2, d2, rfl, h2, S2, k2⟩
                obtain rfl : n2 = 0 := h2.out.symm
                have kk := bel_new1 v2 (.cells #[.bool true, .bool h] 32)
                have B2 := bel_t (bel_t B1 k2.out) kk
                have G2 := boxA (boxA G1 k2.out) kk
                have F2 := boxA (boxA F1 k2.out) kk
                have X2 := boxA (boxA X1 k2.out) kk
                have Y2 := bx_new v2 #[.bool true, .bool h] 32
                clear kk k2 B1 G1 F1 X1 fa fb)
             | ((with_reducible refine (askp_any _ t ht true h 2 e2).mono ?_)
                rintro e v3 ⟨A3, n3, d3, rfl, h3, S3, k3⟩
                obtain rfl : n3 = 0 := h3.out.symm
                have kk := bel_new1 v3 (.cells #[.bool false, .bool h] 32)
                have B3 := bel_t (bel_t B2 k3.out) kk
                have G3 := boxA (boxA G2 k3.out) kk
                have F3 := boxA (boxA F2 k3.out) kk
                have X3 := boxA (boxA X2 k3.out) kk
                have Y3 := boxA (boxA Y2 k3.out) kk
                have Z3 := bx_new v3 #[.bool false, .bool h] 32
                have x30 : v3.cell? ⟨v1.heap.size, 0, none⟩ = some (.bool s) := by simpa using (boxA X2 k3.out).out.cell 0
                have x31 : v3.cell? ⟨v1.heap.size, 1, none⟩ = some (.bool h) := by simpa using (boxA X2 k3.out).out.cell 1
                have f31 : v3.cell? ⟨w.heap.size + 1, 1, none⟩ = some (.bool h) := by simpa using (boxA F2 k3.out).out.cell 1
                have y30 : v3.cell? ⟨v2.heap.size, 0, none⟩ = some (.bool true) := by simpa using (boxA Y2 k3.out).out.cell 0
                have y31 : v3.cell? ⟨v2.heap.size, 1, none⟩ = some (.bool h) := by simpa using (boxA Y2 k3.out).out.cell 1
                have x30a := cell_al x30
                have x31a := cell_al x31
                have f31a := cell_al f31
                have y30a := cell_al y30
                have y31a := cell_al y31
                clear kk k3 B2 G2 F2 X2 Y2)
             | ((with_reducible refine (askp_any _ t ht s h 4 e3).mono ?_)
                rintro e v4 ⟨A4, n4, d4, rfl, h4, S4, k4⟩
                obtain rfl : n4 = 0 := h4.out.symm
                have kk := bel_new1 v4 (.cells #[.bool s, .bool h] 32)
                have B4 := bel_t (bel_t B3 k4.out) kk
                have G4 := boxA (boxA G3 k4.out) kk
                have X4 := boxA (boxA X3 k4.out) kk
                have Y4 := bx_new v4 #[.bool s, .bool h] 32
                have S4' := slb_up S4 kk
                clear kk k4 B3 G3 F3 X3 Y3)))
        | (go_at_call 18
           (with_reducible refine (char_any _ t ht 8).mono ?_)
           rw [hb]
           rintro e v5 ⟨rfl, k5⟩
           have B5 := bel_t B4 k5.out
           have S5 := slb_up S4' k5.out
           have x50 : v5.cell? ⟨v1.heap.size, 0, none⟩ = some (.bool s) := by simpa using (boxA X4 k5.out).out.cell 0
           have x51 : v5.cell? ⟨v1.heap.size, 1, none⟩ = some (.bool h) := by simpa using (boxA X4 k5.out).out.cell 1
           have y50 : v5.cell? ⟨v4.heap.size, 0, none⟩ = some (.bool s) := by simpa using (boxA Y4 k5.out).out.cell 0
           have y51 : v5.cell? ⟨v4.heap.size, 1, none⟩ = some (.bool h) := by simpa using (boxA Y4 k5.out).out.cell 1))
      go_ret
      exact ⟨rfl, B5⟩
    · have e3 : Hid (askF t s h 4 = ((s, h), [chV t 8], 0)) := hid (by simp [askF, toldF, hb])
      go_enter Try.func6, Try.ntmps6
      go_wp2_with (first
        | (refine bx26 (by rfl) _ (by rfl) _ (by rfl) hs ?_
           intro _)
        | (refine ld26 (by rfl) _ (by rfl) _ (by rfl) t.cs G1.out hs ?_)
        | (refine ld26 (by rfl) _ (by rfl) _ (by rfl) t.cs G2.out hs ?_)
        | (refine ld26 (by rfl) _ (by rfl) _ (by rfl) t.cs G3.out hs ?_)
        | (refine ld26 (by rfl) _ (by rfl) _ (by rfl) t.cs G4.out hs ?_)
        | (go_at_call 7
           (with_reducible refine (alive_any _).mono ?_)
           rintro e v1 ⟨rfl, k1⟩
           have kk := bel_new1 v1 (.cells #[.bool s, .bool h] 32)
           have B1 := bel_t (bel_t B0 k1.out) kk
           have G1 := boxA (boxA G0 k1.out) kk
           have F1 := boxA (boxA F0 k1.out) kk
           have fa : v1.cell? ⟨w.heap.size + 1, 0, none⟩ = some (.bool s) := by simpa using (boxA F0 k1.out).out.cell 0
           have fb : v1.cell? ⟨w.heap.size + 1, 1, none⟩ = some (.bool h) := by simpa using (boxA F0 k1.out).out.cell 1
           have X1 := bx_new v1 #[.bool s, .bool h] 32
           clear kk k1)
        | (go_at_call 12
           (first
             | ((with_reducible refine (askp_any _ t ht s h 1 e1).mono ?_)
                rintro e v2 ⟨A2, n2, d2, rfl, h2, S2, k2⟩
                obtain rfl : n2 = 0 := h2.out.symm
                have kk := bel_new1 v2 (.cells #[.bool true, .bool h] 32)
                have B2 := bel_t (bel_t B1 k2.out) kk
                have G2 := boxA (boxA G1 k2.out) kk
                have F2 := boxA (boxA F1 k2.out) kk
                have X2 := boxA (boxA X1 k2.out) kk
                have Y2 := bx_new v2 #[.bool true, .bool h] 32
                clear kk k2 B1 G1 F1 X1 fa fb)
             | ((with_reducible refine (askp_any _ t ht true h 2 e2).mono ?_)
                rintro e v3 ⟨A3, n3, d3, rfl, h3, S3, k3⟩
                obtain rfl : n3 = 0 := h3.out.symm
                have kk := bel_new1 v3 (.cells #[.bool false, .bool h] 32)
                have B3 := bel_t (bel_t B2 k3.out) kk
                have G3 := boxA (boxA G2 k3.out) kk
                have F3 := boxA (boxA F2 k3.out) kk
                have X3 := boxA (boxA X2 k3.out) kk
                have Y3 := boxA (boxA Y2 k3.out) kk
                have Z3 := bx_new v3 #[.bool false, .bool h] 32
                have x30 : v3.cell? ⟨v1.heap.size, 0, none⟩ = some (.bool s) := by simpa using (boxA X2 k3.out).out.cell 0
                have x31 : v3.cell? ⟨v1.heap.size, 1, none⟩ = some (.bool h) := by simpa using (boxA X2 k3.out).out.cell 1
                have f31 : v3.cell? ⟨w.heap.size + 1, 1, none⟩ = some (.bool h) := by simpa using (boxA F2 k3.out).out.cell 1
                have y30 : v3.cell? ⟨v2.heap.size, 0, none⟩ = some (.bool true) := by simpa using (boxA Y2 k3.out).out.cell 0
                have y31 : v3.cell? ⟨v2.heap.size, 1, none⟩ = some (.bool h) := by simpa using (boxA Y2 k3.out).out.cell 1
                have x30a := cell_al x30
                have x31a := cell_al x31
                have f31a := cell_al f31
                have y30a := cell_al y30
                have y31a := cell_al y31
                clear kk k3 B2 G2 F2 X2 Y2)
             | ((with_reducible refine (askp_any _ t ht s h 4 e3).mono ?_)
                rintro e v4 ⟨A4, n4, d4, rfl, h4, S4, k4⟩
                obtain rfl : n4 = 1 := h4.out.symm
                have kk := bel_new1 v4 (.cells #[.bool s, .bool h] 32)
                have B4 := bel_t (bel_t B3 k4.out) kk
                have G4 := boxA (boxA G3 k4.out) kk
                have X4 := boxA (boxA X3 k4.out) kk
                have Y4 := bx_new v4 #[.bool s, .bool h] 32
                have S4' := slb_up S4 kk
                clear kk k4 B3 G3 F3 X3 Y3)))
        | (go_at_call 18
           (with_reducible refine (char_any _ t ht 8).mono ?_)
           rw [hb]
           rintro e v5 ⟨rfl, k5⟩
           have B5 := bel_t B4 k5.out
           have S5 := slb_up S4' k5.out
           have x50 : v5.cell? ⟨v1.heap.size, 0, none⟩ = some (.bool s) := by simpa using (boxA X4 k5.out).out.cell 0
           have x51 : v5.cell? ⟨v1.heap.size, 1, none⟩ = some (.bool h) := by simpa using (boxA X4 k5.out).out.cell 1
           have y50 : v5.cell? ⟨v4.heap.size, 0, none⟩ = some (.bool s) := by simpa using (boxA Y4 k5.out).out.cell 0
           have y51 : v5.cell? ⟨v4.heap.size, 1, none⟩ = some (.bool h) := by simpa using (boxA Y4 k5.out).out.cell 1
           obtain ⟨bq, oq, y, rfl, hy, cy⟩ := slb_cell S5.out (j := 0) rfl (by simp)
           obtain rfl : chV t 8 = y := by simpa using hy
           have cy : v5.cell? ⟨bq, oq, none⟩ = some (.int .u8 ((chV t 8).toNat : Int)) := by simpa using cy))
      go_ret
      exact ⟨rfl, B5⟩
  have e3 : Hid (askF t s h what = ((false, false), [], 2)) := hid (by simp [askF, w1, w2, w3, w4])
  have q1 : (what == 1) = false := beq_eq_false_iff_ne.2 w1
  have q2 : (what == 2) = false := beq_eq_false_iff_ne.2 w2
  have q3 : (what == 3) = false := beq_eq_false_iff_ne.2 w3
  have q4 : (what == 4) = false := beq_eq_false_iff_ne.2 w4
  clear w1 w2 w3 w4
  go_enter Try.func6, Try.ntmps6
  go_wp2_with (first
    | (refine bx26 (by rfl) _ (by rfl) _ (by rfl) hs ?_
       intro _)
    | (refine ld26 (by rfl) _ (by rfl) _ (by rfl) t.cs G1.out hs ?_)
    | (refine ld26 (by rfl) _ (by rfl) _ (by rfl) t.cs G2.out hs ?_)
    | (refine ld26 (by rfl) _ (by rfl) _ (by rfl) t.cs G3.out hs ?_)
    | (refine ld26 (by rfl) _ (by rfl) _ (by rfl) t.cs G4.out hs ?_)
    | (go_at_call 7
       (with_reducible refine (alive_any _).mono ?_)
       rintro e v1 ⟨rfl, k1⟩
       have kk := bel_new1 v1 (.cells #[.bool s, .bool h] 32)
       have B1 := bel_t (bel_t B0 k1.out) kk
       have G1 := boxA (boxA G0 k1.out) kk
       have F1 := boxA (boxA F0 k1.out) kk
       have fa : v1.cell? ⟨w.heap.size + 1, 0, none⟩ = some (.bool s) := by simpa using (boxA F0 k1.out).out.cell 0
       have fb : v1.cell? ⟨w.heap.size + 1, 1, none⟩ = some (.bool h) := by simpa using (boxA F0 k1.out).out.cell 1
       have X1 := bx_new v1 #[.bool s, .bool h] 32
       clear kk k1)
    | (go_at_call 12
       (first
         | ((with_reducible refine (askp_any _ t ht s h 1 e1).mono ?_)
            rintro e v2 ⟨A2, n2, d2, rfl, h2, S2, k2⟩
            obtain rfl : n2 = 0 := h2.out.symm
            have kk := bel_new1 v2 (.cells #[.bool true, .bool h] 32)
            have B2 := bel_t (bel_t B1 k2.out) kk
            have G2 := boxA (boxA G1 k2.out) kk
            have F2 := boxA (boxA F1 k2.out) kk
            have X2 := boxA (boxA X1 k2.out) kk
            have Y2 := bx_new v2 #[.bool true, .bool h] 32
            clear kk k2 B1 G1 F1 X1 fa fb)
         | ((with_reducible refine (askp_any _ t ht true h 2 e2).mono ?_)
            rintro e v3 ⟨A3, n3, d3, rfl, h3, S3, k3⟩
            obtain rfl : n3 = 0 := h3.out.symm
            have kk := bel_new1 v3 (.cells #[.bool false, .bool h] 32)
            have B3 := bel_t (bel_t B2 k3.out) kk
            have G3 := boxA (boxA G2 k3.out) kk
            have F3 := boxA (boxA F2 k3.out) kk
            have X3 := boxA (boxA X2 k3.out) kk
            have Y3 := boxA (boxA Y2 k3.out) kk
            have Z3 := bx_new v3 #[.bool false, .bool h] 32
            have x30 : v3.cell? ⟨v1.heap.size, 0, none⟩ = some (.bool s) := by simpa using (boxA X2 k3.out).out.cell 0
            have x31 : v3.cell? ⟨v1.heap.size, 1, none⟩ = some (.bool h) := by simpa using (boxA X2 k3.out).out.cell 1
            have f31 : v3.cell? ⟨w.heap.size + 1, 1, none⟩ = some (.bool h) := by simpa using (boxA F2 k3.out).out.cell 1
            have y30 : v3.cell? ⟨v2.heap.size, 0, none⟩ = some (.bool true) := by simpa using (boxA Y2 k3.out).out.cell 0
            have y31 : v3.cell? ⟨v2.heap.size, 1, none⟩ = some (.bool h) := by simpa using (boxA Y2 k3.out).out.cell 1
            have x30a := cell_al x30
            have x31a := cell_al x31
            have f31a := cell_al f31
            have y30a := cell_al y30
            have y31a := cell_al y31
            clear kk k3 B2 G2 F2 X2 Y2)
         | ((with_reducible refine (askp_any _ t ht s h what e3).mono ?_)
            rintro e v4 ⟨A4, n4, d4, rfl, h4, S4, k4⟩
            obtain rfl : n4 = 0 := h4.out.symm
            have kk := bel_new1 v4 (.cells #[.bool false, .bool false] 32)
            have B4 := bel_t (bel_t B3 k4.out) kk
            have G4 := boxA (boxA G3 k4.out) kk
            have X4 := boxA (boxA X3 k4.out) kk
            have Y4 := bx_new v4 #[.bool false, .bool false] 32
            have S4' := slb_up S4 kk
            clear kk k4 B3 G3 F3 X3 Y3))))
  go_ret
  exact ⟨rfl, B4⟩
end Go.Proofs.Ythaecflakefklaa
