import Derived.Test.YtjbmoiblkehbmaaDoorSGI
namespace Go.Proofs.YtjbmoiblkehbmaaDoor
namespace L18
open Go.RowKit

/-! Layer 18: what becomes of a process. -/
section
variable {w : World}
set_option maxRecDepth 100000 in
set_option maxHeartbeats 4000000 in
theorem eff_any (H : Hid (TabW w)) {a : List Int} (ha : Hid (a.length = 32)) {g z : Int} (hz : Hid (effA a g = z)) : Calls Tryd.prog 30 #[.agg (arr a), .int .i64 g] w fun e w' => e = .returned (.int .i64 z) ∧ Hid (Below w.heap.size w w') := by
  have B1 : ∀ o, Hid (Below w.heap.size w (w.alloc o)) := fun o => bel_al (hid (Below.refl _ _))
  have H1 : ∀ o, Hid (TabW (w.alloc o)) := fun o => TabW.below H (B1 o).out
  have hzz := hz.out
  unfold effA at hzz
  cases hk : known g
  · have HK := hid hk
    rw [hk, if_pos rfl] at hzz
    have HZ := hid hzz.symm
    clear hzz hk
    go_enter Tryd.func30, Tryd.ntmps30
    go_wp2_with (first
      | (refine bxP (by rfl) _ (by rfl) _ (by rfl) ?_
         intro _)
      | (go_at_call 34
         (with_reducible refine (isSig_b (H1 _) HK).mono ?_)
         rintro e w1 ⟨rfl, rfl⟩))
    go_ret
    rw [HZ.out]
    exact ⟨rfl, B1 _⟩
  · have HK := hid hk
    obtain ⟨h1, h2⟩ := known_rng hk
    obtain ⟨k, hgk⟩ := Int.eq_ofNat_of_zero_le (show 0 ≤ g by omega)
    have c0 : ∀ o, (w.alloc o).cell? ⟨0, k * 3 + 1, none⟩ = some (.int .i64 (efS g)) := fun o => by
      obtain ⟨_, c0, _⟩ := (H1 o).out.2 k (by omega)
      rw [c0, hgk]
      rfl
    have d0 : (w.alloc (.cells (arr a) 44)).cell? ⟨w.heap.size, k, none⟩ = some (.int .i64 (atA a g)) := ((Box.new w 44 (arr a)).cell k).trans (arr_at ha.out hk hgk)
    rw [hk, if_neg (by decide)] at hzz
    obtain ⟨f, hf⟩ : ∃ z, Hid (efS g = z) := ⟨_, hid rfl⟩
    obtain ⟨x, hx⟩ : ∃ z, Hid (atA a g = z) := ⟨_, hid rfl⟩
    rw [hf.out] at hzz c0
    rw [hx.out] at hzz d0
    clear hk
    cases hfx : fixS g
    · have HX := hid hfx
      rw [hfx, if_neg (by decide)] at hzz
      subst hgk
      have h3 : (k : Int) < 29 := by omega
      have h4 : (k : Int) < 32 := by omega
      clear hfx
      by_cases e2 : x = 2
      · rw [if_pos e2] at hzz
        subst e2
        have HZ := hid hzz.symm
        clear hzz
        go_enter Tryd.func30, Tryd.ntmps30
        go_wp2_with (first
          | (refine bxP (by rfl) _ (by rfl) _ (by rfl) ?_
             intro _)
          | (go_at_call 34
             (with_reducible refine (isSig_b (H1 _) HK).mono ?_)
             rintro e w1 ⟨rfl, rfl⟩)
          | (go_at_call 40
             (with_reducible refine (fix_any _ HX).mono ?_)
             rintro e w1 ⟨rfl, rfl⟩))
        go_ret
        rw [HZ.out]
        exact ⟨rfl, B1 _⟩
      · have t2 : (x == 2) = false := by simpa using e2
        rw [if_neg e2] at hzz
        clear e2
        by_cases e1 : x = 1
        · subst e1
          by_cases e5 : f = 5
          · rw [if_neg (fun h => h.2 e5)] at hzz
            subst e5
            have HZ := hid hzz.symm
            clear hzz
            go_enter Tryd.func30, Tryd.ntmps30
            go_wp2_with (first
              | (refine bxP (by rfl) _ (by rfl) _ (by rfl) ?_
                 intro _)
              | (go_at_call 34
                 (with_reducible refine (isSig_b (H1 _) HK).mono ?_)
                 rintro e w1 ⟨rfl, rfl⟩)
              | (go_at_call 40
                 (with_reducible refine (fix_any _ HX).mono ?_)
                 rintro e w1 ⟨rfl, rfl⟩))
            go_ret
            rw [HZ.out]
            exact ⟨rfl, B1 _⟩
          · rw [if_pos ⟨rfl, e5⟩] at hzz
            have t5 : (f != 5) = true := by simpa using e5
            have t6 : (f == 5) = false := by simpa using e5
            have HZ := hid hzz.symm
            clear hzz e5
            go_enter Tryd.func30, Tryd.ntmps30
            go_wp2_with (first
              | (refine bxP (by rfl) _ (by rfl) _ (by rfl) ?_
                 intro _)
              | (go_at_call 34
                 (with_reducible refine (isSig_b (H1 _) HK).mono ?_)
                 rintro e w1 ⟨rfl, rfl⟩)
              | (go_at_call 40
                 (with_reducible refine (fix_any _ HX).mono ?_)
                 rintro e w1 ⟨rfl, rfl⟩))
            go_ret
            rw [HZ.out]
            exact ⟨rfl, B1 _⟩
        · rw [if_neg (fun h => e1 h.1)] at hzz
          have t1 : (x == 1) = false := by simpa using e1
          have HZ := hid hzz.symm
          clear hzz e1
          go_enter Tryd.func30, Tryd.ntmps30
          go_wp2_with (first
            | (refine bxP (by rfl) _ (by rfl) _ (by rfl) ?_
               intro _)
            | (go_at_call 34
               (with_reducible refine (isSig_b (H1 _) HK).mono ?_)
               rintro e w1 ⟨rfl, rfl⟩)
            | (go_at_call 40
               (with_reducible refine (fix_any _ HX).mono ?_)
               rintro e w1 ⟨rfl, rfl⟩))
          go_ret
          rw [HZ.out]
          exact ⟨rfl, B1 _⟩
    · have HX := hid hfx
      rw [hfx, if_pos rfl] at hzz
      have HZ := hid hzz.symm
      subst hgk
      have h3 : (k : Int) < 29 := by omega
      clear hzz hfx
      go_enter Tryd.func30, Tryd.ntmps30
      go_wp2_with (first
        | (refine bxP (by rfl) _ (by rfl) _ (by rfl) ?_
           intro _)
        | (go_at_call 34
           (with_reducible refine (isSig_b (H1 _) HK).mono ?_)
           rintro e w1 ⟨rfl, rfl⟩)
        | (go_at_call 40
           (with_reducible refine (fix_any _ HX).mono ?_)
           rintro e w1 ⟨rfl, rfl⟩))
      go_ret
      rw [HZ.out]
      exact ⟨rfl, B1 _⟩
set_option maxRecDepth 100000 in
set_option maxHeartbeats 4000000 in
theorem reff_any (w : World) {a : List Int} (ha : Hid (a.length = 32)) {g z : Int} (hz : Hid (effA a g = z)) : Calls Tryd.prog 31 #[.agg (arr a), .int .i64 g] w fun e w' => e = .returned (.int .i64 z) ∧ Hid (Below w.heap.size w w') := by
  have B1 : ∀ o, Hid (Below w.heap.size w (w.alloc o)) := fun o => bel_al (hid (Below.refl _ _))
  have hzz := hz.out
  unfold effA at hzz
  cases hk : known g
  · have HK := hid hk
    rw [hk, if_pos rfl] at hzz
    have HZ := hid hzz.symm
    clear hzz hk
    go_enter Tryd.func31, Tryd.ntmps31
    go_wp2_with (first
      | (refine bxR (by rfl) _ (by rfl) _ (by rfl) ?_
         intro _)
      | (go_at_call 35
         (with_reducible refine (ofr_any _ _).mono ?_)
         rintro e w1 ⟨rfl, B2⟩
         have HKK := HK.out
         rw [HKK]
         have B3 := bel_t (B1 _) B2.out
         clear B2))
    go_ret
    rw [HZ.out]
    exact ⟨rfl, bel_al B3⟩
  · have HK := hid hk
    obtain ⟨h1, h2⟩ := known_rng hk
    obtain ⟨k, hgk⟩ := Int.eq_ofNat_of_zero_le (show 0 ≤ g by omega)
    have d0 : (w.alloc (.cells (arr a) 43)).cell? ⟨w.heap.size, k, none⟩ = some (.int .i64 (atA a g)) := ((Box.new w 43 (arr a)).cell k).trans (arr_at ha.out hk hgk)
    rw [hk, if_neg (by decide)] at hzz
    obtain ⟨f, hf⟩ : ∃ z, Hid (efS g = z) := ⟨_, hid rfl⟩
    obtain ⟨x, hx⟩ : ∃ z, Hid (atA a g = z) := ⟨_, hid rfl⟩
    have hf5 := ef_five hk
    rw [hf.out] at hzz hf5
    rw [hx.out] at hzz d0
    clear hk
    by_cases g9 : g = 9
    · rw [if_pos (by simp [fixS, g9])] at hzz
      have HZ := hid hzz.symm
      subst g9
      have ek : k = 9 := by omega
      subst ek
      clear hzz hf5 hgk
      go_enter Tryd.func31, Tryd.ntmps31
      go_wp2_with (first
        | (refine bxR (by rfl) _ (by rfl) _ (by rfl) ?_
           intro _)
        | (go_at_call 35
           (with_reducible refine (ofr_any _ _).mono ?_)
           rintro e w1 ⟨rfl, B2⟩
           have HKK := HK.out
           have HFF := hf.out
           rw [HKK, HFF]
           clear HKK HFF
           have B3 := bel_t (B1 _) B2.out
           have d1 := fun o => ((B2.out.alloc B2.out.size o).cell (p := ⟨w.heap.size, _, none⟩) (by simp)).trans d0
           clear B2))
      go_ret
      rw [HZ.out]
      exact ⟨rfl, bel_al B3⟩
    have t9 : (g == 9) = false := by simpa using g9
    by_cases g19 : g = 19
    · rw [if_pos (by simp [fixS, g19])] at hzz
      have HZ := hid hzz.symm
      subst g19
      have ek : k = 19 := by omega
      subst ek
      clear hzz hf5 hgk g9
      go_enter Tryd.func31, Tryd.ntmps31
      go_wp2_with (first
        | (refine bxR (by rfl) _ (by rfl) _ (by rfl) ?_
           intro _)
        | (go_at_call 35
           (with_reducible refine (ofr_any _ _).mono ?_)
           rintro e w1 ⟨rfl, B2⟩
           have HKK := HK.out
           have HFF := hf.out
           rw [HKK, HFF]
           clear HKK HFF
           have B3 := bel_t (B1 _) B2.out
           have d1 := fun o => ((B2.out.alloc B2.out.size o).cell (p := ⟨w.heap.size, _, none⟩) (by simp)).trans d0
           clear B2))
      go_ret
      rw [HZ.out]
      exact ⟨rfl, bel_al B3⟩
    have t19 : (g == 19) = false := by simpa using g19
    rw [if_neg (by simp [fixS, g9, g19])] at hzz
    have t18 : (g == 18) = decide (f = 5) := by
      rw [Bool.eq_iff_iff, decide_eq_true_eq, hf5]
      exact beq_iff_eq
    subst hgk
    have h4 : (k : Int) < 32 := by omega
    clear g9 g19 hf5
    by_cases e2 : x = 2
    · rw [if_pos e2] at hzz
      subst e2
      have HZ := hid hzz.symm
      clear hzz t18
      go_enter Tryd.func31, Tryd.ntmps31
      go_wp2_with (first
        | (refine bxR (by rfl) _ (by rfl) _ (by rfl) ?_
           intro _)
        | (go_at_call 35
           (with_reducible refine (ofr_any _ _).mono ?_)
           rintro e w1 ⟨rfl, B2⟩
           have HKK := HK.out
           have HFF := hf.out
           rw [HKK, HFF]
           clear HKK HFF
           have B3 := bel_t (B1 _) B2.out
           have d1 := fun o => ((B2.out.alloc B2.out.size o).cell (p := ⟨w.heap.size, _, none⟩) (by simp)).trans d0
           clear B2))
      go_ret
      rw [HZ.out]
      exact ⟨rfl, bel_al B3⟩
    have t2 : (x == 2) = false := by simpa using e2
    rw [if_neg e2] at hzz
    clear e2
    by_cases e1 : x = 1
    · subst e1
      by_cases e5 : f = 5
      · rw [if_neg (fun h => h.2 e5)] at hzz
        rw [decide_eq_true e5] at t18
        subst e5
        have HZ := hid hzz.symm
        clear hzz
        go_enter Tryd.func31, Tryd.ntmps31
        go_wp2_with (first
          | (refine bxR (by rfl) _ (by rfl) _ (by rfl) ?_
             intro _)
          | (go_at_call 35
             (with_reducible refine (ofr_any _ _).mono ?_)
             rintro e w1 ⟨rfl, B2⟩
             have HKK := HK.out
             have HFF := hf.out
             rw [HKK, HFF]
             clear HKK HFF
             have B3 := bel_t (B1 _) B2.out
             have d1 := fun o => ((B2.out.alloc B2.out.size o).cell (p := ⟨w.heap.size, _, none⟩) (by simp)).trans d0
             clear B2))
        go_ret
        rw [HZ.out]
        exact ⟨rfl, bel_al B3⟩
      · rw [if_pos ⟨rfl, e5⟩] at hzz
        rw [decide_eq_false e5] at t18
        have HZ := hid hzz.symm
        clear hzz e5
        go_enter Tryd.func31, Tryd.ntmps31
        go_wp2_with (first
          | (refine bxR (by rfl) _ (by rfl) _ (by rfl) ?_
             intro _)
          | (go_at_call 35
             (with_reducible refine (ofr_any _ _).mono ?_)
             rintro e w1 ⟨rfl, B2⟩
             have HKK := HK.out
             have HFF := hf.out
             rw [HKK, HFF]
             clear HKK HFF
             have B3 := bel_t (B1 _) B2.out
             have d1 := fun o => ((B2.out.alloc B2.out.size o).cell (p := ⟨w.heap.size, _, none⟩) (by simp)).trans d0
             clear B2))
        go_ret
        rw [HZ.out]
        exact ⟨rfl, bel_al B3⟩
    · rw [if_neg (fun h => e1 h.1)] at hzz
      have t1 : (x == 1) = false := by simpa using e1
      have HZ := hid hzz.symm
      clear hzz e1 t18
      go_enter Tryd.func31, Tryd.ntmps31
      go_wp2_with (first
        | (refine bxR (by rfl) _ (by rfl) _ (by rfl) ?_
           intro _)
        | (go_at_call 35
           (with_reducible refine (ofr_any _ _).mono ?_)
           rintro e w1 ⟨rfl, B2⟩
           have HKK := HK.out
           have HFF := hf.out
           rw [HKK, HFF]
           clear HKK HFF
           have B3 := bel_t (B1 _) B2.out
           have d1 := fun o => ((B2.out.alloc B2.out.size o).cell (p := ⟨w.heap.size, _, none⟩) (by simp)).trans d0
           clear B2))
      go_ret
      rw [HZ.out]
      exact ⟨rfl, bel_al B3⟩
end
end L18
end Go.Proofs.YtjbmoiblkehbmaaDoor
