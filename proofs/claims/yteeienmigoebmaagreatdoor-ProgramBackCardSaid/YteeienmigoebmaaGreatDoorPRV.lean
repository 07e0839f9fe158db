import Derived.Test.YteeienmigoebmaaGreatDoorKI
namespace Go.Proofs.YteeienmigoebmaaGreatDoor
namespace L19
open Go.RowKit L18

/-! Layer 19: ProgramBack, the walk. -/
section
variable {w : World}
theorem par_len {Y : List PgX} {t : List UInt8} {l : List ProgV} {e0 : Int} {n : Nat} (he : Hid (prL Y = l)) (h : Hid (parseT t = (l, e0))) (hf : ¬ e0 = 0) (hn : Hid (Y.length = n)) : n = 0 := by
  have h1 := parse_bad (s := t) (by rw [h.out]; exact hf)
  rw [h.out] at h1
  rw [← hn.out, ← prL_len, he.out]
  simpa using congrArg List.length h1
set_option maxRecDepth 100000 in
set_option maxHeartbeats 8000000 in
theorem back_walk (H : Hid (TabX w)) (A : Option Addr) (n c : Nat) (X : List PgX) (hl : Hid (PgM w w.heap.size A c X)) (hn : Hid (X.length = n)) (hm : Hid (FitX X)) (t : List UInt8) : Calls Tryz.prog 4 #[.slice A n c, .string (bs t)] w fun e w' => e = .returned (.bool true) ∧ Hid (Below w.heap.size w w') := by
  obtain ⟨g, hg⟩ : ∃ z, Hid (greatP (prL X) = z) := ⟨_, hid rfl⟩
  obtain ⟨s, e0, he⟩ : ∃ s e0, Hid (printP (prL X) = (s, e0)) := ⟨_, _, hid rfl⟩
  obtain ⟨l2, f, hp⟩ : ∃ l f, Hid (parseT t = (l, f)) := ⟨_, _, hid rfl⟩
  by_cases hg1 : g = true
  · subst hg1
    go_enter Tryz.func4, Tryz.ntmps4
    go_wp2_with (first
      | (go_at_call 6
         (with_reducible refine (alive_any H).mono ?_)
         rintro e w1 ⟨rfl, B1⟩
         have L1 := pg_up hl B1.out)
      | (go_at_call 7
         (with_reducible refine (ref_any _ A n c X L1 hn.out hm).mono ?_)
         rintro e w2 ⟨A2, c2, Y, rfl, Q2, P2, C2⟩
         have B2 := bel_t B1 C2.out
         obtain ⟨L2, N2⟩ := own_m P2)
      | (go_at_call 8
         (with_reducible refine (great_any _ A2 n c2 Y L2 N2.out (hid (fit_of Q2.out hm.out)) (via greatP Q2 hg)).mono ?_)
         rintro e w3 ⟨rfl, C3⟩
         have B3 := bel_t B2 C3.out))
    go_ret
    exact ⟨rfl, B3⟩
  have hg0 : g = false := by simpa using hg1
  subst hg0
  clear hg1
  by_cases ht : 20000 < t.length
  · have t1 : ((bs t).size : Int) > 20000 := by rw [bs_size]; omega
    go_enter Tryz.func4, Tryz.ntmps4
    go_wp2_with (first
      | (go_at_call 6
         (with_reducible refine (alive_any H).mono ?_)
         rintro e w1 ⟨rfl, B1⟩
         have L1 := pg_up hl B1.out)
      | (go_at_call 7
         (with_reducible refine (ref_any _ A n c X L1 hn.out hm).mono ?_)
         rintro e w2 ⟨A2, c2, Y, rfl, Q2, P2, C2⟩
         have B2 := bel_t B1 C2.out
         obtain ⟨L2, N2⟩ := own_m P2)
      | (go_at_call 8
         (with_reducible refine (great_any _ A2 n c2 Y L2 N2.out (hid (fit_of Q2.out hm.out)) (via greatP Q2 hg)).mono ?_)
         rintro e w3 ⟨rfl, C3⟩
         have B3 := bel_t B2 C3.out))
    go_ret
    exact ⟨rfl, B3⟩
  have t1 : ¬ ((bs t).size : Int) > 20000 := by rw [bs_size]; omega
  have HT : Hid (t.length ≤ 262144) := hid (by omega)
  clear ht
  have SX : Hid (SmallX X) := hid (small_great rfl hg.out)
  by_cases hf : f = 0
  · subst hf
    have hk2 : Hid (checkP l2 = 0) := hid (print_parse hp.out).1
    have hp2 : Hid (printP l2 = (t, 0)) := hid (by
      unfold printP
      rw [if_neg (by rw [hk2.out]; simp), (print_parse hp.out).2])
    by_cases hc : e0 = 0 ∧ s.length ≤ 262144
    · obtain ⟨rfl, hs⟩ := hc
      have hs1 : ((bs s).size : Int) ≤ 262144 := by rw [bs_size]; omega
      have HS : Hid (s.length ≤ 262144) := hid hs
      have hq : Hid (parseT s = (prL X, 0)) := hid (by
        have h := he.out
        unfold printP at h
        split at h
        · rename_i h0
          injection h with h1 h2
          exact absurd h2 h0
        · rename_i h0
          injection h with h1 h2
          subst h1
          exact parse_print (by simpa using h0) hs)
      clear hs
      go_enter Tryz.func4, Tryz.ntmps4
      go_wp2_with (first
        | (go_at_call 6
           (with_reducible refine (alive_any H).mono ?_)
           rintro e w1 ⟨rfl, B1⟩
           have L1 := pg_up hl B1.out)
        | (go_at_call 7
           (first
            | ((with_reducible refine (ref_any _ A n c X L1 hn.out hm).mono ?_)
               rintro e w2 ⟨A2, c2, Y, rfl, Q2, P2, C2⟩
               have B2 := bel_t B1 C2.out
               have L1' := pg_up L1 C2.out
               obtain ⟨L2, N2⟩ := own_m P2)
            | ((with_reducible refine (ref_any _ A n c X L7' hn.out hm).mono ?_)
               rintro e w8 ⟨A8, c8, Y8, rfl, Q8, P8, C8⟩
               have B8 := bel_t B7 C8.out
               obtain ⟨L8, N8⟩ := own_m P8
               have L7'' := pg_up L7 C8.out)))
        | (go_at_call 8
           (with_reducible refine (great_any _ A2 n c2 Y L2 N2.out (hid (fit_of Q2.out hm.out)) (via greatP Q2 hg)).mono ?_)
           rintro e w3 ⟨rfl, C3⟩
           have B3 := bel_t B2 C3.out
           have L3 := pg_up L1' C3.out)
        | (go_at_call 9
           (with_reducible refine (to_any _ A n c X L3 hn.out hm).mono ?_)
           rintro e w4 ⟨A4, c4, Z, rfl, Q4, P4, C4⟩
           have B4 := bel_t B3 C4.out
           obtain ⟨L4, N4⟩ := own_m P4
           have H4 := TabX.below H B4.out
           have L4' := pg_up L3 C4.out
           have SZ : Hid (SmallX Z) := hid (small_eq Q4.out SX.out))
        | (go_at_call 10
           (first
            | ((with_reducible refine (print_any H4 L4 N4 SZ (s := s) (via printP Q4 he)).mono ?_)
               rintro e w5 ⟨rfl, C5⟩
               have B5 := bel_t B4 C5.out
               have L5 := pg_up L4' C5.out
               have H5 := TabX.below H B5.out)
            | ((with_reducible refine (print_any HA LA NA SA (s := t) (e0 := 0) (via printP QA hp2)).mono ?_)
               rintro e wB ⟨rfl, CB⟩
               have BB := bel_t BA CB.out
               have LB := pg_up LA CB.out
               have HB := TabX.below H BB.out)))
        | (go_at_call 14
           (first
            | ((with_reducible refine (parse_any H5 HS hq).mono ?_)
               rintro e w6 ⟨A6, n6, c6, V, rfl, N6, L6, Q6, C6⟩
               have B6 := bel_t B5 C6.out
               have L6' := pg_up L5 C6.out)
            | ((with_reducible refine (parse_any H9 HT hp).mono ?_)
               rintro e wA ⟨AA, nA, cA, VA, rfl, NA, LA, QA, CA⟩
               have BA := bel_t B9 CA.out
               have HA := TabX.below H BA.out
               have SA : Hid (SmallX VA) := hid (parse_small QA.out hp.out))))
        | (go_at_call 13
           (with_reducible refine (from_any _ A6 n6 c6 V L6 N6.out (hid (fit_of Q6.out hm.out))).mono ?_)
           rintro e w7 ⟨A7, c7, Y7, rfl, Q7, P7, C7⟩
           have B7 := bel_t B6 C7.out
           obtain ⟨L7, N7⟩ := own_m P7
           have L7' := pg_up L6' C7.out)
        | (go_at_call 12
           (with_reducible refine (same_any _ A7 A8 n6 n c7 c8 Y7 Y8 L7'' N7.out L8 N8.out (g := true) (hid (by rw [Q7.out, Q6.out, Q8.out]; simp))).mono ?_)
           rintro e w9 ⟨rfl, C9⟩
           have B9 := bel_t B8 C9.out
           have H9 := TabX.below H B9.out)
        | (go_at_call 15
           (with_reducible refine (check_any HB LB NA SA (e0 := 0) (via checkP QA hk2)).mono ?_)
           rintro e wC ⟨rfl, CC⟩
           have BC := bel_t BB CC.out))
      go_ret
      exact ⟨rfl, BC⟩
    · have hs1 : ¬ e0 = 0 ∨ e0 = 0 ∧ ¬ ((bs s).size : Int) ≤ 262144 := by
        rw [bs_size]
        by_cases h0 : e0 = 0
        · exact .inr ⟨h0, by omega⟩
        · exact .inl h0
      clear hc
      obtain h0 | ⟨rfl, h0⟩ := hs1
      all_goals go_enter Tryz.func4, Tryz.ntmps4
      all_goals go_wp2_with (first
        | (go_at_call 6
           (with_reducible refine (alive_any H).mono ?_)
           rintro e w1 ⟨rfl, B1⟩
           have L1 := pg_up hl B1.out)
        | (go_at_call 7
           (first
            | ((with_reducible refine (ref_any _ A n c X L1 hn.out hm).mono ?_)
               rintro e w2 ⟨A2, c2, Y, rfl, Q2, P2, C2⟩
               have B2 := bel_t B1 C2.out
               have L1' := pg_up L1 C2.out
               obtain ⟨L2, N2⟩ := own_m P2)))
        | (go_at_call 8
           (with_reducible refine (great_any _ A2 n c2 Y L2 N2.out (hid (fit_of Q2.out hm.out)) (via greatP Q2 hg)).mono ?_)
           rintro e w3 ⟨rfl, C3⟩
           have B3 := bel_t B2 C3.out
           have L3 := pg_up L1' C3.out)
        | (go_at_call 9
           (with_reducible refine (to_any _ A n c X L3 hn.out hm).mono ?_)
           rintro e w4 ⟨A4, c4, Z, rfl, Q4, P4, C4⟩
           have B4 := bel_t B3 C4.out
           obtain ⟨L4, N4⟩ := own_m P4
           have H4 := TabX.below H B4.out
           have L4' := pg_up L3 C4.out
           have SZ : Hid (SmallX Z) := hid (small_eq Q4.out SX.out))
        | (go_at_call 10
           (first
            | ((with_reducible refine (print_any H4 L4 N4 SZ (s := s) (via printP Q4 he)).mono ?_)
               rintro e w5 ⟨rfl, C5⟩
               have B5 := bel_t B4 C5.out
               have L5 := pg_up L4' C5.out
               have H5 := TabX.below H B5.out)
            | ((with_reducible refine (print_any HA LA NA SA (s := t) (e0 := 0) (via printP QA hp2)).mono ?_)
               rintro e wB ⟨rfl, CB⟩
               have BB := bel_t BA CB.out
               have LB := pg_up LA CB.out
               have HB := TabX.below H BB.out)))
        | (go_at_call 14
           (first
            | ((with_reducible refine (parse_any H5 HT hp).mono ?_)
               rintro e wA ⟨AA, nA, cA, VA, rfl, NA, LA, QA, CA⟩
               have BA := bel_t B5 CA.out
               have HA := TabX.below H BA.out
               have SA : Hid (SmallX VA) := hid (parse_small QA.out hp.out))))
        | (go_at_call 15
           (with_reducible refine (check_any HB LB NA SA (e0 := 0) (via checkP QA hk2)).mono ?_)
           rintro e wC ⟨rfl, CC⟩
           have BC := bel_t BB CC.out))
      all_goals go_ret
      all_goals exact ⟨rfl, BC⟩
  · by_cases hc : e0 = 0 ∧ s.length ≤ 262144
    · obtain ⟨rfl, hs⟩ := hc
      have hs1 : ((bs s).size : Int) ≤ 262144 := by rw [bs_size]; omega
      have HS : Hid (s.length ≤ 262144) := hid hs
      have hq : Hid (parseT s = (prL X, 0)) := hid (by
        have h := he.out
        unfold printP at h
        split at h
        · rename_i h0
          injection h with h1 h2
          exact absurd h2 h0
        · rename_i h0
          injection h with h1 h2
          subst h1
          exact parse_print (by simpa using h0) hs)
      clear hs
      go_enter Tryz.func4, Tryz.ntmps4
      go_wp2_with (first
        | (go_at_call 6
           (with_reducible refine (alive_any H).mono ?_)
           rintro e w1 ⟨rfl, B1⟩
           have L1 := pg_up hl B1.out)
        | (go_at_call 7
           (first
            | ((with_reducible refine (ref_any _ A n c X L1 hn.out hm).mono ?_)
               rintro e w2 ⟨A2, c2, Y, rfl, Q2, P2, C2⟩
               have B2 := bel_t B1 C2.out
               have L1' := pg_up L1 C2.out
               obtain ⟨L2, N2⟩ := own_m P2)
            | ((with_reducible refine (ref_any _ A n c X L7' hn.out hm).mono ?_)
               rintro e w8 ⟨A8, c8, Y8, rfl, Q8, P8, C8⟩
               have B8 := bel_t B7 C8.out
               obtain ⟨L8, N8⟩ := own_m P8
               have L7'' := pg_up L7 C8.out)))
        | (go_at_call 8
           (with_reducible refine (great_any _ A2 n c2 Y L2 N2.out (hid (fit_of Q2.out hm.out)) (via greatP Q2 hg)).mono ?_)
           rintro e w3 ⟨rfl, C3⟩
           have B3 := bel_t B2 C3.out
           have L3 := pg_up L1' C3.out)
        | (go_at_call 9
           (with_reducible refine (to_any _ A n c X L3 hn.out hm).mono ?_)
           rintro e w4 ⟨A4, c4, Z, rfl, Q4, P4, C4⟩
           have B4 := bel_t B3 C4.out
           obtain ⟨L4, N4⟩ := own_m P4
           have H4 := TabX.below H B4.out
           have L4' := pg_up L3 C4.out
           have SZ : Hid (SmallX Z) := hid (small_eq Q4.out SX.out))
        | (go_at_call 10
           (first
            | ((with_reducible refine (print_any H4 L4 N4 SZ (s := s) (via printP Q4 he)).mono ?_)
               rintro e w5 ⟨rfl, C5⟩
               have B5 := bel_t B4 C5.out
               have L5 := pg_up L4' C5.out
               have H5 := TabX.below H B5.out)))
        | (go_at_call 14
           (first
            | ((with_reducible refine (parse_any H5 HS hq).mono ?_)
               rintro e w6 ⟨A6, n6, c6, V, rfl, N6, L6, Q6, C6⟩
               have B6 := bel_t B5 C6.out
               have L6' := pg_up L5 C6.out)
            | ((with_reducible refine (parse_any H9 HT hp).mono ?_)
               rintro e wA ⟨AA, nA, cA, VA, rfl, NA, LA, QA, CA⟩
               have BA := bel_t B9 CA.out
               obtain rfl := par_len QA hp hf NA)))
        | (go_at_call 13
           (with_reducible refine (from_any _ A6 n6 c6 V L6 N6.out (hid (fit_of Q6.out hm.out))).mono ?_)
           rintro e w7 ⟨A7, c7, Y7, rfl, Q7, P7, C7⟩
           have B7 := bel_t B6 C7.out
           obtain ⟨L7, N7⟩ := own_m P7
           have L7' := pg_up L6' C7.out)
        | (go_at_call 12
           (with_reducible refine (same_any _ A7 A8 n6 n c7 c8 Y7 Y8 L7'' N7.out L8 N8.out (g := true) (hid (by rw [Q7.out, Q6.out, Q8.out]; simp))).mono ?_)
           rintro e w9 ⟨rfl, C9⟩
           have B9 := bel_t B8 C9.out
           have H9 := TabX.below H B9.out))
      go_ret
      exact ⟨rfl, BA⟩
    · have hs1 : ¬ e0 = 0 ∨ e0 = 0 ∧ ¬ ((bs s).size : Int) ≤ 262144 := by
        rw [bs_size]
        by_cases h0 : e0 = 0
        · exact .inr ⟨h0, by omega⟩
        · exact .inl h0
      clear hc
      obtain h0 | ⟨rfl, h0⟩ := hs1
      all_goals go_enter Tryz.func4, Tryz.ntmps4
      all_goals go_wp2_with (first
        | (go_at_call 6
           (with_reducible refine (alive_any H).mono ?_)
           rintro e w1 ⟨rfl, B1⟩
           have L1 := pg_up hl B1.out)
        | (go_at_call 7
           (first
            | ((with_reducible refine (ref_any _ A n c X L1 hn.out hm).mono ?_)
               rintro e w2 ⟨A2, c2, Y, rfl, Q2, P2, C2⟩
               have B2 := bel_t B1 C2.out
               have L1' := pg_up L1 C2.out
               obtain ⟨L2, N2⟩ := own_m P2)))
        | (go_at_call 8
           (with_reducible refine (great_any _ A2 n c2 Y L2 N2.out (hid (fit_of Q2.out hm.out)) (via greatP Q2 hg)).mono ?_)
           rintro e w3 ⟨rfl, C3⟩
           have B3 := bel_t B2 C3.out
           have L3 := pg_up L1' C3.out)
        | (go_at_call 9
           (with_reducible refine (to_any _ A n c X L3 hn.out hm).mono ?_)
           rintro e w4 ⟨A4, c4, Z, rfl, Q4, P4, C4⟩
           have B4 := bel_t B3 C4.out
           obtain ⟨L4, N4⟩ := own_m P4
           have H4 := TabX.below H B4.out
           have L4' := pg_up L3 C4.out
           have SZ : Hid (SmallX Z) := hid (small_eq Q4.out SX.out))
        | (go_at_call 10
           (first
            | ((with_reducible refine (print_any H4 L4 N4 SZ (s := s) (via printP Q4 he)).mono ?_)
               rintro e w5 ⟨rfl, C5⟩
               have B5 := bel_t B4 C5.out
               have L5 := pg_up L4' C5.out
               have H5 := TabX.below H B5.out)))
        | (go_at_call 14
           (first
            | ((with_reducible refine (parse_any H5 HT hp).mono ?_)
               rintro e wA ⟨AA, nA, cA, VA, rfl, NA, LA, QA, CA⟩
               have BA := bel_t B5 CA.out
               obtain rfl := par_len QA hp hf NA))))
      all_goals go_ret
      all_goals exact ⟨rfl, BA⟩
end
end L19
end Go.Proofs.YteeienmigoebmaaGreatDoor
