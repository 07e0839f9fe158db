import Derived.Test.YtgollkckdnaegaaHD
namespace Go.Proofs.Ytgollkckdnaegaa
open Go.RowKit

/-! The column behind a byte, and behind a line. -/
section
variable {e u : Bool} {N : Nat} {c : UInt8}
theorem stepN_9 (h : c.toNat = 9) : stepN e u N c = (N / 8 + 1) * 8 := by simp [stepN, h]
theorem stepN_hat (h9 : c.toNat ≠ 9) (h : hatB e c = true) : stepN e u N c = N + 2 := by simp [stepN, h9, h]
theorem stepN_ctl (h9 : c.toNat ≠ 9) (h : hatB e c = false) (hc : ctlB c = true) : stepN e u N c = N := by
  simp only [ctlB, Bool.or_eq_true, decide_eq_true_eq] at hc
  simp [stepN, h9, h, hc]
theorem ctl_no (hc : ctlB c = false) : ¬ (c.toNat < 32 ∨ c.toNat = 127) := by
  simp only [ctlB, Bool.or_eq_false_iff, decide_eq_false_iff_not] at hc
  omega
theorem stepN_cont (hc : ctlB c = false) (hk : contB c = true) : stepN e true N c = N := by
  have h := ctl_no hc
  simp only [contB, Bool.and_eq_true, decide_eq_true_eq] at hk
  have h9 : c.toNat ≠ 9 := by omega
  rw [stepN, if_neg h9, if_neg (by rw [hat_ctl hc]; decide), if_neg h, if_pos ⟨rfl, hk⟩]
theorem stepN_one (hc : ctlB c = false) (hk : (u && contB c) = false) : stepN e u N c = N + 1 := by
  have h := ctl_no hc
  have h9 : c.toNat ≠ 9 := by omega
  rw [stepN, if_neg h9, if_neg (by rw [hat_ctl hc]; decide), if_neg h, if_neg]
  rintro ⟨rfl, h1, h2⟩
  simp [contB, h1, h2] at hk
end
theorem ret_i64 {x y : Int} (h : x = y) : Ending.returned (.int .i64 x) = .returned (.int .i64 y) := by rw [h]
set_option maxRecDepth 100000 in
theorem inside_any (w : World) (col : Int) : Calls Try.prog 27 #[.int .i64 col] w fun e w' => e = .returned (.int .i64 (nrm col : Int)) ∧ w' = w := by
  by_cases h1 : col < 0
  · have hq : ((nrm col : Nat) : Int) = 0 := by unfold nrm; rw [if_pos (Or.inl h1)]; rfl
    rw [hq]
    go_enter Try.func27, Try.ntmps27
    go_wp2
    go_ret
    exact ⟨rfl, rfl⟩
  · by_cases h2 : 65535 < col
    · have hq : ((nrm col : Nat) : Int) = 0 := by unfold nrm; rw [if_pos (Or.inr h2)]; rfl
      rw [hq]
      go_enter Try.func27, Try.ntmps27
      go_wp2
      go_ret
      exact ⟨rfl, rfl⟩
    · have hq : ((nrm col : Nat) : Int) = col := by unfold nrm; rw [if_neg (by omega)]; omega
      rw [hq]
      go_enter Try.func27, Try.ntmps27
      go_wp2
      go_ret
      exact ⟨rfl, rfl⟩
set_option maxRecDepth 100000 in
set_option maxHeartbeats 4000000 in
theorem behind_any (w : World) {t : Tm} (ht : t.Ok) (N : Nat) (hN : N ≤ 1000000000) (c : UInt8) {s v : Bool} (hs60 : hasN t.f 60 = s) (hs42 : hasN t.f 42 = v) :
    Calls Try.prog 26 #[.agg t.cs, .int .i64 (N : Int), .int .u8 (c.toNat : Int)] w fun e w' => e = .returned (.int .i64 ((stepN s v N c : Nat) : Int)) ∧ Hid (Below w.heap.size w w') := by
  have hs := cs_size ht.len
  have K0 := old26 w t
  by_cases h9 : c.toNat = 9
  · have e9 : (c.toNat : Int) = 9 := by omega
    rw [stepN_9 h9, e9]
    go_enter Try.func26, Try.ntmps26
    go_wp2_with (first
      | (refine bx26 (by rfl) _ (by rfl) _ (by rfl) hs ?_
         intro G0))
    go_ret
    exact ⟨ret_i64 (by omega), K0⟩
  · have k9 : (((c.toNat : Int)) == 9) = false := beq_eq_false_iff_ne.2 (by omega)
    cases hh : hatB s c
    · cases hc : ctlB c
      · cases hk : contB c
        · have hq := hid (stepN_one (e := s) (u := v) (N := N) hc (by rw [hk]; exact Bool.and_false v))
          have HC := hid hc
          have HH := hid hh
          have HK := hid hk
          clear hc hh hk
          rw [hq.out]
          go_enter Try.func26, Try.ntmps26
          go_wp2_with (first
            | (refine bx26 (by rfl) _ (by rfl) _ (by rfl) hs ?_
               intro G0)
            | (refine ld26 (by rfl) _ (by rfl) _ (by rfl) t.cs G0.out hs ?_)
            | (go_at_call 23
               (with_reducible refine (hasSign_b _ ht c hs60 HH.out).mono ?_)
               rintro e u1 ⟨rfl, k1⟩
               have K1 := bel_t K0 k1.out)
            | (go_at_call 33
               (with_reducible refine (ctl_b _ c HC.out).mono ?_)
               rintro e u2 ⟨rfl, rfl⟩)
            | (go_at_call 36
               (with_reducible refine (goesOn_b _ c HK.out).mono ?_)
               rintro e u3 ⟨rfl, rfl⟩))
          go_ret
          exact ⟨ret_i64 (by omega), K1⟩
        · have HC := hid hc
          have HH := hid hh
          have HK := hid hk
          have hq : ((stepN s v N c : Nat) : Int) = (if v = true then (N : Int) else (N : Int) + 1) := by
            cases v
            · rw [stepN_one hc (Bool.false_and _)]; rfl
            · rw [stepN_cont hc hk]; rfl
          rw [hq]
          clear hc hh hk
          cases hv : v
          all_goals
            subst hv
            simp only [Bool.false_eq_true, if_false, if_true]
            go_enter Try.func26, Try.ntmps26
            go_wp2_with (first
              | (refine bx26 (by rfl) _ (by rfl) _ (by rfl) hs ?_
                 intro G0)
              | (refine ld26 (by rfl) _ (by rfl) _ (by rfl) t.cs G0.out hs ?_)
              | (refine ld26 (by rfl) _ (by rfl) _ (by rfl) t.cs G1.out hs ?_)
              | (go_at_call 23
                 (with_reducible refine (hasSign_b _ ht c hs60 HH.out).mono ?_)
                 rintro e u1 ⟨rfl, k1⟩
                 have K1 := bel_t K0 k1.out
                 have G1 := hid (box_below G0.out k1.out)
                 clear G0)
              | (go_at_call 33
                 (with_reducible refine (ctl_b _ c HC.out).mono ?_)
                 rintro e u2 ⟨rfl, hu2⟩
                 rw [hu2]
                 clear hu2)
              | (go_at_call 36
                 (with_reducible refine (goesOn_b _ c HK.out).mono ?_)
                 rintro e u3 ⟨rfl, hu3⟩
                 rw [hu3]
                 clear hu3)
              | (go_at_call 34
                 (with_reducible refine (has_b _ ht hs42).mono ?_)
                 rintro e u4 ⟨rfl, k4⟩
                 have K4 := bel_t K1 k4.out))
            go_ret
            exact ⟨rfl, K4⟩
      · have hq := hid (stepN_ctl (e := s) (u := v) (N := N) h9 hh hc)
        have HC := hid hc
        have HH := hid hh
        clear hc hh
        rw [hq.out]
        go_enter Try.func26, Try.ntmps26
        go_wp2_with (first
          | (refine bx26 (by rfl) _ (by rfl) _ (by rfl) hs ?_
             intro G0)
          | (refine ld26 (by rfl) _ (by rfl) _ (by rfl) t.cs G0.out hs ?_)
          | (go_at_call 23
             (with_reducible refine (hasSign_b _ ht c hs60 HH.out).mono ?_)
             rintro e u1 ⟨rfl, k1⟩
             have K1 := bel_t K0 k1.out)
          | (go_at_call 33
             (with_reducible refine (ctl_b _ c HC.out).mono ?_)
             rintro e u2 ⟨rfl, rfl⟩))
        go_ret
        exact ⟨rfl, K1⟩
    · have hq := hid (stepN_hat (e := s) (u := v) (N := N) h9 hh)
      have HH := hid hh
      clear hh
      rw [hq.out]
      go_enter Try.func26, Try.ntmps26
      go_wp2_with (first
        | (refine bx26 (by rfl) _ (by rfl) _ (by rfl) hs ?_
           intro G0)
        | (refine ld26 (by rfl) _ (by rfl) _ (by rfl) t.cs G0.out hs ?_)
        | (go_at_call 23
           (with_reducible refine (hasSign_b _ ht c hs60 HH.out).mono ?_)
           rintro e u1 ⟨rfl, k1⟩
           have K1 := bel_t K0 k1.out))
      go_ret
      exact ⟨ret_i64 (by omega), K1⟩
end Go.Proofs.Ytgollkckdnaegaa
