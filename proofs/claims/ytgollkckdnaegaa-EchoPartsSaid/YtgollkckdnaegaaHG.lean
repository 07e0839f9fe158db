import Derived.Test.YtgollkckdnaegaaHF
namespace Go.Proofs.Ytgollkckdnaegaa
open Go.RowKit

attribute [local go_sem ↓] wq_ld26
attribute [local go_sem] isP_v blkV_v aggV_v
set_option maxRecDepth 100000 in
set_option maxHeartbeats 4000000 in
theorem stepr_low (w : World) {t : Tm} (ht : t.Ok) (col : Int) (h1 : col < 0) (c : UInt8) {s v : Bool} (hs60 : hasN t.f 60 = s) (hs42 : hasN t.f 42 = v) :
    Calls Try.prog 16 #[.agg t.cs, .int .i64 col, .int .u8 (c.toNat : Int)] w fun e w' => e = .returned (.int .i64 ((stepN s v 0 c : Nat) : Int)) ∧ Hid (Below w.heap.size w w') := by
  have hs := cs_size ht.len
  have K0 := old26 w t
  by_cases h9 : c.toNat = 9
  · have e9 : (c.toNat : Int) = 9 := by omega
    rw [stepN_9 h9, e9]
    go_enter Try.func16, Try.ntmps16
    go_wp2_with (first
      | (refine bx26 (by rfl) _ (by rfl) _ (by rfl) hs ?_
         intro G0))
    go_ret
    exact ⟨ret_i64 (by omega), K0⟩
  · have k9 : (((c.toNat : Int)) == 9) = false := beq_eq_false_iff_ne.2 (by omega)
    cases hh : hatB s c
    · cases hc : ctlB c
      · have hcn := ctl_no hc
        have d1 : ¬ (c.toNat : Int) < 32 := by omega
        have d2 : (((c.toNat : Int)) == 127) = false := beq_eq_false_iff_ne.2 (by omega)
        have HH := hid hh
        clear hh hcn
        cases v
        · have hq := hid (stepN_one (e := s) (u := false) (N := 0) hc (Bool.false_and _))
          rw [hq.out]
          clear hc
          go_enter Try.func16, Try.ntmps16
          go_wp2_with (first
            | (refine bx26 (by rfl) _ (by rfl) _ (by rfl) hs ?_
               intro G0)
            | (refine ld26 (by rfl) _ (by rfl) _ (by rfl) t.cs G0.out hs ?_)
            | (refine ld26 (by rfl) _ (by rfl) _ (by rfl) t.cs G1.out hs ?_)
            | (go_at_call 25
               (with_reducible refine (hat_b _ ht c hs60 HH.out).mono ?_)
               rintro e u1 ⟨rfl, k1⟩
               have K1 := bel_t K0 k1.out
               have G1 := hid (box_below G0.out k1.out)
               clear G0)
            | (go_at_call 28
               (with_reducible refine (hasr_b _ _ ht _ hs42).mono ?_)
               rintro e u4 ⟨rfl, k4⟩
               have K4 := bel_t K1 k4.out))
          go_ret
          exact ⟨ret_i64 (by omega), K4⟩
        · by_cases h8 : 128 ≤ c.toNat
          · have e8 : (128 : Int) ≤ (c.toNat : Int) := by omega
            by_cases hb : c.toNat ≤ 191
            · have eb : (c.toNat : Int) ≤ 191 := by omega
              have hq := hid (stepN_cont (e := s) (N := 0) hc (by simp [contB, h8, hb]))
              rw [hq.out]
              clear hc
              go_enter Try.func16, Try.ntmps16
              go_wp2_with (first
                | (refine bx26 (by rfl) _ (by rfl) _ (by rfl) hs ?_
                   intro G0)
                | (refine ld26 (by rfl) _ (by rfl) _ (by rfl) t.cs G0.out hs ?_)
                | (refine ld26 (by rfl) _ (by rfl) _ (by rfl) t.cs G1.out hs ?_)
                | (go_at_call 25
                   (with_reducible refine (hat_b _ ht c hs60 HH.out).mono ?_)
                   rintro e u1 ⟨rfl, k1⟩
                   have K1 := bel_t K0 k1.out
                   have G1 := hid (box_below G0.out k1.out)
                   clear G0)
                | (go_at_call 28
                   (with_reducible refine (hasr_b _ _ ht _ hs42).mono ?_)
                   rintro e u4 ⟨rfl, k4⟩
                   have K4 := bel_t K1 k4.out))
              go_ret
              exact ⟨rfl, K4⟩
            · have eb : ¬ (c.toNat : Int) ≤ 191 := by omega
              have hq := hid (stepN_one (e := s) (u := true) (N := 0) hc (by simp [contB, hb]))
              rw [hq.out]
              clear hc
              go_enter Try.func16, Try.ntmps16
              go_wp2_with (first
                | (refine bx26 (by rfl) _ (by rfl) _ (by rfl) hs ?_
                   intro G0)
                | (refine ld26 (by rfl) _ (by rfl) _ (by rfl) t.cs G0.out hs ?_)
                | (refine ld26 (by rfl) _ (by rfl) _ (by rfl) t.cs G1.out hs ?_)
                | (go_at_call 25
                   (with_reducible refine (hat_b _ ht c hs60 HH.out).mono ?_)
                   rintro e u1 ⟨rfl, k1⟩
                   have K1 := bel_t K0 k1.out
                   have G1 := hid (box_below G0.out k1.out)
                   clear G0)
                | (go_at_call 28
                   (with_reducible refine (hasr_b _ _ ht _ hs42).mono ?_)
                   rintro e u4 ⟨rfl, k4⟩
                   have K4 := bel_t K1 k4.out))
              go_ret
              exact ⟨ret_i64 (by omega), K4⟩
          · have e8 : ¬ (128 : Int) ≤ (c.toNat : Int) := by omega
            have hq := hid (stepN_one (e := s) (u := true) (N := 0) hc (by simp [contB, h8]))
            rw [hq.out]
            clear hc
            go_enter Try.func16, Try.ntmps16
            go_wp2_with (first
              | (refine bx26 (by rfl) _ (by rfl) _ (by rfl) hs ?_
                 intro G0)
              | (refine ld26 (by rfl) _ (by rfl) _ (by rfl) t.cs G0.out hs ?_)
              | (refine ld26 (by rfl) _ (by rfl) _ (by rfl) t.cs G1.out hs ?_)
              | (go_at_call 25
                 (with_reducible refine (hat_b _ ht c hs60 HH.out).mono ?_)
                 rintro e u1 ⟨rfl, k1⟩
                 have K1 := bel_t K0 k1.out
                 have G1 := hid (box_below G0.out k1.out)
                 clear G0)
              | (go_at_call 28
                 (with_reducible refine (hasr_b _ _ ht _ hs42).mono ?_)
                 rintro e u4 ⟨rfl, k4⟩
                 have K4 := bel_t K1 k4.out))
            go_ret
            exact ⟨ret_i64 (by omega), K4⟩
      · have hq := hid (stepN_ctl (e := s) (u := v) (N := 0) h9 hh hc)
        have HH := hid hh
        have hcc : c.toNat < 32 ∨ c.toNat = 127 := by
          simp only [ctlB, Bool.or_eq_true, decide_eq_true_eq] at hc
          exact hc
        clear hc hh
        rw [hq.out]
        by_cases h3 : c.toNat < 32
        · have d1 : (c.toNat : Int) < 32 := by omega
          clear hcc
          go_enter Try.func16, Try.ntmps16
          go_wp2_with (first
            | (refine bx26 (by rfl) _ (by rfl) _ (by rfl) hs ?_
               intro G0)
            | (refine ld26 (by rfl) _ (by rfl) _ (by rfl) t.cs G0.out hs ?_)
            | (refine ld26 (by rfl) _ (by rfl) _ (by rfl) t.cs G1.out hs ?_)
            | (go_at_call 25
               (with_reducible refine (hat_b _ ht c hs60 HH.out).mono ?_)
               rintro e u1 ⟨rfl, k1⟩
               have K1 := bel_t K0 k1.out
               have G1 := hid (box_below G0.out k1.out)
               clear G0)
            | (go_at_call 28
               (with_reducible refine (hasr_b _ _ ht _ hs42).mono ?_)
               rintro e u4 ⟨rfl, k4⟩
               have K4 := bel_t K1 k4.out))
          go_ret
          exact ⟨rfl, K1⟩
        · have e7 : c.toNat = 127 := by omega
          have hb7 := fun w => hat_b w ht c hs60 HH.out
          have e7i : (c.toNat : Int) = 127 := by omega
          rw [e7i] at hb7 ⊢
          clear hcc e7i k9
          go_enter Try.func16, Try.ntmps16
          go_wp2_with (first
            | (refine bx26 (by rfl) _ (by rfl) _ (by rfl) hs ?_
               intro G0)
            | (refine ld26 (by rfl) _ (by rfl) _ (by rfl) t.cs G0.out hs ?_)
            | (refine ld26 (by rfl) _ (by rfl) _ (by rfl) t.cs G1.out hs ?_)
            | (go_at_call 25
               (with_reducible refine (hb7 _).mono ?_)
               rintro e u1 ⟨rfl, k1⟩
               have K1 := bel_t K0 k1.out
               have G1 := hid (box_below G0.out k1.out)
               clear G0)
            | (go_at_call 28
               (with_reducible refine (hasr_b _ _ ht _ hs42).mono ?_)
               rintro e u4 ⟨rfl, k4⟩
               have K4 := bel_t K1 k4.out))
          go_ret
          exact ⟨rfl, K1⟩
    · have hq := hid (stepN_hat (e := s) (u := v) (N := 0) h9 hh)
      have HH := hid hh
      clear hh
      rw [hq.out]
      go_enter Try.func16, Try.ntmps16
      go_wp2_with (first
        | (refine bx26 (by rfl) _ (by rfl) _ (by rfl) hs ?_
           intro G0)
        | (refine ld26 (by rfl) _ (by rfl) _ (by rfl) t.cs G0.out hs ?_)
        | (refine ld26 (by rfl) _ (by rfl) _ (by rfl) t.cs G1.out hs ?_)
        | (go_at_call 25
           (with_reducible refine (hat_b _ ht c hs60 HH.out).mono ?_)
           rintro e u1 ⟨rfl, k1⟩
           have K1 := bel_t K0 k1.out
           have G1 := hid (box_below G0.out k1.out)
           clear G0)
        | (go_at_call 28
           (with_reducible refine (hasr_b _ _ ht _ hs42).mono ?_)
           rintro e u4 ⟨rfl, k4⟩
           have K4 := bel_t K1 k4.out))
      go_ret
      exact ⟨ret_i64 (by omega), K1⟩
set_option maxRecDepth 100000 in
set_option maxHeartbeats 4000000 in
theorem stepr_high (w : World) {t : Tm} (ht : t.Ok) (col : Int) (h2 : 65535 < col) (c : UInt8) {s v : Bool} (hs60 : hasN t.f 60 = s) (hs42 : hasN t.f 42 = v) :
    Calls Try.prog 16 #[.agg t.cs, .int .i64 col, .int .u8 (c.toNat : Int)] w fun e w' => e = .returned (.int .i64 ((stepN s v 0 c : Nat) : Int)) ∧ Hid (Below w.heap.size w w') := by
  have hs := cs_size ht.len
  have K0 := old26 w t
  have h1 : ¬ col < 0 := by omega
  by_cases h9 : c.toNat = 9
  · have e9 : (c.toNat : Int) = 9 := by omega
    rw [stepN_9 h9, e9]
    go_enter Try.func16, Try.ntmps16
    go_wp2_with (first
      | (refine bx26 (by rfl) _ (by rfl) _ (by rfl) hs ?_
         intro G0))
    go_ret
    exact ⟨ret_i64 (by omega), K0⟩
  · have k9 : (((c.toNat : Int)) == 9) = false := beq_eq_false_iff_ne.2 (by omega)
    cases hh : hatB s c
    · cases hc : ctlB c
      · have hcn := ctl_no hc
        have d1 : ¬ (c.toNat : Int) < 32 := by omega
        have d2 : (((c.toNat : Int)) == 127) = false := beq_eq_false_iff_ne.2 (by omega)
        have HH := hid hh
        clear hh hcn
        cases v
        · have hq := hid (stepN_one (e := s) (u := false) (N := 0) hc (Bool.false_and _))
          rw [hq.out]
          clear hc
          go_enter Try.func16, Try.ntmps16
          go_wp2_with (first
            | (refine bx26 (by rfl) _ (by rfl) _ (by rfl) hs ?_
               intro G0)
            | (refine ld26 (by rfl) _ (by rfl) _ (by rfl) t.cs G0.out hs ?_)
            | (refine ld26 (by rfl) _ (by rfl) _ (by rfl) t.cs G1.out hs ?_)
            | (go_at_call 25
               (with_reducible refine (hat_b _ ht c hs60 HH.out).mono ?_)
               rintro e u1 ⟨rfl, k1⟩
               have K1 := bel_t K0 k1.out
               have G1 := hid (box_below G0.out k1.out)
               clear G0)
            | (go_at_call 28
               (with_reducible refine (hasr_b _ _ ht _ hs42).mono ?_)
               rintro e u4 ⟨rfl, k4⟩
               have K4 := bel_t K1 k4.out))
          go_ret
          exact ⟨ret_i64 (by omega), K4⟩
        · by_cases h8 : 128 ≤ c.toNat
          · have e8 : (128 : Int) ≤ (c.toNat : Int) := by omega
            by_cases hb : c.toNat ≤ 191
            · have eb : (c.toNat : Int) ≤ 191 := by omega
              have hq := hid (stepN_cont (e := s) (N := 0) hc (by simp [contB, h8, hb]))
              rw [hq.out]
              clear hc
              go_enter Try.func16, Try.ntmps16
              go_wp2_with (first
                | (refine bx26 (by rfl) _ (by rfl) _ (by rfl) hs ?_
                   intro G0)
                | (refine ld26 (by rfl) _ (by rfl) _ (by rfl) t.cs G0.out hs ?_)
                | (refine ld26 (by rfl) _ (by rfl) _ (by rfl) t.cs G1.out hs ?_)
                | (go_at_call 25
                   (with_reducible refine (hat_b _ ht c hs60 HH.out).mono ?_)
                   rintro e u1 ⟨rfl, k1⟩
                   have K1 := bel_t K0 k1.out
                   have G1 := hid (box_below G0.out k1.out)
                   clear G0)
                | (go_at_call 28
                   (with_reducible refine (hasr_b _ _ ht _ hs42).mono ?_)
                   rintro e u4 ⟨rfl, k4⟩
                   have K4 := bel_t K1 k4.out))
              go_ret
              exact ⟨rfl, K4⟩
            · have eb : ¬ (c.toNat : Int) ≤ 191 := by omega
              have hq := hid (stepN_one (e := s) (u := true) (N := 0) hc (by simp [contB, hb]))
              rw [hq.out]
              clear hc
              go_enter Try.func16, Try.ntmps16
              go_wp2_with (first
                | (refine bx26 (by rfl) _ (by rfl) _ (by rfl) hs ?_
                   intro G0)
                | (refine ld26 (by rfl) _ (by rfl) _ (by rfl) t.cs G0.out hs ?_)
                | (refine ld26 (by rfl) _ (by rfl) _ (by rfl) t.cs G1.out hs ?_)
                | (go_at_call 25
                   (with_reducible refine (hat_b _ ht c hs60 HH.out).mono ?_)
                   rintro e u1 ⟨rfl, k1⟩
                   have K1 := bel_t K0 k1.out
                   have G1 := hid (box_below G0.out k1.out)
                   clear G0)
                | (go_at_call 28
                   (with_reducible refine (hasr_b _ _ ht _ hs42).mono ?_)
                   rintro e u4 ⟨rfl, k4⟩
                   have K4 := bel_t K1 k4.out))
              go_ret
              exact ⟨ret_i64 (by omega), K4⟩
          · have e8 : ¬ (128 : Int) ≤ (c.toNat : Int) := by omega
            have hq := hid (stepN_one (e := s) (u := true) (N := 0) hc (by simp [contB, h8]))
            rw [hq.out]
            clear hc
            go_enter Try.func16, Try.ntmps16
            go_wp2_with (first
              | (refine bx26 (by rfl) _ (by rfl) _ (by rfl) hs ?_
                 intro G0)
              | (refine ld26 (by rfl) _ (by rfl) _ (by rfl) t.cs G0.out hs ?_)
              | (refine ld26 (by rfl) _ (by rfl) _ (by rfl) t.cs G1.out hs ?_)
              | (go_at_call 25
                 (with_reducible refine (hat_b _ ht c hs60 HH.out).mono ?_)
                 rintro e u1 ⟨rfl, k1⟩
                 have K1 := bel_t K0 k1.out
                 have G1 := hid (box_below G0.out k1.out)
                 clear G0)
              | (go_at_call 28
                 (with_reducible refine (hasr_b _ _ ht _ hs42).mono ?_)
                 rintro e u4 ⟨rfl, k4⟩
                 have K4 := bel_t K1 k4.out))
            go_ret
            exact ⟨ret_i64 (by omega), K4⟩
      · have hq := hid (stepN_ctl (e := s) (u := v) (N := 0) h9 hh hc)
        have HH := hid hh
        have hcc : c.toNat < 32 ∨ c.toNat = 127 := by
          simp only [ctlB, Bool.or_eq_true, decide_eq_true_eq] at hc
          exact hc
        clear hc hh
        rw [hq.out]
        by_cases h3 : c.toNat < 32
        · have d1 : (c.toNat : Int) < 32 := by omega
          clear hcc
          go_enter Try.func16, Try.ntmps16
          go_wp2_with (first
            | (refine bx26 (by rfl) _ (by rfl) _ (by rfl) hs ?_
               intro G0)
            | (refine ld26 (by rfl) _ (by rfl) _ (by rfl) t.cs G0.out hs ?_)
            | (refine ld26 (by rfl) _ (by rfl) _ (by rfl) t.cs G1.out hs ?_)
            | (go_at_call 25
               (with_reducible refine (hat_b _ ht c hs60 HH.out).mono ?_)
               rintro e u1 ⟨rfl, k1⟩
               have K1 := bel_t K0 k1.out
               have G1 := hid (box_below G0.out k1.out)
               clear G0)
            | (go_at_call 28
               (with_reducible refine (hasr_b _ _ ht _ hs42).mono ?_)
               rintro e u4 ⟨rfl, k4⟩
               have K4 := bel_t K1 k4.out))
          go_ret
          exact ⟨rfl, K1⟩
        · have e7 : c.toNat = 127 := by omega
          have hb7 := fun w => hat_b w ht c hs60 HH.out
          have e7i : (c.toNat : Int) = 127 := by omega
          rw [e7i] at hb7 ⊢
          clear hcc e7i k9
          go_enter Try.func16, Try.ntmps16
          go_wp2_with (first
            | (refine bx26 (by rfl) _ (by rfl) _ (by rfl) hs ?_
               intro G0)
            | (refine ld26 (by rfl) _ (by rfl) _ (by rfl) t.cs G0.out hs ?_)
            | (refine ld26 (by rfl) _ (by rfl) _ (by rfl) t.cs G1.out hs ?_)
            | (go_at_call 25
               (with_reducible refine (hb7 _).mono ?_)
               rintro e u1 ⟨rfl, k1⟩
               have K1 := bel_t K0 k1.out
               have G1 := hid (box_below G0.out k1.out)
               clear G0)
            | (go_at_call 28
               (with_reducible refine (hasr_b _ _ ht _ hs42).mono ?_)
               rintro e u4 ⟨rfl, k4⟩
               have K4 := bel_t K1 k4.out))
          go_ret
          exact ⟨rfl, K1⟩
    · have hq := hid (stepN_hat (e := s) (u := v) (N := 0) h9 hh)
      have HH := hid hh
      clear hh
      rw [hq.out]
      go_enter Try.func16, Try.ntmps16
      go_wp2_with (first
        | (refine bx26 (by rfl) _ (by rfl) _ (by rfl) hs ?_
           intro G0)
        | (refine ld26 (by rfl) _ (by rfl) _ (by rfl) t.cs G0.out hs ?_)
        | (refine ld26 (by rfl) _ (by rfl) _ (by rfl) t.cs G1.out hs ?_)
        | (go_at_call 25
           (with_reducible refine (hat_b _ ht c hs60 HH.out).mono ?_)
           rintro e u1 ⟨rfl, k1⟩
           have K1 := bel_t K0 k1.out
           have G1 := hid (box_below G0.out k1.out)
           clear G0)
        | (go_at_call 28
           (with_reducible refine (hasr_b _ _ ht _ hs42).mono ?_)
           rintro e u4 ⟨rfl, k4⟩
           have K4 := bel_t K1 k4.out))
      go_ret
      exact ⟨ret_i64 (by omega), K1⟩
theorem stepr_any (w : World) {t : Tm} (ht : t.Ok) (col : Int) (c : UInt8) {s v : Bool} (hs60 : Hid (hasN t.f 60 = s)) (hs42 : Hid (hasN t.f 42 = v)) :
    Calls Try.prog 16 #[.agg t.cs, .int .i64 col, .int .u8 (c.toNat : Int)] w fun e w' => e = .returned (.int .i64 ((stepN s v (nrm col) c : Nat) : Int)) ∧ Hid (Below w.heap.size w w') := by
  by_cases h1 : col < 0
  · rw [show nrm col = 0 from if_pos (Or.inl h1)]
    exact stepr_low w ht col h1 c hs60.out hs42.out
  · by_cases h2 : 65535 < col
    · rw [show nrm col = 0 from if_pos (Or.inr h2)]
      exact stepr_high w ht col h2 c hs60.out hs42.out
    · obtain ⟨N, rfl⟩ : ∃ N : Nat, col = N := ⟨col.toNat, by omega⟩
      rw [nrm_nat (by omega)]
      exact stepr_nat w ht N (by omega) c hs60.out hs42.out
end Go.Proofs.Ytgollkckdnaegaa
