import Derived.Test.YtgollkckdnaegaaHA
import Derived.Test.YtgollkckdnaegaaGA
namespace Go.Proofs.Ytgollkckdnaegaa
open Go.RowKit

/-! How a byte is shown: the program's and the document's. -/
def ctlB (c : UInt8) : Bool := decide (c.toNat < 32) || decide (c.toNat = 127)
def contB (c : UInt8) : Bool := decide (128 ≤ c.toNat) && decide (c.toNat ≤ 191)
theorem u8_ne {c d : UInt8} (h : c ≠ d) : (((c.toNat : Int)) == (d.toNat : Int)) = false := by
  apply beq_eq_false_iff_ne.2
  intro e
  exact h (UInt8.toNat_inj.1 (by omega))
theorem hat_off (c : UInt8) : hatB false c = false := rfl
theorem hat_ctl {e : Bool} {c : UInt8} (h : ctlB c = false) : hatB e c = false := by
  simp only [ctlB, Bool.or_eq_false_iff, decide_eq_false_iff_not] at h
  simp [hatB, h.1, h.2]
theorem hat_on {c : UInt8} (h : ctlB c = true) (h9 : c.toNat ≠ 9) (h10 : c.toNat ≠ 10) (e : Bool) : hatB e c = e := by
  simp only [ctlB, Bool.or_eq_true, decide_eq_true_eq] at h
  cases e
  · rfl
  · simp [hatB, h9, h10]
    omega
set_option maxRecDepth 100000 in
theorem ctl_b (w : World) (c : UInt8) {b : Bool} (h : ctlB c = b) : Calls Try.prog 33 #[.int .u8 (c.toNat : Int)] w fun e w' => e = .returned (.bool b) ∧ w' = w := by
  subst h
  unfold ctlB
  by_cases h1 : c.toNat < 32
  · have k1 : (c.toNat : Int) < (32 : Int) := by omega
    simp only [h1, decide_true, Bool.true_or]
    go_enter Try.func33, Try.ntmps33
    go_wp2
    go_ret
    exact ⟨rfl, rfl⟩
  · have k1 : ¬ (c.toNat : Int) < (32 : Int) := by omega
    by_cases h2 : c.toNat = 127
    · have k2 : (c.toNat : Int) = 127 := by omega
      simp only [h2, decide_true, Bool.or_true]
      go_enter Try.func33, Try.ntmps33
      go_wp2
      go_ret
      exact ⟨rfl, rfl⟩
    · have k2 : (((c.toNat : Int)) == 127) = false := beq_eq_false_iff_ne.2 (by omega)
      simp only [h1, h2, decide_false, Bool.or_false]
      go_enter Try.func33, Try.ntmps33
      go_wp2
      go_ret
      exact ⟨rfl, rfl⟩
set_option maxRecDepth 100000 in
theorem goesOn_b (w : World) (c : UInt8) {b : Bool} (h : contB c = b) : Calls Try.prog 36 #[.int .u8 (c.toNat : Int)] w fun e w' => e = .returned (.bool b) ∧ w' = w := by
  subst h
  unfold contB
  by_cases h1 : 128 ≤ c.toNat
  · have k1 : (128 : Int) ≤ (c.toNat : Int) := by omega
    by_cases h2 : c.toNat ≤ 191
    · have k2 : (c.toNat : Int) ≤ (191 : Int) := by omega
      simp only [h1, h2, decide_true, Bool.and_self]
      go_enter Try.func36, Try.ntmps36
      go_wp2
      go_ret
      exact ⟨rfl, rfl⟩
    · have k2 : ¬ (c.toNat : Int) ≤ (191 : Int) := by omega
      simp only [h1, h2, decide_true, decide_false, Bool.and_false]
      go_enter Try.func36, Try.ntmps36
      go_wp2
      go_ret
      exact ⟨rfl, rfl⟩
  · have k1 : ¬ (128 : Int) ≤ (c.toNat : Int) := by omega
    simp only [h1, decide_false, Bool.false_and]
    go_enter Try.func36, Try.ntmps36
    go_wp2
    go_ret
    exact ⟨rfl, rfl⟩
set_option maxRecDepth 100000 in
set_option maxHeartbeats 2000000 in
theorem hasSign_b (w : World) {t : Tm} (ht : t.Ok) (c : UInt8) {s b : Bool} (hs60 : hasN t.f 60 = s) (hb : hatB s c = b) : Calls Try.prog 23 #[.agg t.cs, .int .u8 (c.toNat : Int)] w fun e w' => e = .returned (.bool b) ∧ Hid (Below w.heap.size w w') := by
  have hs := cs_size ht.len
  have K0 : Hid (Below w.heap.size w (w.alloc (.cells t.cs 26))) := hid ((Below.refl _ w).alloc (Nat.le_refl _) _)
  subst hb
  cases hc : ctlB c
  · rw [hat_ctl hc]
    go_enter Try.func23, Try.ntmps23
    go_wp2_with (first
      | (refine bx26 (by rfl) _ (by rfl) _ (by rfl) hs ?_
         intro G0)
      | (go_at_call 33
         (with_reducible refine (ctl_b _ c hc).mono ?_)
         rintro e u1 ⟨rfl, rfl⟩))
    go_ret
    exact ⟨rfl, K0⟩
  · by_cases h9 : c.toNat = 9
    · have e9 : (c.toNat : Int) = 9 := by omega
      have hq : hatB s c = false := by simp [hatB, h9]
      rw [hq]
      have hcc := hid hc
      clear hc
      have cb := fun w => ctl_b w c hcc.out
      rw [e9] at cb ⊢
      go_enter Try.func23, Try.ntmps23
      go_wp2_with (first
        | (refine bx26 (by rfl) _ (by rfl) _ (by rfl) hs ?_
           intro G0)
        | (go_at_call 33
           (with_reducible refine (cb _).mono ?_)
           rintro e u1 ⟨rfl, rfl⟩))
      go_ret
      exact ⟨rfl, K0⟩
    · by_cases h10 : c.toNat = 10
      · have e10 : (c.toNat : Int) = 10 := by omega
        have hq : hatB s c = false := by simp [hatB, h10]
        rw [hq]
        have hcc := hid hc
        clear hc
        have cb := fun w => ctl_b w c hcc.out
        rw [e10] at cb ⊢
        go_enter Try.func23, Try.ntmps23
        go_wp2_with (first
          | (refine bx26 (by rfl) _ (by rfl) _ (by rfl) hs ?_
             intro G0)
          | (go_at_call 33
             (with_reducible refine (cb _).mono ?_)
             rintro e u1 ⟨rfl, rfl⟩))
        go_ret
        exact ⟨rfl, K0⟩
      · have k9 : (((c.toNat : Int)) != 9) = true := bne_iff_ne.2 (by omega)
        have k10 : (((c.toNat : Int)) != 10) = true := bne_iff_ne.2 (by omega)
        rw [hat_on hc h9 h10]
        go_enter Try.func23, Try.ntmps23
        go_wp2_with (first
          | (refine bx26 (by rfl) _ (by rfl) _ (by rfl) hs ?_
             intro G0)
          | (refine ld26 (by rfl) _ (by rfl) _ (by rfl) t.cs G0.out hs ?_)
          | (go_at_call 33
             (with_reducible refine (ctl_b _ c hc).mono ?_)
             rintro e u1 ⟨rfl, rfl⟩)
          | (go_at_call 34
             (with_reducible refine (has_b _ ht hs60).mono ?_)
             rintro e u2 ⟨rfl, k⟩
             have K1 := bel_t K0 k.out))
        go_ret
        exact ⟨rfl, K1⟩
end Go.Proofs.Ytgollkckdnaegaa
