import Derived.Test.YtpfcjcldokghbaaNA
namespace Go.Proofs.Ytpfcjcldokghbaa
open Go.RowKit

set_option maxRecDepth 100000 in
set_option maxHeartbeats 2000000 in
theorem stripr_any (w : World) (t : Tm) (ht : t.Ok) (c : UInt8) : Calls Try.prog 11 #[.agg t.cs, .int .u8 (c.toNat : Int)] w fun e w' => e = .returned (.int .u8 ((stripB t c).toNat : Int)) ∧ Hid (Below w.heap.size w w') := by
  have hs := cs_size ht.len
  have K0 : Hid (Below w.heap.size w (w.alloc (.cells t.cs 26))) := hid ((Below.refl _ w).alloc (Nat.le_refl _) _)
  unfold stripB
  have hlow := low_r c
  obtain ⟨d, hd⟩ : ∃ d, s1 t c = d := ⟨_, rfl⟩
  rw [hd]
  cases h33 : hasN t.f 33
  · simp only [s1, h33, Bool.false_eq_true, if_false] at hd
    subst hd
    cases h37 : hasN t.f 37
    all_goals
      cases h59 : hasN t.f 59
      all_goals
        by_cases hx : (65 : Int) ≤ (c.toNat : Int)
        all_goals
          by_cases hy : (c.toNat : Int) ≤ 90 <;> try (exfalso; omega)
          all_goals
            go_enter Try.func11, Try.ntmps11
            go_wp2_with (first
                | (refine bx26 (by rfl) _ (by rfl) _ (by rfl) hs ?_
                   intro G0)
                | (refine ld26 (by rfl) _ (by rfl) _ (by rfl) t.cs G0.out hs ?_)
                | (go_at_call 20
                   (first | (with_reducible refine (hasr_b _ _ ht _ h33).mono ?_) | (with_reducible refine (hasr_b _ _ ht _ h37).mono ?_) | (with_reducible refine (hasr_b _ _ ht _ h59).mono ?_))
                   rintro e u1 ⟨rfl, k⟩
                   replace G0 := hid (box_below G0.out k.out)
                   replace K0 := bel_t K0 k.out
                   clear k))
            go_ret
            exact ⟨fin_s2r c h37 h59 (by intro h1 h2; simp <;> omega), K0⟩
  · simp only [s1, h33, if_true] at hd
    subst hd
    cases h37 : hasN t.f 37
    all_goals
      cases h59 : hasN t.f 59
      all_goals
        by_cases hx : (65 : Int) ≤ ((lowB c).toNat : Int)
        all_goals
          by_cases hy : ((lowB c).toNat : Int) ≤ 90 <;> try (exfalso; omega)
          all_goals
            go_enter Try.func11, Try.ntmps11
            go_wp2_with (first
                | (refine bx26 (by rfl) _ (by rfl) _ (by rfl) hs ?_
                   intro G0)
                | (refine ld26 (by rfl) _ (by rfl) _ (by rfl) t.cs G0.out hs ?_)
                | (go_at_call 20
                   (first | (with_reducible refine (hasr_b _ _ ht _ h33).mono ?_) | (with_reducible refine (hasr_b _ _ ht _ h37).mono ?_) | (with_reducible refine (hasr_b _ _ ht _ h59).mono ?_))
                   rintro e u1 ⟨rfl, k⟩
                   replace G0 := hid (box_below G0.out k.out)
                   replace K0 := bel_t K0 k.out
                   clear k))
            go_ret
            exact ⟨fin_s2r (lowB c) h37 h59 (by intro h1 h2; simp <;> omega), K0⟩
set_option maxRecDepth 100000 in
set_option maxHeartbeats 2000000 in
theorem turnr_any (w : World) (t : Tm) (ht : t.Ok) (c : UInt8) : Calls Try.prog 9 #[.agg t.cs, .int .u8 (c.toNat : Int)] w fun e w' => e = .returned (.tuple #[.int .u8 ((turnB t c).1.toNat : Int), .bool (turnB t c).2]) ∧ Hid (Below w.heap.size w w') := by
  have hs := cs_size ht.len
  have K0 : Hid (Below w.heap.size w (w.alloc (.cells t.cs 26))) := hid ((Below.refl _ w).alloc (Nat.le_refl _) _)
  by_cases h13 : c = 13
  · subst h13
    cases h35 : hasN t.f 35
    all_goals
      cases h36 : hasN t.f 36
      all_goals
        have hr := hid (turn13 t)
        rw [show ((13 : UInt8).toNat : Int) = 13 from rfl]
        go_enter Try.func9, Try.ntmps9
        go_wp2_with (first
            | (refine bx26 (by rfl) _ (by rfl) _ (by rfl) hs ?_
               intro G0)
            | (refine ld26 (by rfl) _ (by rfl) _ (by rfl) t.cs G0.out hs ?_)
            | (go_at_call 20
               (first | (with_reducible refine (hasr_b _ _ ht _ h35).mono ?_) | (with_reducible refine (hasr_b _ _ ht _ h36).mono ?_))
               rintro e u1 ⟨rfl, k⟩
               replace G0 := hid (box_below G0.out k.out)
               replace K0 := bel_t K0 k.out
               clear k))
        go_ret2
        exact ⟨by rw [hr.out]; simp [h35, h36], K0⟩
  · by_cases h10 : c = 10
    · subst h10
      cases h34 : hasN t.f 34
      all_goals
        have hr := hid (turn10 t)
        rw [show ((10 : UInt8).toNat : Int) = 10 from rfl]
        go_enter Try.func9, Try.ntmps9
        go_wp2_with (first
            | (refine bx26 (by rfl) _ (by rfl) _ (by rfl) hs ?_
               intro G0)
            | (refine ld26 (by rfl) _ (by rfl) _ (by rfl) t.cs G0.out hs ?_)
            | (go_at_call 20
               (first | (with_reducible refine (hasr_b _ _ ht _ h34).mono ?_))
               rintro e u1 ⟨rfl, k⟩
               replace G0 := hid (box_below G0.out k.out)
               replace K0 := bel_t K0 k.out
               clear k))
        go_ret2
        exact ⟨by rw [hr.out]; simp [h34], K0⟩
    · have e1 : ((c.toNat : Int) == 13) = false := u8_ne h13
      have e2 : ((c.toNat : Int) == 10) = false := u8_ne h10
      have hr := hid (turn_no t h13 h10)
      have hq : Hid (((turnB t c).1.toNat : Int) = (c.toNat : Int)) := hid (by rw [hr.out])
      generalize (c.toNat : Int) = C at e1 e2 hq
      go_enter Try.func9, Try.ntmps9
      go_wp2_with (first
          | (refine bx26 (by rfl) _ (by rfl) _ (by rfl) hs ?_
             intro G0)
          | (refine ld26 (by rfl) _ (by rfl) _ (by rfl) t.cs G0.out hs ?_))
      go_ret2
      exact ⟨by rw [hq.out, hr.out]; rfl, K0⟩
end Go.Proofs.Ytpfcjcldokghbaa
