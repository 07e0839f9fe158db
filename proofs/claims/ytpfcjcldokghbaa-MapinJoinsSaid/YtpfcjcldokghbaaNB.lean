import Derived.Test.YtpfcjcldokghbaaNA
namespace Go.Proofs.Ytpfcjcldokghbaa
open Go.RowKit

set_option maxRecDepth 100000 in
set_option maxHeartbeats 2000000 in
theorem strip_any (w : World) (t : Tm) (ht : t.Ok) (c : UInt8) : Calls Try.prog 10 #[.agg t.cs, .int .u8 (c.toNat : Int)] w fun e w' => e = .returned (.int .u8 ((stripB t c).toNat : Int)) ∧ Hid (Below w.heap.size w w') := by
  have hs := cs_size ht.len
  have K0 : Hid (Below w.heap.size w (w.alloc (.cells t.cs 26))) := hid ((Below.refl _ w).alloc (Nat.le_refl _) _)
  unfold stripB
  have hlow := low_v c
  obtain ⟨d, hd⟩ : ∃ d, s1 t c = d := ⟨_, rfl⟩
  rw [hd]
  cases h33 : hasN t.f 33
  · simp only [s1, h33, Bool.false_eq_true, if_false] at hd
    subst hd
    cases hg : grB c
    all_goals
      cases h37 : hasN t.f 37
      all_goals
        cases h59 : hasN t.f 59
        all_goals
          go_enter Try.func10, Try.ntmps10
          go_wp2_with (first
              | (refine bx26 (by rfl) _ (by rfl) _ (by rfl) hs ?_
                 intro G0)
              | (refine ld26 (by rfl) _ (by rfl) _ (by rfl) t.cs G0.out hs ?_)
              | (go_at_call 18
                 (first | (with_reducible refine (has_b _ ht h33).mono ?_) | (with_reducible refine (has_b _ ht h37).mono ?_) | (with_reducible refine (has_b _ ht h59).mono ?_))
                 rintro e u1 ⟨rfl, k⟩
                 replace G0 := hid (box_below G0.out k.out)
                 replace K0 := bel_t K0 k.out
                 clear k)
              | (go_at_call 21
                 (with_reducible refine (great_b _ rfl hg).mono ?_)
                 rintro e u1 ⟨rfl, rfl⟩))
          go_ret
          exact ⟨fin_s2 c hg h37 h59 (by intro h0 h1 h2; simp <;> (first | omega | (have := h0 rfl; omega))), K0⟩
  · simp only [s1, h33, if_true] at hd
    subst hd
    cases hg : grB (lowB c)
    all_goals
      cases h37 : hasN t.f 37
      all_goals
        cases h59 : hasN t.f 59
        all_goals
          go_enter Try.func10, Try.ntmps10
          go_wp2_with (first
              | (refine bx26 (by rfl) _ (by rfl) _ (by rfl) hs ?_
                 intro G0)
              | (refine ld26 (by rfl) _ (by rfl) _ (by rfl) t.cs G0.out hs ?_)
              | (go_at_call 18
                 (first | (with_reducible refine (has_b _ ht h33).mono ?_) | (with_reducible refine (has_b _ ht h37).mono ?_) | (with_reducible refine (has_b _ ht h59).mono ?_))
                 rintro e u1 ⟨rfl, k⟩
                 replace G0 := hid (box_below G0.out k.out)
                 replace K0 := bel_t K0 k.out
                 clear k)
              | (go_at_call 21
                 (with_reducible refine (great_b _ rfl hg).mono ?_)
                 rintro e u1 ⟨rfl, rfl⟩))
          go_ret
          exact ⟨fin_s2 (lowB c) hg h37 h59 (by intro h0 h1 h2; simp <;> (first | omega | (have := h0 rfl; omega))), K0⟩
set_option maxRecDepth 100000 in
set_option maxHeartbeats 2000000 in
theorem turn_any (w : World) (t : Tm) (ht : t.Ok) (c : UInt8) : Calls Try.prog 8 #[.agg t.cs, .int .u8 (c.toNat : Int)] w fun e w' => e = .returned (.tuple #[.int .u8 ((turnB t c).1.toNat : Int), .bool (turnB t c).2]) ∧ Hid (Below w.heap.size w w') := by
  have hs := cs_size ht.len
  have K0 : Hid (Below w.heap.size w (w.alloc (.cells t.cs 26))) := hid ((Below.refl _ w).alloc (Nat.le_refl _) _)
  by_cases h13 : c = 13
  · subst h13
    cases h35 : hasN t.f 35
    all_goals
      cases h36 : hasN t.f 36
      all_goals
        have hr := hid (turn13 t)
        rw [show ((13 : UInt8).toNat : Int) = 13 from rfl]
        go_enter Try.func8, Try.ntmps8
        go_wp2_with (first
            | (refine bx26 (by rfl) _ (by rfl) _ (by rfl) hs ?_
               intro G0)
            | (refine ld26 (by rfl) _ (by rfl) _ (by rfl) t.cs G0.out hs ?_)
            | (go_at_call 18
               (first | (with_reducible refine (has_b _ ht h35).mono ?_) | (with_reducible refine (has_b _ ht h36).mono ?_))
               rintro e u1 ⟨rfl, k⟩
               replace G0 := hid (box_below G0.out k.out)
               replace K0 := bel_t K0 k.out
               clear k))
        go_ret2
        exact ⟨by rw [hr.out]; simp [h35, h36], K0⟩
  · by_cases h10 : c = 10
    · subst h10
      cases h34 : hasN t.f 34
      all_goals
        have hr := hid (turn10 t)
        rw [show ((10 : UInt8).toNat : Int) = 10 from rfl]
        go_enter Try.func8, Try.ntmps8
        go_wp2_with (first
            | (refine bx26 (by rfl) _ (by rfl) _ (by rfl) hs ?_
               intro G0)
            | (refine ld26 (by rfl) _ (by rfl) _ (by rfl) t.cs G0.out hs ?_)
            | (go_at_call 18
               (first | (with_reducible refine (has_b _ ht h34).mono ?_))
               rintro e u1 ⟨rfl, k⟩
               replace G0 := hid (box_below G0.out k.out)
               replace K0 := bel_t K0 k.out
               clear k))
        go_ret2
        exact ⟨by rw [hr.out]; simp [h34], K0⟩
    · have e1 : ((c.toNat : Int) == 13) = false := u8_ne h13
      have e2 : ((c.toNat : Int) == 10) = false := u8_ne h10
      have hr := hid (turn_no t h13 h10)
      have hq : Hid (((turnB t c).1.toNat : Int) = (c.toNat : Int)) := hid (by rw [hr.out])
      generalize (c.toNat : Int) = C at e1 e2 hq
      go_enter Try.func8, Try.ntmps8
      go_wp2_with (first
          | (refine bx26 (by rfl) _ (by rfl) _ (by rfl) hs ?_
             intro G0)
          | (refine ld26 (by rfl) _ (by rfl) _ (by rfl) t.cs G0.out hs ?_))
      go_ret2
      exact ⟨by rw [hq.out, hr.out]; rfl, K0⟩
end Go.Proofs.Ytpfcjcldokghbaa
