import Derived.Test.YtoefcdefbfdngaaSRBc
namespace Go.Proofs.Ytoefcdefbfdngaa
open Go.RowKit
theorem pz_top {x : Int} (h : x ≤ 9223372036854775807) : pz x ≤ 9223372036854775807 := by unfold pz; omega
/-- What the program counts is what the document counts. -/
theorem tick_wait {A B C wn D E : Int} (hb : 0 ≤ B) (hc : 0 ≤ C) : tickP A B C (pz wn) D E = waitP A B C wn D E := by
  unfold tickP waitP doneP pz
  repeat' split
  all_goals first | rfl | omega | (simp_all; omega) | simp_all
theorem wait_ready {A B C wn D E n : Int} {r : Bool} (hc : 0 ≤ C) (h : waitP A B C wn D E = (n, r)) :
    readyP A B C wn D E = if r = true ∧ ¬ 0 < n then (if C ≤ pz wn then C else pz wn, true) else (0, false) := by
  unfold waitP at h
  unfold readyP
  by_cases hd : doneP A B C wn D E = true
  · rw [if_pos hd] at h ⊢
    injection h with h1 h2
    subst h1 h2
    simp only [pz]
    repeat' split
    all_goals first | rfl | omega | (simp_all; omega) | simp_all
  · rw [if_neg hd] at h ⊢
    rw [if_neg]
    rintro ⟨rfl, h2⟩
    rw [Bool.not_eq_true] at hd
    unfold doneP at hd
    repeat' split at hd
    all_goals first | (cases hd; done) | skip
    all_goals (repeat' split at h)
    all_goals injection h with h1 h3
    all_goals first | (cases h3; done) | omega | (rw [decide_eq_false_iff_not] at hd; omega)
end Go.Proofs.Ytoefcdefbfdngaa
