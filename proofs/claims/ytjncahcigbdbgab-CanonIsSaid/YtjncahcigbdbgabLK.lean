import Derived.Test.YtjncahcigbdbgabLJ
namespace Go.Proofs.Ytjncahcigbdbgab
open Go.RowKit

/-! Layer 13: CanonParts. -/
theorem bt {a b c : World} (h : Below a.heap.size a b) (k : Hid (Below b.heap.size b c)) : Below a.heap.size a c := h.trans (k.out.mono h.size)
theorem from_ln {u u' : World} {A A2 : Option Addr} {n c c2 base : Nat} {qs : List Rc} (hl : Hid (LnV u u.heap.size A c qs)) (hn : Hid (qs.length = n)) (ho : Hid (u'.ownsRow base 37 2 (.slice A2 n c2) n (rcV qs))) (k : Hid (Below u.heap.size u u')) : Hid (LnV u' u'.heap.size A2 c2 qs) :=
  hid (LnO.ln (base := base) (E := 37) ⟨hn.out, ho.out, fun r hr => ((hl.out.text r hr).below k.out).more k.out.size⟩)
theorem read_two {t : List UInt8} {e : Bool} {r : List (List UInt8 × Bool)} {n m : Nat} (hn : 0 < n) (hm : 0 < m) (hlt : n < t.length) :
    readL ((t, e) :: r) (n : Int) = (t.take n, (t.drop n, e) :: r, true) ∧ ∃ b more, readL ((t.drop n, e) :: r) (m : Int) = (b, more, true) ∧ readL ((t, e) :: r) ((n : Int) + (m : Int)) = (t.take n ++ b, more, true) ∧ b.length ≤ t.length ∧ (∀ y ∈ more, y.1.length ≤ t.length ∨ y ∈ r) ∧ more.length ≤ r.length + 1 := by
  have h1 : ¬ (n : Int) ≤ 0 := by omega
  have h2 : ¬ (m : Int) ≤ 0 := by omega
  have h3 : ¬ (n : Int) + (m : Int) ≤ 0 := by omega
  constructor
  · show (if (n : Int) ≤ 0 then _ else if (t.length : Int) ≤ (n : Int) then _ else _) = _
    rw [if_neg h1, if_neg (by omega)]
    rfl
  · by_cases hc : t.length ≤ n + m
    · refine ⟨t.drop n, r, ?_, ?_, by rw [List.length_drop]; omega, fun y hy => Or.inr hy, by omega⟩
      · show (if (m : Int) ≤ 0 then _ else if ((t.drop n).length : Int) ≤ (m : Int) then _ else _) = _
        rw [if_neg h2, if_pos (by rw [List.length_drop]; omega)]
      · show (if (n : Int) + (m : Int) ≤ 0 then _ else if (t.length : Int) ≤ (n : Int) + (m : Int) then _ else _) = _
        rw [if_neg h3, if_pos (by omega), List.take_append_drop]
    · refine ⟨(t.drop n).take m, ((t.drop n).drop m, e) :: r, ?_, ?_, by rw [List.length_take, List.length_drop]; omega, fun y hy => ?_, by simp⟩
      · show (if (m : Int) ≤ 0 then _ else if ((t.drop n).length : Int) ≤ (m : Int) then _ else _) = _
        rw [if_neg h2, if_neg (by rw [List.length_drop]; omega)]
        rfl
      · show (if (n : Int) + (m : Int) ≤ 0 then _ else if (t.length : Int) ≤ (n : Int) + (m : Int) then _ else _) = _
        rw [if_neg h3, if_neg (by omega), show ((n : Int) + (m : Int)).toNat = n + m by omega, List.take_add, List.drop_drop]
      · rcases List.mem_cons.1 hy with rfl | h
        · left; show ((t.drop n).drop m).length ≤ _; rw [List.length_drop, List.length_drop]; omega
        · exact Or.inr h
theorem great_no {ls : List (List UInt8 × Bool)} (h : greatL ls = false) : ls.length ≤ 200 ∧ minL ls ≤ 10000 := by
  simp only [greatL, Bool.or_eq_false_iff, decide_eq_false_iff_not] at h
  omega
end Go.Proofs.Ytjncahcigbdbgab
