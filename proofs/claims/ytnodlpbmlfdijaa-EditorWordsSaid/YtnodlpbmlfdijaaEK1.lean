import Derived.Test.YtnodlpbmlfdijaaEJ
namespace Go.Proofs.Ytnodlpbmlfdijaa
open Go.RowKit

set_option maxRecDepth 100000 in
theorem blk_b (w : World) (y : UInt8) {b : Bool} (h : blankB y = b) : Calls Try.prog 18 #[.int .u8 (y.toNat : Int)] w fun e w' => e = .returned (.bool b) ∧ w' = w := by
  unfold blankB at h
  subst h
  have e1 := u8_eq y 32 (by omega)
  have e2 := u8_eq y 9 (by omega)
  cases q1 : (y == 32)
  · have f1 : ((y.toNat : Int) == 32) = false := e1.trans q1
    cases q2 : (y == 9)
    · have f2 : ((y.toNat : Int) == 9) = false := e2.trans q2
      clear e1 e2 q1 q2
      go_enter Try.func18, Try.ntmps18
      go_wp2
      go_ret
      exact ⟨rfl, rfl⟩
    · have f2 : ((y.toNat : Int) == 9) = true := e2.trans q2
      clear e1 e2 q1 q2
      go_enter Try.func18, Try.ntmps18
      go_wp2
      go_ret
      exact ⟨rfl, rfl⟩
  · have f1 : ((y.toNat : Int) == 32) = true := e1.trans q1
    clear e1 e2 q1
    go_enter Try.func18, Try.ntmps18
    go_wp2
    go_ret
    exact ⟨rfl, rfl⟩
theorem flat_lt {us : List (List UInt8)} (he : ∀ x ∈ us, 1 ≤ x.length) {m j : Nat} (h : m < j) (hj : j ≤ us.length) : (us.take m).flatten.length < (us.take j).flatten.length := by
  have e : us.take j = us.take m ++ (us.drop m).take (j - m) := by
    have := List.take_append_drop m (us.take j)
    rw [List.take_take, Nat.min_eq_left (by omega), List.drop_take] at this
    exact this.symm
  have hp : 1 ≤ ((us.drop m).take (j - m)).flatten.length := by
    refine flat_pos (fun e => ?_) (fun x hx => he x (List.mem_of_mem_drop (List.mem_of_mem_take hx)))
    have := congrArg List.length e
    rw [List.length_take, List.length_drop] at this
    simp at this
    omega
  rw [e, List.flatten_append, List.length_append]
  omega
/-- Erased so far towards what Word leaves. -/
def Tow (u : Bool) (bs X : List UInt8) : Prop := ∃ j, (restU u bs).length ≤ j ∧ j ≤ (units u bs).length ∧ X = ((units u bs).take j).flatten
theorem tow_start (u : Bool) (bs : List UInt8) : Tow u bs bs := ⟨(units u bs).length, (restU_prefix u bs).length_le, Nat.le_refl _, by rw [List.take_length, units_flat]⟩
theorem tow_le {u : Bool} {bs X : List UInt8} (h : Tow u bs X) : X = restL u bs ∨ ((restL u bs).length < X.length ∧ Tow u bs (eraA u X)) := by
  obtain ⟨j, h1, h2, rfl⟩ := h
  have e : restL u bs = ((units u bs).take (restU u bs).length).flatten := by
    unfold restL
    conv => lhs; rw [restU_take]
  by_cases hj : j = (restU u bs).length
  · left
    rw [e, hj]
  · right
    obtain ⟨i, rfl⟩ : ∃ i, j = i + 1 := ⟨j - 1, by omega⟩
    refine ⟨?_, i, by omega, by omega, erase_to u bs i (by omega)⟩
    rw [e]
    exact flat_lt (fun x hx => (units_each u bs x hx).1) (by omega) h2
/-- Of what is gone, but for blanks at its end. -/
def Wrd (g : List UInt8) (p : Nat) : Prop := (g.take p).reverse.dropWhile blankB = g.reverse.dropWhile blankB
theorem take_rev {g : List UInt8} {q : Nat} {y : UInt8} (h : g[q]? = some y) : (g.take (q + 1)).reverse = y :: (g.take q).reverse := by
  rw [List.take_add_one, h, List.reverse_append]
  rfl
theorem wrd_next {g : List UInt8} {q : Nat} {y : UInt8} (h : Wrd g (q + 1)) (hy : g[q]? = some y) (hb : blankB y = true) : Wrd g q := by
  unfold Wrd at *
  rw [take_rev hy, List.dropWhile_cons_of_pos hb] at h
  exact h
theorem wrd_stop {g : List UInt8} {q : Nat} {y : UInt8} (h : Wrd g (q + 1)) (hy : g[q]? = some y) (hb : blankB y = false) : (g.take (q + 1)).reverse = g.reverse.dropWhile blankB := by
  unfold Wrd at h
  rw [take_rev hy, List.dropWhile_cons_of_neg (by rw [hb]; decide), ← take_rev hy] at h
  exact h
theorem wrd_all {u : Bool} {bs : List UInt8} {p i : Nat} {y : UInt8} (h : (((goneL u bs).take p).reverse = (goneL u bs).reverse.dropWhile blankB)) (hi : i < p) (hy : (goneL u bs)[i]? = some y) (hu : u = false) : blankB y = false := by
  subst hu
  refine gone_word bs y ?_
  rw [← h, List.mem_reverse]
  refine List.mem_of_getElem? (i := i) ?_
  rw [List.getElem?_take, if_pos hi, hy]
theorem rest_last {u : Bool} {bs : List UInt8} {n : Nat} (hn : (restL u bs).length = n + 1) {y : UInt8} (hy : (restL u bs)[n]? = some y) : blankB y = true := by
  rcases restL_end u bs with h | ⟨a, c, h, hb⟩
  · rw [h] at hn
    simp at hn
  · rw [h] at hn hy
    have e : n = a.length := by simp at hn; omega
    rw [e, List.getElem?_append_right (Nat.le_refl _)] at hy
    simp at hy
    rw [← hy]
    exact hb
end Go.Proofs.Ytnodlpbmlfdijaa
