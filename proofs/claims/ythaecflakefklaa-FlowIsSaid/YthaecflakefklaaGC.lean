/- What came in: a setting with more behind it, numbers, sizes. -/
import Derived.Test.YthaecflakefklaaGB
namespace Go.Proofs.Ythaecflakefklaa
open Go.ChangeShapes Go.WideShapes Go.ChangeAt Go.RowKit Go.Deep

theorem u16_of {x : Int} (h : (Lit.int .u16 x).wf = true) : 0 ≤ x ∧ x ≤ 65535 := bounds_u16 h
/-- A setting's cells and more. -/
def tmV (t : Tm) (r : List Value) : Array Value := (t.cl ++ r).toArray
theorem tmV_size {t : Tm} (ht : t.Ok) (r : List Value) : (tmV t r).size = 24 + r.length := by simp [tmV, cl_len ht.len]
theorem tmV_front {t : Tm} (r : List Value) (j : Nat) (v : Value) (h : t.cl[j]? = some v) : (tmV t r)[j]? = some v := by
  have := (List.getElem?_eq_some_iff.1 h).1
  rw [tmV, List.getElem?_toArray, List.getElem?_append_left this, h]
theorem tmV_back {t : Tm} (ht : t.Ok) {r : List Value} {j : Nat} {v : Value} (h : r[j]? = some v) : (tmV t r)[24 + j]? = some v := by
  rw [tmV, List.getElem?_toArray, List.getElem?_append_right (by rw [cl_len ht.len]; omega), cl_len ht.len, Nat.add_sub_cancel_left, h]
theorem cells_app {l cl r : List Value} (hl : cl.length = 24) (hlen : l.length = 24 + r.length) (h0 : (l.drop 0).take 24 = cl) (h : ∀ j, j < r.length → l[24 + j]? = r[j]?) : l = cl ++ r := by
  apply List.ext_getElem?
  intro j
  by_cases h1 : j < 24
  · rw [List.getElem?_append_left (by omega), ← h0, List.drop_zero, List.getElem?_take, if_pos h1]
  · obtain ⟨d, rfl⟩ : ∃ d, j = 24 + d := ⟨j - 24, by omega⟩
    rw [List.getElem?_append_right (by omega), hl, Nat.add_sub_cancel_left]
    by_cases h2 : d < r.length
    · exact h d h2
    · rw [List.getElem?_eq_none (by omega), List.getElem?_eq_none (by omega)]
section
variable {H : Type} {enc : TypeId × Value → H} {w : World} {base : Nat} {spare : Nat → Bool} {held : Bool}
theorem int_open {t : TypeId} (ht : Try.prog.underlying t = some (.int .i64)) {v : Value} {d : DataW H} {p : List MemPlace} (h : DataW.Trod enc Try.prog w base spare held t v d p) (hv : ∃ z, v = .int .i64 z) : ∃ a, v = .int .i64 a ∧ i64ok a := by
  obtain ⟨fuel, hf⟩ := h
  obtain ⟨z, rfl⟩ := hv
  obtain ⟨k0, e0, _, hw⟩ := DataW.trod_int ht hf
  simp only [Value.cells, List.cons.injEq, and_true] at e0
  injection e0 with _ e0
  subst e0
  exact ⟨_, rfl, i64_of hw⟩
end
theorem bytes5 : Try.prog.bytesOf 5 = 1 := by kernel_rfl
section
variable {H : Type} {enc : TypeId × Value → H} {w : World} {base : Nat} {spare : Nat → Bool} {held : Bool}
theorem bytes_weight {fuel n c : Nat} {A : Option Addr} {x : DataW H × List MemPlace} (h : DataW.trod enc Try.prog w base spare held fuel 38 [.slice A n c] = some x)
    (hw : ∀ k ∈ x.1.weights Try.prog 38, k ≤ reachBytes) : n ≤ reachBytes := by
  rcases open_ints Try.underlying38 Try.underlying5 cells5 h with ⟨he, _⟩ | ⟨a, len, cap, zs, he, _, hl, hm, hz, rfl, _, _⟩
  · simp only [List.cons.injEq, and_true] at he
    injection he with _ e _
    rw [e]; exact Nat.zero_le _
  · simp only [List.cons.injEq, and_true] at he
    injection he with _ e _
    subst e
    have hzl : n ≤ zs.length := by rw [hz]; split <;> omega
    have := hw _ (by
      simp only [DataW.weights, Try.underlying38]
      exact List.mem_cons_self)
    rw [bytes5] at this
    simp only [lits, List.length_map, List.length_take, List.length_drop, Nat.min_eq_left hzl] at this
    omega
end
theorem tmV_part {t : Tm} (ht : t.Ok) {r : List Value} {j : Nat} {v : Value} (h : r[j]? = some v) : (((tmV t r).toList.drop (24 + j)).take 1) = [v] := by
  have hl := cl_len ht.len
  have h1 : (tmV t r).toList = t.cl ++ r := by simp [tmV]
  obtain ⟨hj, rfl⟩ := List.getElem?_eq_some_iff.1 h
  rw [h1, List.drop_append, hl, List.drop_eq_nil_of_le (by omega), Nat.add_sub_cancel_left, List.nil_append, List.drop_eq_getElem_cons hj]
  rfl
end Go.Proofs.Ythaecflakefklaa
