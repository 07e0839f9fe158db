import Derived.Test.YtggcampdkgfmgaaGreatUB
namespace Go.Proofs.YtggcampdkgfmgaaGreat
open Go.RowKit

/-! TopTyped: what is read. -/
theorem LnE.read {t : Tm} {l : List UInt8} {ws : List (List UInt8)} {p done : List UInt8} {D : Ds} (H : LnE t (l :: ws) p done D) (h51 : hasN t.f 51 = true) (hu : (l :: ws).flatten.length + p.length < 768) (hl : done.length ≤ 250) {k : Nat} (hk : 0 < k) :
    (readD D (k : Int) 0).2 = (l.take k, true) ∧ LnE t (if l.length ≤ k then ws else l.drop k :: ws) p done (readD D (k : Int) 0).1 := by
  have h := H.ln.some h51 hu hk
  refine ⟨h.1, h.2, ?_⟩
  have h0 : D.has 51 = true := by unfold Ds.has; rw [H.ln.t]; exact h51
  have hok : (readD D (k : Int) 0).2.2 = true := by rw [h.1]
  have e : (readD D (k : Int) 0).1 = markD { D with ls := (L13.readL D.ls (k : Int)).2.1 } := by
    unfold readD at hok ⊢
    rw [if_pos h0] at hok ⊢
    dsimp only at hok ⊢
    split
    · rfl
    · rename_i h9; rw [if_neg h9] at hok; cases hok
  rw [e]
  have hE : Ec t done { D with ls := (L13.readL D.ls (k : Int)).2.1 } := H.ec.of rfl rfl
  refine Ec.few hE (by omega) H.ln.h ?_
  have h1 := readL_le D.ls (k : Int)
  have h2 := H.ln.used
  unfold usedD at h2 ⊢
  show L13.usedL (L13.readL D.ls (k : Int)).2.1 + D.line.length + D.raw.length < 768
  omega
theorem spl_flat : ∀ (n : Nat) (l : List UInt8), l.length = n → (spl l).1.flatten ++ (spl l).2 = l ∧ (∀ x ∈ (spl l).1, ∃ q, x = q ++ [10]) ∧ ∀ y ∈ (spl l).2, y ≠ 10 := by
  intro n
  induction n with
  | zero =>
    intro l hl
    obtain rfl := List.eq_nil_of_length_eq_zero hl
    exact ⟨rfl, (fun x hx => by cases hx), fun y hy => by cases hy⟩
  | succ n ih =>
    intro l hl
    have hne : l ≠ [] := by rintro rfl; simp at hl
    obtain ⟨r, c, rfl⟩ : ∃ r c, l = r ++ [c] := ⟨l.dropLast, l.getLast hne, (List.dropLast_concat_getLast hne).symm⟩
    obtain ⟨h1, h2, h3⟩ := ih r (by rw [List.length_append, List.length_singleton] at hl; omega)
    rw [spl_step]
    unfold stepL
    by_cases hc : c = 10
    · rw [if_pos hc]
      subst hc
      refine ⟨?_, ?_, fun y hy => by cases hy⟩
      · rw [List.flatten_append, List.flatten_cons, List.flatten_nil, List.append_nil, List.append_nil, ← List.append_assoc, h1]
      · intro x hx
        rcases List.mem_append.1 hx with h | h
        · exact h2 x h
        · obtain rfl := List.mem_singleton.1 h
          exact ⟨_, rfl⟩
    · rw [if_neg hc]
      refine ⟨by rw [← List.append_assoc, h1], h2, fun y hy => ?_⟩
      rcases List.mem_append.1 hy with h | h
      · exact h3 y h
      · obtain rfl := List.mem_singleton.1 h
        exact hc
/-- Lines that end. -/
def Ends (ws : List (List UInt8)) : Prop := ∀ x ∈ ws, ∃ q, x = q ++ [10]
theorem Ends.next {l : List UInt8} {ws : List (List UInt8)} (h : Ends (l :: ws)) (k : Nat) : Ends (if l.length ≤ k then ws else l.drop k :: ws) := by
  intro x hx
  split at hx
  · exact h x (List.mem_cons_of_mem _ hx)
  · rename_i hk
    rcases List.mem_cons.1 hx with rfl | hx
    · obtain ⟨q, rfl⟩ := h l List.mem_cons_self
      rw [List.length_append, List.length_singleton] at hk
      exact ⟨q.drop k, by rw [List.drop_append_of_le_length (by omega)]⟩
    · exact h x (List.mem_cons_of_mem _ hx)
theorem next_flat (l : List UInt8) (ws : List (List UInt8)) (k : Nat) : l.take k ++ (if l.length ≤ k then ws else l.drop k :: ws).flatten = (l :: ws).flatten := by
  split
  · rw [List.take_of_length_le (by omega), List.flatten_cons]
  · rw [List.flatten_cons, List.flatten_cons, ← List.append_assoc, List.take_append_drop]
/-- What a read of at most 99 bytes ends with. -/
theorem read_last {l : List UInt8} {ws : List (List UInt8)} (h : Ends (l :: ws)) : 0 < (l.take 99).length ∧ ((l.take 99).length < 99 → (l.take 99)[(l.take 99).length - 1]? = some 10) := by
  obtain ⟨q, rfl⟩ := h l List.mem_cons_self
  have hl : (q ++ [10]).length = q.length + 1 := by rw [List.length_append, List.length_singleton]
  refine ⟨by rw [List.length_take, hl]; omega, fun h => ?_⟩
  rw [List.length_take, hl] at h
  rw [List.take_of_length_le (by omega), hl, Nat.add_sub_cancel, List.getElem?_append_right (Nat.le_refl _), Nat.sub_self]
  rfl
/-- Where the last line ends. -/
theorem back_at {bs : List UInt8} {k : Nat} (h1 : (spl bs).1.flatten.length ≤ k) (h2 : k ≤ bs.length) (h3 : (spl bs).1.flatten.length < k) {y : UInt8} (hy : bs[k - 1]? = some y) : y ≠ 10 := by
  obtain ⟨e, _, hp⟩ := spl_flat _ bs rfl
  rw [← e, List.getElem?_append_right (by omega)] at hy
  exact hp y (List.mem_of_getElem? hy)
theorem back_end {bs : List UInt8} (h : 0 < (spl bs).1.flatten.length) : bs[(spl bs).1.flatten.length - 1]? = some 10 := by
  obtain ⟨e, hq, _⟩ := spl_flat _ bs rfl
  generalize hw : (spl bs).1 = ws at e hq h
  have hne : ws ≠ [] := by rintro rfl; simp at h
  obtain ⟨r, c, rfl⟩ : ∃ r c, ws = r ++ [c] := ⟨ws.dropLast, ws.getLast hne, (List.dropLast_concat_getLast hne).symm⟩
  obtain ⟨q, rfl⟩ := hq c (by simp)
  rw [← e]
  have hf : (r ++ [q ++ [10]]).flatten = (r.flatten ++ q) ++ [10] := by simp
  rw [hf, List.length_append, List.length_singleton, Nat.add_sub_cancel, List.append_assoc (r.flatten ++ q), List.getElem?_append_right (Nat.le_refl _), Nat.sub_self]
  rfl
theorem front_flat (bs : List UInt8) : bs.take (spl bs).1.flatten.length = (spl bs).1.flatten := by
  obtain ⟨e, _, _⟩ := spl_flat _ bs rfl
  conv => lhs; rw [← e]
  rw [e]
  conv => lhs; arg 2; rw [← e]
  exact List.take_left
end Go.Proofs.YtggcampdkgfmgaaGreat
