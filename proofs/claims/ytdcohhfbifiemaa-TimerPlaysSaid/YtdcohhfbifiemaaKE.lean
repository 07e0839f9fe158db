import Derived.Test.YtdcohhfbifiemaaKD
namespace Go.Proofs.Ytdcohhfbifiemaa
open Go.RowKit Go.Maps

/-- At most the other: not behind it. -/
abbrev le (a b : Tm) : Prop := lt b a = false
theorem lt_irrefl (a : Tm) : lt a a = false := by simp [lt]
theorem lt_le {a b : Tm} (h : lt a b = true) : le a b := by
  unfold le lt at *
  split at h <;> simp at h <;> split <;> simp <;> omega
theorem le_trans {a b c : Tm} (h : le a b) (k : le b c) : le a c := by
  unfold le lt at *
  split at h <;> simp at h <;> split at k <;> simp at k <;> split <;> simp <;> omega
theorem lt_le_trans {a b c : Tm} (h : lt a b = true) (k : le b c) : lt a c = true := by
  unfold le lt at *
  split at h <;> simp at h <;> split at k <;> simp at k <;> split <;> simp <;> omega
theorem lt_of_le_ne {a b : Tm} (h : le a b) (k : a.1 ≠ b.1) : lt a b = true := by
  unfold le lt at *
  split at h <;> simp at h <;> split <;> simp <;> omega
/-- The parent's place. -/
def par (k : Nat) : Nat := (k - 1) / 2
/-- All edges but those of a list of places stand; n: how many of the places count. -/
def Ed (n : Nat) (L : List Tm) (k : Nat) : Prop := ∀ a b, L[par k]? = some a → L[k]? = some b → le a b
/-- A heap but for the place i, to both sides. -/
structure Ex (n : Nat) (L : List Tm) (i : Nat) : Prop where
  ed : ∀ k, 0 < k → k < n → k ≠ i → par k ≠ i → Ed n L k
  up : 0 < i → ∀ k, 0 < k → k < n → par k = i → ∀ a b, L[par i]? = some a → L[k]? = some b → le a b
/-- A heap but for the edge above i. -/
structure Up (n : Nat) (L : List Tm) (i : Nat) : Prop where
  ed : ∀ k, 0 < k → k < n → k ≠ i → Ed n L k
  up : 0 < i → ∀ k, 0 < k → k < n → par k = i → ∀ a b, L[par i]? = some a → L[k]? = some b → le a b
def Hp (n : Nat) (L : List Tm) : Prop := ∀ k, 0 < k → k < n → Ed n L k
theorem par_lt {k : Nat} (h : 0 < k) : par k < k := by unfold par; omega
theorem Up.heap {n : Nat} {L : List Tm} {i : Nat} (h : Up n L i) (hi : 0 < i → Ed n L i) : Hp n L := fun k h0 h1 => by
  by_cases e : k = i
  · subst e
    exact hi h0
  · exact h.ed k h0 h1 e
theorem Hp.up {n : Nat} {L : List Tm} (h : Hp n L) (i : Nat) (hi : i < n) : Up n L i :=
  ⟨fun k h0 h1 _ => h k h0 h1, fun h0 k k0 k1 hk a b ha hb => by
    have hin : i < n := hi
    by_cases hx : ∃ x, L[i]? = some x
    · obtain ⟨x, hx⟩ := hx
      exact le_trans (h i h0 hin a x ha hx) (h k k0 k1 x b (by rw [hk]; exact hx) hb)
    · exfalso
      have h2 : L.length ≤ i := by
        rcases Nat.lt_or_ge i L.length with h3 | h3
        · exact absurd ⟨_, List.getElem?_eq_getElem h3⟩ hx
        · exact h3
      have h3 : i ≤ k := by have := par_lt k0; omega
      rw [List.getElem?_eq_none (by omega)] at hb
      cases hb⟩
/-- One step up. -/
theorem Up.step {n : Nat} {L : List Tm} {j : Nat} {x y : Tm} (h : Up n L j) (hj0 : 0 < j) (hj : j < n) (hn : n ≤ L.length) (hx : L[par j]? = some x) (hy : L[j]? = some y) (hlt : lt y x = true) : Up n (swp L (par j) j x y) (par j) := by
  have hp := par_lt hj0
  have hg := fun k => swp_get L (par j) j k x y (by omega) (by omega)
  refine ⟨fun k h0 h1 hk a b ha hb => ?_, fun hi k h0 h1 hk a b ha hb => ?_⟩
  · rw [hg] at ha hb
    by_cases e1 : k = j
    · rw [if_pos e1] at hb
      rw [if_neg (by rw [e1]; omega), if_pos (by rw [e1])] at ha
      injection ha with ha
      injection hb with hb
      subst ha; subst hb
      exact lt_le hlt
    · rw [if_neg e1, if_neg hk] at hb
      by_cases e2 : par k = j
      · rw [if_pos e2] at ha
        injection ha with ha
        subst ha
        exact h.up hj0 k h0 h1 e2 x b hx hb
      · rw [if_neg e2] at ha
        by_cases e3 : par k = par j
        · rw [if_pos e3] at ha
          injection ha with ha
          subst ha
          exact lt_le (lt_le_trans hlt (h.ed k h0 h1 e1 x b (by rw [e3]; exact hx) hb))
        · rw [if_neg e3] at ha
          exact h.ed k h0 h1 e1 a b ha hb
  · rw [hg] at ha hb
    have hpp := par_lt hi
    rw [if_neg (by omega), if_neg (by omega)] at ha
    have hax : le a x := h.ed (par j) hi (by omega) (by omega) a x ha hx
    by_cases e1 : k = j
    · rw [if_pos e1] at hb
      injection hb with hb
      subst hb
      exact hax
    · rw [if_neg e1] at hb
      have e2 : k ≠ par j := fun e => by
        have := par_lt h0
        omega
      rw [if_neg e2] at hb
      exact le_trans hax (h.ed k h0 h1 e1 x b (by rw [hk]; exact hx) hb)
/-- One step down, to the lesser child j. -/
theorem Ex.step {n : Nat} {L : List Tm} {i j : Nat} {x y : Tm} (h : Ex n L i) (hj0 : 0 < j) (hj : j < n) (hn : n ≤ L.length) (hpar : par j = i) (hx : L[i]? = some x) (hy : L[j]? = some y) (hlt : lt y x = true)
    (hmin : ∀ k b, 0 < k → k < n → par k = i → L[k]? = some b → le y b) : Ex n (swp L i j x y) j ∧ Ed n (swp L i j x y) j ∧ (0 < i → Ed n (swp L i j x y) i) := by
  have hp := par_lt hj0
  have hg := fun k => swp_get L i j k x y (by omega) (by omega)
  refine ⟨⟨fun k h0 h1 hk1 hk2 a b ha hb => ?_, fun _ k h0 h1 hk a b ha hb => ?_⟩, fun a b ha hb => ?_, fun hi a b ha hb => ?_⟩
  · rw [hg] at ha hb
    rw [if_neg hk2] at ha
    rw [if_neg hk1] at hb
    by_cases e1 : k = i
    · rw [if_pos e1] at hb
      injection hb with hb
      subst hb
      subst e1
      have := par_lt h0
      rw [if_neg (by omega)] at ha
      exact h.up h0 j hj0 hj hpar a _ ha hy
    · rw [if_neg e1] at hb
      by_cases e2 : par k = i
      · rw [if_pos e2] at ha
        injection ha with ha
        subst ha
        exact hmin k b h0 h1 e2 hb
      · rw [if_neg e2] at ha
        exact h.ed k h0 h1 e1 e2 a b ha hb
  · rw [hg] at ha hb
    rw [hpar, if_neg (by omega), if_pos rfl] at ha
    injection ha with ha
    subst ha
    have hk3 := par_lt h0
    rw [if_neg (by omega), if_neg (by omega)] at hb
    exact h.ed k h0 h1 (by omega) (by omega) y b (by rw [hk]; exact hy) hb
  · rw [hg] at ha hb
    rw [hpar, if_neg (by omega), if_pos rfl] at ha
    rw [if_pos rfl] at hb
    injection ha with ha
    injection hb with hb
    subst ha; subst hb
    exact lt_le hlt
  · have hpi := par_lt hi
    rw [hg] at ha hb
    rw [if_neg (by omega), if_neg (by omega)] at ha
    rw [if_neg (by omega), if_pos rfl] at hb
    injection hb with hb
    subst hb
    exact h.up hi j hj0 hj hpar a _ ha hy
/-- Nothing is ahead of the first. -/
theorem Hp.root {n : Nat} {L : List Tm} (h : Hp n L) (hn : n ≤ L.length) {x : Tm} (hx : L[0]? = some x) : ∀ k b, k < n → L[k]? = some b → le x b := by
  intro k
  induction k using Nat.strongRecOn with
  | ind k ih =>
    intro b hk hb
    by_cases h0 : k = 0
    · subst h0
      rw [hx] at hb
      injection hb with hb
      subst hb
      exact lt_irrefl _
    · have hp := par_lt (Nat.pos_of_ne_zero h0)
      have ha : L[par k]? = some (L[par k]'(by omega)) := List.getElem?_eq_getElem _
      exact le_trans (ih (par k) hp _ (by omega) ha) (h k (by omega) hk _ _ ha hb)
end Go.Proofs.Ytdcohhfbifiemaa
