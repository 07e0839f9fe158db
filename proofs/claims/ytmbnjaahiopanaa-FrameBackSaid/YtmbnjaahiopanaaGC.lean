import Derived.Test.YtmbnjaahiopanaaGB
namespace Go.Proofs.Ytmbnjaahiopanaa
open Go.RowKit

theorem num4_append {s t : List UInt8} (h : 4 ≤ s.length) : num4 (s ++ t) = num4 s := by
  unfold num4
  simp only [List.getD, List.getElem?_append_left (show 0 < s.length by omega), List.getElem?_append_left (show 1 < s.length by omega), List.getElem?_append_left (show 2 < s.length by omega), List.getElem?_append_left (show 3 < s.length by omega)]
theorem nextF_append_full {s t : List UInt8} {m : Nat} (h : nextF s = (m, 0)) : nextF (s ++ t) = (m, 0) ∧ m ≤ s.length ∧ 5 ≤ m := by
  obtain ⟨h1, h2, h3, h4⟩ := nextF_zero (s := s) (by rw [h])
  rw [h] at h1
  have h1 : m = 4 + num4 s := h1
  have hn : num4 (s ++ t) = num4 s := num4_append (by omega)
  refine ⟨?_, by omega, by omega⟩
  rw [nextF_full, hn, h1]
  · rw [List.length_append]; omega
  · rw [hn]; omega
  · rw [hn, List.length_append]; omega
theorem nextF_append_bad {s t : List UInt8} {m : Nat} (h : nextF s = (m, 5)) : nextF (s ++ t) = (0, 5) := by
  by_cases h4 : s.length < 4
  · rw [nextF_lt4 h4] at h; simp at h
  · by_cases hb : num4 s < 1 ∨ 33792 < num4 s
    · have hn : num4 (s ++ t) = num4 s := num4_append (by omega)
      exact nextF_bad (by rw [List.length_append]; omega) (by rw [hn]; exact hb)
    · by_cases hs : s.length < 4 + num4 s
      · rw [nextF_short h4 hb hs] at h; simp at h
      · rw [nextF_full h4 hb hs] at h; simp at h

theorem feedF_append (s t : List UInt8) : feedF (s ++ t) = if (feedF s).2.2 ≠ 0 then feedF s else ((feedF s).1 ++ (feedF ((feedF s).2.1 ++ t)).1, (feedF ((feedF s).2.1 ++ t)).2) := by
  suffices h : ∀ n (s : List UInt8), s.length ≤ n → feedF (s ++ t) = if (feedF s).2.2 ≠ 0 then feedF s else ((feedF s).1 ++ (feedF ((feedF s).2.1 ++ t)).1, (feedF ((feedF s).2.1 ++ t)).2) from h _ s (Nat.le_refl _)
  intro n
  induction n with
  | zero =>
    intro s hs
    have h0 : s = [] := List.eq_nil_of_length_eq_zero (by omega)
    subst h0
    have : nextF [] = (0, 3) := by decide
    rw [feedF_short this]
    simp
  | succ n ih =>
    intro s hs
    by_cases he : (nextF s).2 = 0
    · obtain ⟨m, hm⟩ : ∃ m, nextF s = (m, 0) := ⟨(nextF s).1, Prod.ext rfl he⟩
      obtain ⟨hm2, hml, hm5⟩ := nextF_append_full (t := t) hm
      rw [feedF_next hm2, feedF_next hm]
      have hd : (s ++ t).drop m = s.drop m ++ t := List.drop_append_of_le_length hml
      have ht : (s ++ t).take m = s.take m := List.take_append_of_le_length hml
      rw [hd, ht, ih (s.drop m) (by rw [List.length_drop]; omega)]
      simp only
      split <;> simp
    · rcases nextF_else he with h3 | h5
      · rw [feedF_short h3]; simp
      · rw [feedF_bad h5, feedF_bad (nextF_append_bad h5)]; simp
theorem feedF_left (s : List UInt8) (h : (feedF s).2.2 = 0) : nextF (feedF s).2.1 = (0, 3) := by
  suffices hh : ∀ n (s : List UInt8), s.length ≤ n → (feedF s).2.2 = 0 → nextF (feedF s).2.1 = (0, 3) from hh _ s (Nat.le_refl _) h
  intro n
  induction n with
  | zero =>
    intro s hs _
    have h0 : s = [] := List.eq_nil_of_length_eq_zero (by omega)
    subst h0
    have : nextF [] = (0, 3) := by decide
    rw [feedF_short this]
    exact this
  | succ n ih =>
    intro s hs h
    by_cases he : (nextF s).2 = 0
    · obtain ⟨m, hm⟩ : ∃ m, nextF s = (m, 0) := ⟨(nextF s).1, Prod.ext rfl he⟩
      obtain ⟨_, hml, hm5⟩ := nextF_append_full (t := []) hm
      rw [feedF_next hm] at h ⊢
      exact ih (s.drop m) (by rw [List.length_drop]; omega) h
    · rcases nextF_else he with h3 | h5
      · rw [feedF_short h3]; exact h3
      · rw [feedF_bad h5] at h; simp at h
theorem feedF_err (s : List UInt8) : ((feedF s).2.2 = 0) ∨ ((feedF s).2.2 = 5 ∧ (feedF s).2.1 = []) := by
  suffices hh : ∀ n (s : List UInt8), s.length ≤ n → ((feedF s).2.2 = 0) ∨ ((feedF s).2.2 = 5 ∧ (feedF s).2.1 = []) from hh _ s (Nat.le_refl _)
  intro n
  induction n with
  | zero =>
    intro s hs
    have h0 : s = [] := List.eq_nil_of_length_eq_zero (by omega)
    subst h0
    have : nextF [] = (0, 3) := by decide
    rw [feedF_short this]
    exact .inl rfl
  | succ n ih =>
    intro s hs
    by_cases he : (nextF s).2 = 0
    · obtain ⟨m, hm⟩ : ∃ m, nextF s = (m, 0) := ⟨(nextF s).1, Prod.ext rfl he⟩
      obtain ⟨_, hml, hm5⟩ := nextF_append_full (t := []) hm
      rw [feedF_next hm]
      exact ih (s.drop m) (by rw [List.length_drop]; omega)
    · rcases nextF_else he with h3 | h5
      · rw [feedF_short h3]; exact .inl rfl
      · rw [feedF_bad h5]; exact .inr ⟨rfl, rfl⟩

/-- The stream of some payloads. -/
def streamF (l : List (List UInt8)) : List UInt8 := (l.map fun p => four p.length ++ p).flatten
theorem num4_four (n : Nat) (h : n ≤ 33792) (t : List UInt8) : num4 (four n ++ t) = n := by
  simp only [num4, four, List.cons_append, List.nil_append, List.getD, List.getElem?_cons_zero, List.getElem?_cons_succ, Option.getD_some]
  simp
  omega
theorem streamF_cons (p : List UInt8) (l : List (List UInt8)) : streamF (p :: l) = (four p.length ++ p) ++ streamF l := by simp [streamF]
theorem feedF_stream : ∀ (l : List (List UInt8)), (∀ p ∈ l, 1 ≤ p.length ∧ p.length ≤ 33792) → feedF (streamF l) = (l, [], 0)
  | [], _ => by
    have : nextF [] = (0, 3) := by decide
    show feedF [] = _
    rw [feedF_short this]
  | p :: l, h => by
    obtain ⟨h1, h2⟩ := h p (by simp)
    have e : streamF (p :: l) = four p.length ++ (p ++ streamF l) := by rw [streamF_cons, List.append_assoc]
    have hn : num4 (streamF (p :: l)) = p.length := by rw [e]; exact num4_four _ h2 _
    have hl : (streamF (p :: l)).length = 4 + p.length + (streamF l).length := by rw [e, List.length_append, List.length_append, four_length]; omega
    have hx : nextF (streamF (p :: l)) = (4 + p.length, 0) := by
      rw [nextF_full (by omega) (by omega) (by omega), hn]
    have ht : (streamF (p :: l)).take (4 + p.length) = four p.length ++ p := by
      rw [streamF_cons]
      exact List.take_left' (by rw [List.length_append, four_length])
    have hd : (streamF (p :: l)).drop (4 + p.length) = streamF l := by
      rw [streamF_cons]
      exact List.drop_left' (by rw [List.length_append, four_length])
    rw [feedF_next hx, ht, hd, feedF_stream l (fun q hq => h q (by simp [hq]))]
    rw [List.drop_left' (four_length _)]
end Go.Proofs.Ytmbnjaahiopanaa
