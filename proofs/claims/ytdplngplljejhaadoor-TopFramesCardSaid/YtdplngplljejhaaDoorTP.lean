import Derived.Test.YtdplngplljejhaaDoorFI
import Derived.Test.YtdplngplljejhaaDoorMK
namespace Go.Proofs.YtdplngplljejhaaDoor
open Go.RowKit

theorem nextF_lt4 {s : List UInt8} (h : s.length < 4) : nextF s = (0, 3) := by unfold nextF; rw [if_pos h]
theorem nextF_bad {s : List UInt8} (h : ¬ s.length < 4) (h2 : num4 s < 1 ∨ 33792 < num4 s) : nextF s = (0, 5) := by unfold nextF; rw [if_neg h, if_pos h2]
theorem nextF_short {s : List UInt8} (h : ¬ s.length < 4) (h2 : ¬ (num4 s < 1 ∨ 33792 < num4 s)) (h3 : s.length < 4 + num4 s) : nextF s = (0, 3) := by unfold nextF; rw [if_neg h, if_neg h2, if_pos h3]
theorem nextF_full {s : List UInt8} (h : ¬ s.length < 4) (h2 : ¬ (num4 s < 1 ∨ 33792 < num4 s)) (h3 : ¬ s.length < 4 + num4 s) : nextF s = (4 + num4 s, 0) := by unfold nextF; rw [if_neg h, if_neg h2, if_neg h3]

theorem num4_append {s t : List UInt8} (h : 4 ≤ s.length) : num4 (s ++ t) = num4 s := by
  unfold num4
  simp only [List.getD, List.getElem?_append_left (show 0 < s.length by omega), List.getElem?_append_left (show 1 < s.length by omega), List.getElem?_append_left (show 2 < s.length by omega), List.getElem?_append_left (show 3 < s.length by omega)]
theorem nextF_append_full {s t : List UInt8} {m : Nat} (h : nextF s = (m, 0)) : nextF (s ++ t) = (m, 0) ∧ m ≤ s.length ∧ 5 ≤ m := by
  obtain ⟨h1, h2, h3, h4⟩ := nextF_zero (s := s) (by rw [h])
  rw [h] at h1
  have h1 : m = 4 + num4 s := h1
  have hn : num4 (s ++ t) = num4 s := num4_append (by omega)
  refine ⟨?_, by omega, by omega⟩
  rw [nextF_full, hn, h1]
  · rw [List.length_append]; omega
  · rw [hn]; omega
  · rw [hn, List.length_append]; omega
theorem nextF_append_bad {s t : List UInt8} {m : Nat} (h : nextF s = (m, 5)) : nextF (s ++ t) = (0, 5) := by
  by_cases h4 : s.length < 4
  · rw [nextF_lt4 h4] at h; simp at h
  · by_cases hb : num4 s < 1 ∨ 33792 < num4 s
    · have hn : num4 (s ++ t) = num4 s := num4_append (by omega)
      exact nextF_bad (by rw [List.length_append]; omega) (by rw [hn]; exact hb)
    · by_cases hs : s.length < 4 + num4 s
      · rw [nextF_short h4 hb hs] at h; simp at h
      · rw [nextF_full h4 hb hs] at h; simp at h

theorem feedF_append (s t : List UInt8) : feedF (s ++ t) = if (feedF s).2.2 ≠ 0 then feedF s else ((feedF s).1 ++ (feedF ((feedF s).2.1 ++ t)).1, (feedF ((feedF s).2.1 ++ t)).2) := by
  suffices h : ∀ n (s : List UInt8), s.length ≤ n → feedF (s ++ t) = if (feedF s).2.2 ≠ 0 then feedF s else ((feedF s).1 ++ (feedF ((feedF s).2.1 ++ t)).1, (feedF ((feedF s).2.1 ++ t)).2) from h _ s (Nat.le_refl _)
  intro n
  induction n with
  | zero =>
    intro s hs
    have h0 : s = [] := List.eq_nil_of_length_eq_zero (by omega)
    subst h0
    have : nextF [] = (0, 3) := by decide
    rw [feedF_short this]
    simp
  | succ n ih =>
    intro s hs
    by_cases he : (nextF s).2 = 0
    · obtain ⟨m, hm⟩ : ∃ m, nextF s = (m, 0) := ⟨(nextF s).1, Prod.ext rfl he⟩
      obtain ⟨hm2, hml, hm5⟩ := nextF_append_full (t := t) hm
      rw [feedF_next hm2, feedF_next hm]
      have hd : (s ++ t).drop m = s.drop m ++ t := List.drop_append_of_le_length hml
      have ht : (s ++ t).take m = s.take m := List.take_append_of_le_length hml
      rw [hd, ht, ih (s.drop m) (by rw [List.length_drop]; omega)]
      simp only
      split <;> simp
    · rcases nextF_else he with h3 | h5
      · rw [feedF_short h3]; simp
      · rw [feedF_bad h5, feedF_bad (nextF_append_bad h5)]; simp
theorem feedF_left (s : List UInt8) (h : (feedF s).2.2 = 0) : nextF (feedF s).2.1 = (0, 3) := by
  suffices hh : ∀ n (s : List UInt8), s.length ≤ n → (feedF s).2.2 = 0 → nextF (feedF s).2.1 = (0, 3) from hh _ s (Nat.le_refl _) h
  intro n
  induction n with
  | zero =>
    intro s hs _
    have h0 : s = [] := List.eq_nil_of_length_eq_zero (by omega)
    subst h0
    have : nextF [] = (0, 3) := by decide
    rw [feedF_short this]
    exact this
  | succ n ih =>
    intro s hs h
    by_cases he : (nextF s).2 = 0
    · obtain ⟨m, hm⟩ : ∃ m, nextF s = (m, 0) := ⟨(nextF s).1, Prod.ext rfl he⟩
      obtain ⟨_, hml, hm5⟩ := nextF_append_full (t := []) hm
      rw [feedF_next hm] at h ⊢
      exact ih (s.drop m) (by rw [List.length_drop]; omega) h
    · rcases nextF_else he with h3 | h5
      · rw [feedF_short h3]; exact h3
      · rw [feedF_bad h5] at h; simp at h
theorem feedF_err (s : List UInt8) : ((feedF s).2.2 = 0) ∨ ((feedF s).2.2 = 5 ∧ (feedF s).2.1 = []) := by
  suffices hh : ∀ n (s : List UInt8), s.length ≤ n → ((feedF s).2.2 = 0) ∨ ((feedF s).2.2 = 5 ∧ (feedF s).2.1 = []) from hh _ s (Nat.le_refl _)
  intro n
  induction n with
  | zero =>
    intro s hs
    have h0 : s = [] := List.eq_nil_of_length_eq_zero (by omega)
    subst h0
    have : nextF [] = (0, 3) := by decide
    rw [feedF_short this]
    exact .inl rfl
  | succ n ih =>
    intro s hs
    by_cases he : (nextF s).2 = 0
    · obtain ⟨m, hm⟩ : ∃ m, nextF s = (m, 0) := ⟨(nextF s).1, Prod.ext rfl he⟩
      obtain ⟨_, hml, hm5⟩ := nextF_append_full (t := []) hm
      rw [feedF_next hm]
      exact ih (s.drop m) (by rw [List.length_drop]; omega)
    · rcases nextF_else he with h3 | h5
      · rw [feedF_short h3]; exact .inl rfl
      · rw [feedF_bad h5]; exact .inr ⟨rfl, rfl⟩

/-- The stream of some payloads. -/
def streamF (l : List (List UInt8)) : List UInt8 := (l.map fun p => four p.length ++ p).flatten
theorem streamF_cons (p : List UInt8) (l : List (List UInt8)) : streamF (p :: l) = (four p.length ++ p) ++ streamF l := by simp [streamF]
theorem feedF_stream : ∀ (l : List (List UInt8)), (∀ p ∈ l, 1 ≤ p.length ∧ p.length ≤ 33792) → feedF (streamF l) = (l, [], 0)
  | [], _ => by
    have : nextF [] = (0, 3) := by decide
    show feedF [] = _
    rw [feedF_short this]
  | p :: l, h => by
    obtain ⟨h1, h2⟩ := h p (by simp)
    have e : streamF (p :: l) = four p.length ++ (p ++ streamF l) := by rw [streamF_cons, List.append_assoc]
    have hn : num4 (streamF (p :: l)) = p.length := by rw [e]; exact num4_four _ (by omega) _
    have hl : (streamF (p :: l)).length = 4 + p.length + (streamF l).length := by rw [e, List.length_append, List.length_append, four_length]; omega
    have hx : nextF (streamF (p :: l)) = (4 + p.length, 0) := by
      rw [nextF_full (by omega) (by omega) (by omega), hn]
    have ht : (streamF (p :: l)).take (4 + p.length) = four p.length ++ p := by
      rw [streamF_cons]
      exact List.take_left' (by rw [List.length_append, four_length])
    have hd : (streamF (p :: l)).drop (4 + p.length) = streamF l := by
      rw [streamF_cons]
      exact List.drop_left' (by rw [List.length_append, four_length])
    rw [feedF_next hx, ht, hd, feedF_stream l (fun q hq => h q (by simp [hq]))]
    rw [List.drop_left' (four_length _)]
theorem feedF_bounds (s : List UInt8) : (feedF s).2.1.length ≤ s.length ∧ (feedF s).1.length ≤ s.length ∧ ∀ p ∈ (feedF s).1, p.length ≤ s.length := by
  suffices h : ∀ n (s : List UInt8), s.length ≤ n → (feedF s).2.1.length ≤ s.length ∧ (feedF s).1.length ≤ s.length ∧ ∀ p ∈ (feedF s).1, p.length ≤ s.length from h _ s (Nat.le_refl _)
  intro n
  induction n with
  | zero =>
    intro s hs
    have h0 : s = [] := List.eq_nil_of_length_eq_zero (by omega)
    subst h0
    have : nextF [] = (0, 3) := by decide
    rw [feedF_short this]
    simp
  | succ n ih =>
    intro s hs
    by_cases he : (nextF s).2 = 0
    · obtain ⟨h1, h2, h3, h4⟩ := nextF_zero he
      obtain ⟨m, hm⟩ : ∃ m, nextF s = (m, 0) := ⟨(nextF s).1, Prod.ext rfl he⟩
      have hmm : m = 4 + num4 s := by rw [← h1, hm]
      rw [feedF_next hm]
      have hd : (s.drop m).length = s.length - m := List.length_drop
      obtain ⟨i1, i2, i3⟩ := ih (s.drop m) (by omega)
      refine ⟨by simp only; omega, by simp only [List.length_cons]; omega, fun p hp => ?_⟩
      rcases List.mem_cons.1 hp with rfl | hp
      · rw [List.length_drop, List.length_take]; omega
      · have := i3 p hp; omega
    · rcases nextF_else he with h3 | h5
      · rw [feedF_short h3]; simp
      · rw [feedF_bad h5]; simp
/-- Of a piece handed to a framer that has what is left of the pieces before. -/
theorem fed_piece {l got : List (List UInt8)} {fbuf st : List UInt8} {n : Nat} (h : feedF (fbuf ++ st) = (l, [], 0)) (hl : ∃ r, got ++ r = l ∨ True) :
    ∃ some left, feedF (fbuf ++ st.take n) = (some, left, 0) ∧ ∃ rest, l = some ++ rest ∧ feedF (left ++ st.drop n) = (rest, [], 0) := by
  have hs : fbuf ++ st = (fbuf ++ st.take n) ++ st.drop n := by rw [List.append_assoc, List.take_append_drop]
  rw [hs, feedF_append] at h
  obtain ⟨⟨sm, left, e⟩, hx⟩ : ∃ x, feedF (fbuf ++ st.take n) = x := ⟨_, rfl⟩
  rw [hx] at h
  by_cases he : e = 0
  · subst he
    rw [if_neg (by simp)] at h
    injection h with h1 h2
    exact ⟨sm, left, hx, _, h1.symm, Prod.ext rfl h2⟩
  · rw [if_pos he] at h
    injection h with h1 h2
    injection h2 with h2 h3
    exact absurd h3 he
theorem streamF_take (l : List (List UInt8)) (k : Nat) (h : k < l.length) : streamF (l.take (k + 1)) = streamF (l.take k) ++ (four l[k].length ++ l[k]) := by
  unfold streamF
  rw [take_snoc _ _ h, List.map_append, List.flatten_append]
  simp
theorem streamF_len (l : List (List UInt8)) (h : ∀ p ∈ l, 1 ≤ p.length ∧ p.length ≤ 33792) : (streamF l).length ≤ 33796 * l.length := by
  induction l with
  | nil => simp [streamF]
  | cons p l ih =>
    have h1 := ih (fun q hq => h q (by simp [hq]))
    have h2 := (h p (by simp)).2
    rw [streamF_cons, List.length_append, List.length_append, four_length, List.length_cons]
    omega
theorem putF_ok {p : List UInt8} (h : 1 ≤ p.length ∧ p.length ≤ 33792) : putF p = (0, four p.length ++ p) := by unfold putF; rw [if_neg (by omega)]
/-- What holds of the framer behind some pieces. -/
structure Fed (l got : List (List UInt8)) (fbuf st : List UInt8) (T : Nat) : Prop where
  rest : ∃ r, l = got ++ r ∧ feedF (fbuf ++ st) = (r, [], 0)
  short : nextF fbuf = (0, 3)
  len : fbuf.length + st.length ≤ T
theorem Fed.next {l got : List (List UInt8)} {fbuf st : List UInt8} {T n : Nat} (h : Fed l got fbuf st T) (hn : n ≤ st.length) :
    ∃ sm left, feedF (fbuf ++ st.take n) = (sm, left, 0) ∧ Fed l (got ++ sm) left (st.drop n) T := by
  obtain ⟨r, hl, hf⟩ := h.rest
  obtain ⟨sm, left, hx, rest, hr, hf2⟩ := fed_piece (got := []) (n := n) hf ⟨[], .inr trivial⟩
  refine ⟨sm, left, hx, ⟨rest, by rw [hl, hr, List.append_assoc], hf2⟩, ?_, ?_⟩
  · have := feedF_left (fbuf ++ st.take n) (by rw [hx])
    rw [hx] at this
    exact this
  · have h1 := (feedF_bounds (fbuf ++ st.take n)).1
    rw [hx, List.length_append, List.length_take] at h1
    simp only at h1
    have := h.len
    rw [List.length_drop]
    omega
theorem Fed.done {l got : List (List UInt8)} {fbuf : List UInt8} {T : Nat} (h : Fed l got fbuf [] T) : got = l ∧ fbuf = [] := by
  obtain ⟨r, hl, hf⟩ := h.rest
  rw [List.append_nil, feedF_short h.short] at hf
  injection hf with h1 h2
  injection h2 with h2 h3
  subst h1
  rw [List.append_nil] at hl
  exact ⟨hl.symm, h2⟩
theorem Fed.start (l : List (List UInt8)) (h : ∀ p ∈ l, 1 ≤ p.length ∧ p.length ≤ 33792) : Fed l [] [] (streamF l) (streamF l).length :=
  ⟨⟨l, rfl, feedF_stream l h⟩, by decide, by simp⟩

end Go.Proofs.YtdplngplljejhaaDoor
