import Derived.Test.YtmbnjaahiopanaaGF
namespace Go.Proofs.Ytmbnjaahiopanaa
open Go.RowKit

/-- A slice of bytes that stays, whatever is done to lists and framers. -/
def SF (w : World) (M : Nat) (A : Option Addr) (c : Nat) (left : List UInt8) : Prop := ∀ W', Kept 0 [22, 34] w W' → SlB W' M A c left
theorem SF.of_own {w : World} {base N c : Nat} {A : Option Addr} {s : List UInt8} (hn : s.length = N) (h : w.ownsRow base 5 1 (.slice A N c) N (bv s)) : SF w w.heap.size A c s := fun W' k => by
  subst hn
  have hs := own_slb (n := 0) (k.own h (by decide))
  refine ⟨hs.1, hs.2.1, hs.2.2.1, fun hne => ?_⟩
  obtain ⟨b, o, e, hb, hc⟩ := hs.2.2.2 hne
  refine ⟨b, o, e, ?_, hc⟩
  subst e
  exact (h.lt b rfl).2
theorem SF.kept {w w' : World} {B M c : Nat} {A : Option Addr} {left : List UInt8} {T : List TypeId} (h : SF w M A c left) (k : Kept B T w w') (hT : ∀ t ∈ T, t ∈ [22, 34] := by decide) : SF w' M A c left := fun W' k' => h W' ((k.mono (Nat.zero_le _) hT).trans k')
theorem SF.now {w : World} {M c : Nat} {A : Option Addr} {left : List UInt8} (h : SF w M A c left) : SlB w M A c left := h w (Kept.refl _ _ _)
theorem SF.more {w : World} {M M' c : Nat} {A : Option Addr} {left : List UInt8} (h : SF w M A c left) (hM : M ≤ M') : SF w M' A c left := fun W' k => (h W' k).more hM
theorem SF.cut {w : World} {M c n b o : Nat} {left : List UInt8} (h : SF w M (some ⟨b, o, none⟩) c left) (hn : n ≤ left.length) : SF w M (if c = n then some ⟨b, o, none⟩ else some ⟨b, o + n, none⟩) (c - n) (left.drop n) := fun W' k => by
  have h := (h W' k).drop n hn
  rw [Addr.add_lit] at h
  split
  · rw [if_pos (by assumption)] at h; exact h
  · rw [if_neg (by assumption)] at h; exact h
theorem PL.base {w : World} {base base' : Nat} {ps : List (List UInt8)} {cs : List Value} (h : PL w base ps cs) (hb : base' ≤ base) : PL w base' ps cs :=
  ⟨h.1, fun k hk => by obtain ⟨A, c, h1, h2⟩ := h.2 k hk; exact ⟨A, c, h1, own_mono h2 hb⟩⟩
theorem PL.append {w : World} {base : Nat} {ps qs : List (List UInt8)} {cs ds : List Value} (h : PL w base ps cs) (k : PL w base qs ds) : PL w base (ps ++ qs) (cs ++ ds) := by
  refine ⟨by rw [List.length_append, List.length_append, h.1, k.1], fun i hi => ?_⟩
  by_cases hlt : i < ps.length
  · rw [List.getElem?_append_left (by rw [h.1]; exact hlt), List.getElem_append_left hlt]
    exact h.2 i hlt
  · have hl2 : i - ps.length < qs.length := by rw [List.length_append] at hi; omega
    rw [List.getElem?_append_right (by rw [h.1]; omega), List.getElem_append_right (by omega), h.1]
    exact k.2 _ hl2
theorem PL.one {w : World} {base : Nat} {ps : List (List UInt8)} {cs : List Value} (h : PL w base ps cs) : ∀ u ∈ cs, u.oneCell' = true := by
  intro u hu
  obtain ⟨k, hk, rfl⟩ := List.getElem_of_mem hu
  obtain ⟨A, c, h1, _⟩ := h.2 k (by rw [← h.1]; exact hk)
  rw [List.getElem?_eq_getElem hk] at h1
  injection h1 with h1
  rw [h1]
  rfl

/-- Of a piece handed to a framer that has what is left of the pieces before. -/
theorem fed_piece {l got : List (List UInt8)} {fbuf st : List UInt8} {n : Nat} (h : feedF (fbuf ++ st) = (l, [], 0)) (hl : ∃ r, got ++ r = l ∨ True) :
    ∃ some left, feedF (fbuf ++ st.take n) = (some, left, 0) ∧ ∃ rest, l = some ++ rest ∧ feedF (left ++ st.drop n) = (rest, [], 0) := by
  have hs : fbuf ++ st = (fbuf ++ st.take n) ++ st.drop n := by rw [List.append_assoc, List.take_append_drop]
  rw [hs, feedF_append] at h
  obtain ⟨⟨sm, left, e⟩, hx⟩ : ∃ x, feedF (fbuf ++ st.take n) = x := ⟨_, rfl⟩
  rw [hx] at h
  by_cases he : e = 0
  · subst he
    rw [if_neg (by simp)] at h
    injection h with h1 h2
    exact ⟨sm, left, hx, _, h1.symm, Prod.ext rfl h2⟩
  · rw [if_pos he] at h
    injection h with h1 h2
    injection h2 with h2 h3
    exact absurd h3 he
theorem streamF_take (l : List (List UInt8)) (k : Nat) (h : k < l.length) : streamF (l.take (k + 1)) = streamF (l.take k) ++ (four l[k].length ++ l[k]) := by
  unfold streamF
  rw [take_snoc _ _ h, List.map_append, List.flatten_append]
  simp
theorem streamF_len (l : List (List UInt8)) (h : ∀ p ∈ l, 1 ≤ p.length ∧ p.length ≤ 33792) : (streamF l).length ≤ 33796 * l.length := by
  induction l with
  | nil => simp [streamF]
  | cons p l ih =>
    have h1 := ih (fun q hq => h q (by simp [hq]))
    have h2 := (h p (by simp)).2
    rw [streamF_cons, List.length_append, List.length_append, four_length, List.length_cons]
    omega
theorem great_all {l : List (List UInt8)} (h : great l = false) : ∀ p ∈ l, p.length ≤ 200000 := by
  intro p hp
  simp only [great, List.any_eq_false, decide_eq_true_eq] at h
  have := h p hp
  omega
end Go.Proofs.Ytmbnjaahiopanaa
