import Derived.Test.YtmbnjaahiopanaaGJ
namespace Go.Proofs.Ytmbnjaahiopanaa
open Go.RowKit

theorem putF_ok {p : List UInt8} (h : 1 ≤ p.length ∧ p.length ≤ 33792) : putF p = (0, four p.length ++ p) := by unfold putF; rw [if_neg (by omega)]
theorem putF_bad {p : List UInt8} (h : ¬ (1 ≤ p.length ∧ p.length ≤ 33792)) : putF p = (5, []) := by unfold putF; rw [if_pos (by omega)]

/-- What holds of the framer behind some pieces. -/
structure Fed (l got : List (List UInt8)) (fbuf st : List UInt8) (T : Nat) : Prop where
  rest : ∃ r, l = got ++ r ∧ feedF (fbuf ++ st) = (r, [], 0)
  short : nextF fbuf = (0, 3)
  len : fbuf.length + st.length ≤ T
theorem Fed.next {l got : List (List UInt8)} {fbuf st : List UInt8} {T n : Nat} (h : Fed l got fbuf st T) (hn : n ≤ st.length) :
    ∃ sm left, feedF (fbuf ++ st.take n) = (sm, left, 0) ∧ Fed l (got ++ sm) left (st.drop n) T := by
  obtain ⟨r, hl, hf⟩ := h.rest
  obtain ⟨sm, left, hx, rest, hr, hf2⟩ := fed_piece (got := []) (n := n) hf ⟨[], .inr trivial⟩
  refine ⟨sm, left, hx, ⟨rest, by rw [hl, hr, List.append_assoc], hf2⟩, ?_, ?_⟩
  · have := feedF_left (fbuf ++ st.take n) (by rw [hx])
    rw [hx] at this
    exact this
  · have h1 := (feedF_bounds (fbuf ++ st.take n)).1
    rw [hx, List.length_append, List.length_take] at h1
    simp only at h1
    have := h.len
    rw [List.length_drop]
    omega
theorem Fed.done {l got : List (List UInt8)} {fbuf : List UInt8} {T : Nat} (h : Fed l got fbuf [] T) : got = l ∧ fbuf = [] := by
  obtain ⟨r, hl, hf⟩ := h.rest
  rw [List.append_nil, feedF_short h.short] at hf
  injection hf with h1 h2
  injection h2 with h2 h3
  subst h1
  rw [List.append_nil] at hl
  exact ⟨hl.symm, h2⟩
theorem Fed.start (l : List (List UInt8)) (h : ∀ p ∈ l, 1 ≤ p.length ∧ p.length ≤ 33792) : Fed l [] [] (streamF l) (streamF l).length :=
  ⟨⟨l, rfl, feedF_stream l h⟩, by decide, by simp⟩
end Go.Proofs.Ytmbnjaahiopanaa
