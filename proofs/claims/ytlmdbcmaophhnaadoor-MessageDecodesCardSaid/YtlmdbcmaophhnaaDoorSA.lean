import Derived.Test.YtlmdbcmaophhnaaDoorRC
import Derived.Test.YtlmdbcmaophhnaaDoorMK
import Derived.Test.YtlmdbcmaophhnaaDoorZF
namespace Go.Proofs.YtlmdbcmaophhnaaDoor
open Go.RowKit

/- What is read: as many fields as kinds, of these kinds; a truth is 0 or 1. -/
theorem getF_bit (left : List UInt8) : (getF 2 left).2.1.n ≤ 1 := by
  cases left with
  | nil => show (boolF []).2.1.n ≤ 1; simp [boolF, zf]
  | cons a r => show min a.toNat 1 ≤ 1; omega
theorem rdF_facts : ∀ (ks : List Int) (acc : List Fd) (left : List UInt8), (rdF acc ks left).1 = 0 → ∃ xs, (rdF acc ks left).2 = acc ++ xs ∧ xs.map Fd.kind = ks ∧ ∀ f ∈ xs, f.kind = 2 → f.n ≤ 1
  | [], acc, left, h => by
    rw [rdF] at h ⊢
    by_cases e : left = []
    · rw [if_pos e]; exact ⟨[], by simp, rfl, by simp⟩
    · rw [if_neg e] at h; simp at h
  | k :: r, acc, left, h => by
    rw [rdF] at h ⊢
    by_cases e : (getF k left).1 = 0
    · rw [if_pos e] at h ⊢
      obtain ⟨xs, h1, h2, h3⟩ := rdF_facts r _ _ h
      refine ⟨{ (getF k left).2.1 with kind := k } :: xs, by rw [h1]; simp, by simp [h2], fun f hf hk => ?_⟩
      rcases List.mem_cons.1 hf with rfl | hf
      · simp only at hk
        subst hk
        exact getF_bit left
      · exact h3 f hf hk
    · rw [if_neg e] at h
      exact absurd h e
theorem readF_facts {ps : List Pl} {b0 : UInt8} {r : List UInt8} {fs : List Fd} (h : readF (1 :: ps.map Pl.kind) (b0 :: r) = (0, fs)) :
    ∃ xs, fs = ⟨1, b0.toNat, [], []⟩ :: xs ∧ xs.map Fd.kind = ps.map Pl.kind ∧ ∀ f ∈ xs, f.kind = 2 → f.n ≤ 1 := by
  have hz : (readF (1 :: ps.map Pl.kind) (b0 :: r)).1 = 0 := by rw [h]
  have e := readF_parts hz
  rw [rd_first] at e
  have h0 : (rdF [⟨1, b0.toNat, [], []⟩] (ps.map Pl.kind) r).1 = 0 := by rw [← e]; exact hz
  obtain ⟨xs, h1, h2, h3⟩ := rdF_facts _ _ _ h0
  refine ⟨xs, ?_, h2, h3⟩
  have e2 : fs = (readF (1 :: ps.map Pl.kind) (b0 :: r)).2 := by rw [h]
  rw [e2, e, h1]
  rfl
theorem bit_eq {n : Nat} (h : n ≤ 1) : (!decide ((n : Int) = 0)) = ((n : Int) == 1) := by
  have : n = 0 ∨ n = 1 := by omega
  rcases this with rfl | rfl <;> rfl
theorem flatF_len {w : World} {base : Nat} : ∀ (fs : List Fd) (cs : List Value), FlatF w base fs cs → cs.length = 4 * fs.length
  | [], _, h => by
    have h : _ = [] := h
    subst h; rfl
  | _ :: fs, _, ⟨_, _, _, _, r, e, _, _, h3⟩ => by
    subst e
    have := flatF_len fs r h3
    simp [this]; omega

end Go.Proofs.YtlmdbcmaophhnaaDoor
