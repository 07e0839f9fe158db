import Derived.Test.YtdplngplljejhaaDoorWE
namespace Go.Proofs.YtdplngplljejhaaDoor
open Go.RowKit

def encs (l : List Fd) : List UInt8 := l.flatMap enc
def okW (l : List Fd) : Prop := kindsB l = true ∧ (∀ f ∈ l, fault f = 0) ∧ (encs l).length ≤ 33792
theorem encs_cons (f : Fd) (l : List Fd) : encs (f :: l) = enc f ++ encs l := by simp [encs]
theorem encs_append (a b : List Fd) : encs (a ++ b) = encs a ++ encs b := by simp [encs]

theorem wrF_ok : ∀ (l : List Fd) (acc : List UInt8), (∀ f ∈ l, fault f = 0) → (acc ++ encs l).length ≤ 33792 → wrF acc l = (0, acc ++ encs l)
  | [], acc, _, _ => by simp [wrF, encs]
  | f :: l, acc, h, hl => by
    rw [encs_cons, ← List.append_assoc] at hl
    have h1 : ¬ 33792 < (acc ++ enc f).length := by rw [List.length_append] at hl; omega
    rw [wrF, if_pos (h f (by simp)), if_neg h1, wrF_ok l (acc ++ enc f) (fun g hg => h g (by simp [hg])) hl, encs_cons, List.append_assoc]
theorem wrF_zero : ∀ (l : List Fd) (acc : List UInt8), acc.length ≤ 33792 → (wrF acc l).1 = 0 → (∀ f ∈ l, fault f = 0) ∧ (acc ++ encs l).length ≤ 33792
  | [], acc, ha, _ => ⟨by simp, by simpa [encs] using ha⟩
  | f :: l, acc, ha, h => by
    rw [wrF] at h
    by_cases hf : fault f = 0
    · rw [if_pos hf] at h
      by_cases ho : 33792 < (acc ++ enc f).length
      · rw [if_pos ho] at h; simp at h
      · rw [if_neg ho] at h
        obtain ⟨h1, h2⟩ := wrF_zero l (acc ++ enc f) (by omega) h
        refine ⟨fun g hg => ?_, by rw [encs_cons, ← List.append_assoc]; exact h2⟩
        rcases List.mem_cons.1 hg with rfl | hg
        · exact hf
        · exact h1 g hg
    · rw [if_neg hf] at h
      exact absurd h hf
theorem writeF_ok {l : List Fd} (h : okW l) : writeF l = (0, encs l) := by
  rw [writeF, if_pos h.1, wrF_ok l [] h.2.1 (by simpa using h.2.2)]
  simp
theorem writeF_zero {l : List Fd} (h : (writeF l).1 = 0) : okW l := by
  by_cases hk : kindsB l = true
  · rw [writeF, if_pos hk] at h
    obtain ⟨h1, h2⟩ := wrF_zero l [] (by simp) h
    exact ⟨hk, h1, by simpa using h2⟩
  · rw [writeF, if_neg hk] at h
    simp at h
theorem wrF_len : ∀ (l : List Fd) (acc : List UInt8), acc.length ≤ 33792 → (wrF acc l).2.length ≤ 33792
  | [], acc, h => by simpa [wrF] using h
  | f :: l, acc, h => by
    rw [wrF]
    split
    · split
      · simp
      · exact wrF_len l _ (by omega)
    · simp
theorem writeF_len (l : List Fd) : (writeF l).2.length ≤ 33792 := by
  unfold writeF
  split
  · exact wrF_len l [] (by simp)
  · simp
theorem wrF_err : ∀ (l : List Fd) (acc : List UInt8), (wrF acc l).1 ≠ 0 → (wrF acc l).2 = []
  | [], acc, h => by simp [wrF] at h
  | f :: l, acc, h => by
    rw [wrF] at h ⊢
    split
    · rename_i hf
      rw [if_pos hf] at h
      split
      · rfl
      · rename_i ho
        rw [if_neg ho] at h
        exact wrF_err l _ h
    · rfl
theorem writeF_err (l : List Fd) (h : (writeF l).1 ≠ 0) : (writeF l).2 = [] := by
  unfold writeF at h ⊢
  split
  · rename_i hk
    rw [if_pos hk] at h
    exact wrF_err l [] h
  · rfl

theorem kindsB_split (a b : List Fd) (h : kindsB (a ++ b) = true) : kindsB a = true ∧ kindsB b = true := by
  rw [kindsB_iff] at h
  constructor
  · rw [kindsB_iff]
    intro k hk
    have := h k (by simp; omega)
    rw [List.getElem_append_left hk] at this
    simp only [kindB, Bool.and_eq_true, Bool.or_eq_true, decide_eq_true_eq, List.length_append] at this ⊢
    exact ⟨this.1, this.2.imp id (by omega)⟩
  · rw [kindsB_iff]
    intro k hk
    have := h (a.length + k) (by simp; omega)
    rw [List.getElem_append_right (by omega)] at this
    simp only [Nat.add_sub_cancel_left] at this
    simp only [kindB, Bool.and_eq_true, Bool.or_eq_true, decide_eq_true_eq, List.length_append] at this ⊢
    exact ⟨this.1, this.2.imp id (by omega)⟩
theorem kindsB_join (a b : List Fd) (ha : kindsB a = true) (hb : kindsB b = true) (h : ∀ hp : 0 < a.length, a[a.length - 1].kind ≠ 6) : kindsB (a ++ b) = true := by
  rw [kindsB_iff] at ha hb ⊢
  intro k hk
  by_cases hka : k < a.length
  · rw [List.getElem_append_left hka]
    have h1 := ha k hka
    simp only [kindB, Bool.and_eq_true, Bool.or_eq_true, decide_eq_true_eq, List.length_append] at h1 ⊢
    refine ⟨h1.1, .inl ?_⟩
    rcases h1.2 with h2 | h2
    · exact h2
    · have hk2 : k = a.length - 1 := by omega
      subst hk2
      exact h (by omega)
  · rw [List.getElem_append_right (by omega)]
    have h1 := hb (k - a.length) (by simp at hk; omega)
    simp only [kindB, Bool.and_eq_true, Bool.or_eq_true, decide_eq_true_eq, List.length_append] at h1 ⊢
    exact ⟨h1.1, h1.2.imp id (by omega)⟩

theorem joins_ok (a b : List Fd) (h : (writeF (a ++ b)).1 = 0) : (writeF a).1 = 0 ∧ (writeF b).1 = 0 ∧ (writeF (a ++ b)).2 = (writeF a).2 ++ (writeF b).2 := by
  obtain ⟨hk, hf, hl⟩ := writeF_zero h
  obtain ⟨ka, kb⟩ := kindsB_split a b hk
  rw [encs_append, List.length_append] at hl
  have oa : okW a := ⟨ka, fun f hf' => hf f (by simp [hf']), by omega⟩
  have ob : okW b := ⟨kb, fun f hf' => hf f (by simp [hf']), by omega⟩
  have oab : okW (a ++ b) := ⟨hk, hf, by rw [encs_append, List.length_append]; exact hl⟩
  rw [writeF_ok oa, writeF_ok ob, writeF_ok oab, encs_append]
  exact ⟨rfl, rfl, rfl⟩
theorem joins_bad (a b : List Fd) (h : (writeF (a ++ b)).1 ≠ 0) (h1 : (writeF a).1 = 0) (h2 : (writeF b).1 = 0) (h3 : (writeF a).2.length + (writeF b).2.length ≤ 33792) : ∃ hp : 0 < a.length, a[a.length - 1].kind = 6 := by
  apply Classical.byContradiction
  intro hn
  obtain ⟨ka, fa, la⟩ := writeF_zero h1
  obtain ⟨kb, fb, lb⟩ := writeF_zero h2
  rw [writeF_ok ⟨ka, fa, la⟩, writeF_ok ⟨kb, fb, lb⟩] at h3
  have hk := kindsB_join a b ka kb (fun hp e => hn ⟨hp, e⟩)
  apply h
  rw [writeF_ok ⟨hk, fun f hf => (List.mem_append.1 hf).elim (fa f) (fb f), by rw [encs_append, List.length_append]; exact h3⟩]
end Go.Proofs.YtdplngplljejhaaDoor
