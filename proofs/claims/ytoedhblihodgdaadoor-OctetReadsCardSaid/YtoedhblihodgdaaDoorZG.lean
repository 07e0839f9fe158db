import Derived.Test.YtoedhblihodgdaaDoorZF
namespace Go.Proofs.YtoedhblihodgdaaDoor
open Go.RowKit

theorem getF_wf (k : Int) (hk : 1 ≤ k ∧ k ≤ 6) (left : List UInt8) : Wf { (getF k left).2.1 with kind := k } := by
  have h : k = 1 ∨ k = 2 ∨ k = 3 ∨ k = 4 ∨ k = 5 ∨ k = 6 := by omega
  have hk2 : -9223372036854775808 ≤ k ∧ k ≤ 9223372036854775807 := by omega
  have triv : ∀ n : Nat, n < 4294967296 → ∀ tx, Wf ⟨k, n, tx, []⟩ := fun n hn tx => ⟨hn, hk2, fun s hs => by cases hs⟩
  rcases h with rfl | rfl | rfl | rfl | rfl | rfl
  · cases left with
    | nil => exact triv 0 (by omega) []
    | cons a r =>
      have := a.toNat_lt
      exact triv a.toNat (by omega) []
  · cases left with
    | nil => exact triv 0 (by omega) []
    | cons a r => exact triv (min a.toNat 1) (by omega) []
  · show Wf { (u32F left).2.1 with kind := 3 }
    unfold u32F
    split
    · exact triv 0 (by omega) []
    · exact triv (num4 left) (num4_lt left) []
  · exact triv 0 (by omega) _
  · show Wf { (namesF left).2.1 with kind := 5 }
    unfold namesF
    split
    · split
      · exact triv 0 (by omega) []
      · split
        · exact triv 0 (by omega) []
        · split
          · refine ⟨by show 0 < 4294967296; omega, hk2, fun s hs => ?_⟩
            have := spl_size (textF left).2.1 32768 (textF_len left) s hs
            unfold maxLen
            omega
          · exact triv 0 (by omega) []
    · exact triv 0 (by omega) []
  · show Wf { (restF left).2.1 with kind := 6 }
    unfold restF
    split
    · exact triv 0 (by omega) []
    · exact triv 0 (by omega) left
theorem rdF_wf : ∀ (ks : List Int) (acc : List Fd) (left : List UInt8), (∀ k ∈ ks, 1 ≤ k ∧ k ≤ 6) → (∀ f ∈ acc, Wf f) → (∀ f ∈ (rdF acc ks left).2, Wf f) ∧ (rdF acc ks left).2.length ≤ acc.length + ks.length
  | [], acc, left, _, ha => by
    unfold rdF
    split
    · exact ⟨ha, by simp⟩
    · exact ⟨fun f hf => (by cases hf), by simp⟩
  | k :: ks, acc, left, hk, ha => by
    unfold rdF
    split
    · have := rdF_wf ks (acc ++ [{ (getF k left).2.1 with kind := k }]) (getF k left).2.2 (fun k hk' => hk k (by simp [hk'])) (fun f hf => by
        rcases List.mem_append.1 hf with h | h
        · exact ha f h
        · simp only [List.mem_cons, List.mem_nil_iff, or_false] at h
          subst h
          exact getF_wf k (hk k (by simp)) left)
      refine ⟨this.1, ?_⟩
      have h2 := this.2
      simp only [List.length_append, List.length_cons, List.length_nil] at h2 ⊢
      omega
    · exact ⟨fun f hf => (by cases hf), by simp⟩
theorem readF_wf (ks : List Int) (bs : List UInt8) : (∀ f ∈ (readF ks bs).2, Wf f) ∧ (readF ks bs).2.length ≤ ks.length := by
  unfold readF
  split
  · rename_i h
    have hks : ∀ k ∈ ks, 1 ≤ k ∧ k ≤ 6 := fun k hk => by
      obtain ⟨i, hi, rfl⟩ := List.getElem_of_mem hk
      have := (kindsB_iff _).1 h i (by simpa using hi)
      simp only [List.getElem_map, kfd, kindB, Bool.and_eq_true, decide_eq_true_eq] at this
      exact this.1
    have := rdF_wf ks [] bs hks (fun f hf => by cases hf)
    simpa using this
  · exact ⟨fun f hf => (by cases hf), by simp⟩

/-- The fields' texts lie in memory of the call's own, each a row of bytes. -/
def Txts (w : World) (base g : Nat) (cur : Array Value) (N : Nat) : Prop :=
  Box w g 37 cur ∧ ∀ k, k < N → ∃ (tA : Option Addr) (tn tc : Nat) (xs : List Value), cur[k * 4 + 2]? = some (.slice tA tn tc) ∧ w.ownsRow base 5 1 (.slice tA tn tc) tn xs ∧ AllU8 xs
theorem own_store {w : World} {base g j tn tc : Nat} {tA : Option Addr} {xs : List Value} (h : w.ownsRow base 5 1 (.slice tA tn tc) tn xs) (ha : AllU8 xs) (z : Int) :
    ∃ ys, (w.setCell ⟨g, j, none⟩ (.int .u8 z)).ownsRow base 5 1 (.slice tA tn tc) tn ys ∧ AllU8 ys := by
  rcases h.2 with ⟨hv, h0⟩ | ⟨g', cap, cur, hv, h1, h2, h3⟩
  · exact ⟨xs, ⟨h.1, .inl ⟨hv, h0⟩⟩, ha⟩
  · by_cases hg : g' = g
    · subst hg
      injection hv with e1 e2 e3
      subst e1
      exact ⟨_, (h.stored j (.int .u8 z)).1, allu8_set ha j z⟩
    · exact ⟨xs, ⟨h.1, .inr ⟨g', cap, cur, hv, h1, (Below.heap_setCell _ _ _ _ hg).trans h2, h3⟩⟩, ha⟩
theorem txts_store {w : World} {base g N g' j : Nat} {cur cs : Array Value} (h : Txts w base g cur N) (hb : Box w g' 5 cs) (z : Int) : Txts (w.setCell ⟨g', j, none⟩ (.int .u8 z)) base g cur N := by
  refine ⟨box_other h.1 (box_ne h.1 hb (by decide)) _, fun k hk => ?_⟩
  obtain ⟨tA, tn, tc, xs, h1, h2, h3⟩ := h.2 k hk
  obtain ⟨ys, h4, h5⟩ := own_store (g := g') (j := j) h2 h3 z
  exact ⟨tA, tn, tc, ys, h1, h4, h5⟩
theorem txts_at {w : World} {base N c : Nat} {A : Option Addr} {fs : List Fd} {cs : List Value} (ho : w.ownsRow base 37 4 (.slice A N c) N cs) (hf : FlatF w base fs cs) (hN : fs.length = N) (h0 : 0 < N) :
    ∃ g cur, A = some ⟨g, 0, none⟩ ∧ base ≤ g ∧ Txts w base g cur N := by
  rcases ho.2 with ⟨_, h⟩ | ⟨g, cap, cur, hv, hb, hh, _, _, hsz, ht⟩
  · omega
  · injection hv with hv _ _
    refine ⟨g, cur, hv, hb, hh, fun k hk => ?_⟩
    obtain ⟨tA, tc, lA, lc, _, _, g2, _, g4, _⟩ := flat_at fs cs hf k (by omega)
    refine ⟨tA, fs[k].text.length, tc, _, ?_, g4, allu8_bv _⟩
    rw [← ht, List.getElem?_take, if_pos (by omega)] at g2
    simpa using g2
end Go.Proofs.YtoedhblihodgdaaDoor
