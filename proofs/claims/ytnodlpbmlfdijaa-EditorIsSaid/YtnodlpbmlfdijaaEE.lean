import Derived.Test.YtnodlpbmlfdijaaED
namespace Go.Proofs.Ytnodlpbmlfdijaa
open Go.RowKit

/-- Rows of bytes of the call's own, each in a cell of a list. -/
def PL (w : World) (base : Nat) (ps : List (List UInt8)) (cs : List Value) : Prop :=
  cs.length = ps.length ∧ ∀ k (h : k < ps.length), ∃ A c, cs[k]? = some (.slice A ps[k].length c) ∧ w.ownsRow base 5 1 (.slice A ps[k].length c) ps[k].length (bv ps[k])
theorem PL.nil_ (w : World) (base : Nat) : PL w base [] [] := ⟨rfl, fun k h => by simp at h⟩
theorem PL.kept {w w' : World} {base B : Nat} {T : List TypeId} {ps : List (List UInt8)} {cs : List Value} (h : PL w base ps cs) (k : Kept B T w w') (hT : 5 ∉ T) : PL w' base ps cs :=
  ⟨h.1, fun i hi => by obtain ⟨A, c, h1, h2⟩ := h.2 i hi; exact ⟨A, c, h1, k.own h2 hT⟩⟩
theorem PL.below {w w' : World} {base : Nat} {ps : List (List UInt8)} {cs : List Value} (h : PL w base ps cs) (k : Below w.heap.size w w') : PL w' base ps cs :=
  ⟨h.1, fun i hi => by obtain ⟨A, c, h1, h2⟩ := h.2 i hi; exact ⟨A, c, h1, own_keep h2 k⟩⟩
theorem PL.mono {w : World} {b b' : Nat} {ps : List (List UInt8)} {cs : List Value} (h : PL w b ps cs) (k : b' ≤ b) : PL w b' ps cs :=
  ⟨h.1, fun i hi => by obtain ⟨A, c, h1, h2⟩ := h.2 i hi; exact ⟨A, c, h1, own_mono h2 k⟩⟩
theorem PL.snoc {w : World} {base : Nat} {ps : List (List UInt8)} {cs : List Value} {p : List UInt8} {A : Option Addr} {c n : Nat} (h : PL w base ps cs) (hn : p.length = n) (ho : w.ownsRow base 5 1 (.slice A n c) n (bv p)) :
    PL w base (ps ++ [p]) (cs ++ [.slice A n c]) := by
  subst hn
  refine ⟨by simp [h.1], fun k hk => ?_⟩
  by_cases hlt : k < ps.length
  · obtain ⟨A', c', h1, h2⟩ := h.2 k hlt
    refine ⟨A', c', ?_, ?_⟩
    · rw [List.getElem?_append_left (by rw [h.1]; exact hlt), List.getElem_append_left hlt]; exact h1
    · rw [List.getElem_append_left hlt]; exact h2
  · have hk' : k = ps.length := by simp at hk; omega
    subst hk'
    refine ⟨A, c, ?_, ?_⟩
    · rw [List.getElem_append_right (Nat.le_refl _)]
      rw [List.getElem?_append_right (by rw [h.1]; exact Nat.le_refl _), h.1]
      simp
    · rw [List.getElem_append_right (Nat.le_refl _)]
      simpa using ho
theorem PL.rev {w : World} {base : Nat} {ps : List (List UInt8)} {cs : List Value} (h : PL w base ps cs) : PL w base ps.reverse cs.reverse := by
  refine ⟨by simp [h.1], fun k hk => ?_⟩
  have hk' : k < ps.length := by simpa using hk
  obtain ⟨A, c, h1, h2⟩ := h.2 (ps.length - 1 - k) (by omega)
  refine ⟨A, c, ?_, ?_⟩
  · rw [List.getElem?_reverse (by rw [h.1]; exact hk'), h.1, h1, List.getElem_reverse]
  · rw [List.getElem_reverse]
    exact h2
theorem lisV_own {w : World} {base k lc : Nat} {LA : Option Addr} {ps : List (List UInt8)} {cs : List Value} (ho : w.ownsRow base 27 1 (.slice LA k lc) k cs)
    (h : cs.length = ps.length ∧ ∀ k (h : k < ps.length), ∃ A c, cs[k]? = some (.slice A ps[k].length c) ∧ SlB w w.heap.size A c ps[k]) : LisV w w.heap.size LA ps := fun hne => by
  have hcn : cs ≠ [] := by
    intro e
    have := h.1
    rw [e] at this
    exact hne (List.eq_nil_of_length_eq_zero this.symm)
  obtain ⟨b, o, e, hb, hc⟩ := Lies.own ho hcn
  exact ⟨b, o, e, hb, fun k hk => by obtain ⟨A, c, h1, h2⟩ := h.2 k hk; exact ⟨A, c, hc k _ h1, h2⟩⟩
theorem PL.lis {w : World} {base base2 k lc : Nat} {LA : Option Addr} {ps : List (List UInt8)} {cs : List Value} (h : PL w base2 ps cs) (ho : w.ownsRow base 27 1 (.slice LA k lc) k cs) : LisV w w.heap.size LA ps :=
  lisV_own ho ⟨h.1, fun k hk => by obtain ⟨A, c, h1, h2⟩ := h.2 k hk; exact ⟨A, c, h1, own_slb (_n := 0) h2⟩⟩
/-- A call has answered a list of rows of its own. -/
def Uns (w : World) (us : List (List UInt8)) (e : Ending) (w' : World) : Prop := ∃ LA k lc cs, e = .returned (.slice LA k lc) ∧ Hid (us.length = k) ∧ Hid (w'.ownsRow w.heap.size 27 1 (.slice LA k lc) k cs) ∧ Hid (PL w' w.heap.size us cs) ∧ Hid (Below w.heap.size w w')
/-- A row is put behind a list of the call's own. -/
theorem app_list {ops : Array Oper} {rest : List Oper} {o : Oper} {a : Act} {Q : Exit → Act → World → Prop} (W : World) (hgd : o.guard = none) (s x : Operand) (ho : o.op = .call { callee := .builtin .append, args := #[s, x], argTypes := #[33, 33] })
    (B k lc : Nat) (LA : Option Addr) (cs : List Value) (ps : List (List UInt8)) (hs : a.eval s = .slice LA k lc) (hown : Hid (W.ownsRow B 27 1 (.slice LA k lc) k cs)) (hPL : Hid (PL W B ps cs)) (g : Nat) (hg : g = W.heap.size) (hx : a.eval x = .slice (some ⟨g, 0, none⟩) 1 1)
    (A : Option Addr) (n c : Nat) (p : List UInt8) (hp : Hid (W.ownsRow B 5 1 (.slice A n c) n (bv p))) (hn : Hid (p.length = n)) (hB : B ≤ W.heap.size) (hk : k ≤ 1000000)
    (h : ∀ A' c' cs' u2, Hid (u2.ownsRow B 27 1 (.slice A' (k + 1) c') (k + 1) cs') → Hid (PL u2 B (ps ++ [p]) cs') → Hid (Kept B [27] W u2) → wpList Try.prog ops Q rest (a.put o.dst (.slice A' (k + 1) c')) u2) :
    wpList Try.prog ops Q (o :: rest) a (W.alloc (.cells #[.slice A n c] 27)) := by
  subst hg
  obtain ⟨i1, hi1, hz10, hz11, hz12⟩ := info_parts Try.info22
  have ka : Kept B [27] W (W.alloc (.cells #[.slice A n c] 27)) := (Kept.refl _ _ _).alloc _
  have ho1 := own_keep hown.out ((Below.refl _ W).alloc (Nat.le_refl _) (.cells #[.slice A n c] 27))
  refine wpList_app _ hgd s x 33 ho B 27 i1 _ 1 24 Try.underlying33 hi1 hz10 hz11 hz12 rfl (by decide) LA k lc cs hs ho1 (W.heap.size + 1) (some ⟨W.heap.size, 0, none⟩) 1 1 [.slice A n c] hx rfl (lies_lit W #[.slice A n c] 27) (by intro u hu; simp at hu; subst hu; rfl) (by unfold maxLen; omega) (by omega) (by simp; omega) ?_
  intro A' c' u2 ho2 hg2
  have k2 : Kept B [27] W u2 := ka.grown hg2 (fun j hj => by obtain ⟨a, cs, b⟩ := own_box ho1 j hj; exact ⟨a, 27, cs, by simp, b⟩)
  refine h A' c' _ u2 (hid ho2) (hid ?_) (hid k2)
  exact ((hPL.out.snoc hn.out hp.out)).kept k2 (by decide)
end Go.Proofs.Ytnodlpbmlfdijaa
