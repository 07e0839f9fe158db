import Derived.Test.YtmbnjaahiopanaaFQ
namespace Go.Proofs.Ytmbnjaahiopanaa
open Go.RowKit

/-- Nothing has turned but blocks of bytes from base on, below M. -/
structure Mut (base M : Nat) (w w' : World) : Prop where
  os : w'.os = w.os
  tape : w'.tape = w.tape
  output : w'.output = w.output
  size : w.heap.size ≤ w'.heap.size
  block : ∀ b, b < w.heap.size → (b < base ∨ M ≤ b ∨ ∀ cs t fr, w.heap[b]? = some (.cells cs t fr) → t ≠ 5) → w'.heap[b]? = w.heap[b]?
section
variable {base M : Nat} {w w' w'' : World}
theorem Mut.refl (base M : Nat) (w : World) : Mut base M w w := ⟨rfl, rfl, rfl, Nat.le_refl _, fun _ _ _ => rfl⟩
theorem Mut.store (h : Mut base M w w') {g i : Nat} {cs : Array Value} (hx : Box w' g 5 cs) (h1 : base ≤ g) (h2 : g < M) (hM : M ≤ w.heap.size) (u : Value) : Mut base M w (w'.setCell ⟨g, i, none⟩ u) := by
  refine ⟨h.os, h.tape, h.output, by simp [World.setCell]; exact h.size, fun b hb hc => ?_⟩
  have hne : b ≠ g := by
    rintro rfl
    have hsame := h.block b hb
    rcases hc with hc | hc | hc
    · omega
    · omega
    · have hk := hsame (.inr (.inr hc))
      unfold Box at hx
      rw [hk] at hx
      exact hc _ _ _ hx rfl
  rw [Below.heap_setCell _ _ _ _ hne]
  exact h.block b hb hc
theorem Mut.below (h : Mut base M w w') (hb : base ≤ w.heap.size) : Below base w w' := ⟨h.os, h.tape, h.output, h.size, fun b hb' => h.block b (by omega) (.inl hb')⟩
theorem Mut.box (h : Mut base M w w') {g : Nat} {t : TypeId} {cs : Array Value} (hx : Box w g t cs) (ht : t ≠ 5) : Box w' g t cs :=
  hx.same (h.block g hx.lt (.inr (.inr fun cs' t' fr e => by unfold Box at hx; rw [hx] at e; injection e with e; injection e with _ e; subst e; exact ht)))
theorem Mut.cell (h : Mut base M w w') {p : Addr} (hp : M ≤ p.block) (hlt : p.block < w.heap.size) : w'.cell? p = w.cell? p := by
  have := h.block p.block hlt (.inr (.inl hp))
  simp [World.cell?, this]
theorem Lies.mut {B : Nat} {A : Option Addr} {cs : List Value} (h : Lies w B A cs) (hA : ∀ a, A = some a → M ≤ a.block) (hB : B ≤ w.heap.size) (m : Mut base M w w') : Lies w' B A cs := fun hn => by
  obtain ⟨b, o, e, hb, hc⟩ := h hn
  have hM := hA _ e
  exact ⟨b, o, e, hb, fun j u hu => (m.cell (p := ⟨b, o + j, none⟩) hM (Nat.lt_of_lt_of_le hb hB)).trans (hc j u hu)⟩
end

/-- Rows of bytes between base and M, each in a cell of a list: what may be done to them. -/
def MU (w : World) (base M : Nat) (ps : List (List UInt8)) (cs : List Value) : Prop :=
  ∀ k (h : k < ps.length), ∃ A c, cs[k]? = some (.slice A ps[k].length c) ∧ (ps[k].length ≠ 0 → ∃ g bx, A = some ⟨g, 0, none⟩ ∧ base ≤ g ∧ g < M ∧ Box w g 5 bx ∧ ∀ j, j < ps[k].length → ∃ z : Int, bx[j]? = some (.int .u8 z))
theorem PL.mu {w : World} {base M : Nat} {ps : List (List UInt8)} {cs : List Value} (h : PL w base ps cs) (hM : ∀ v ∈ cs, ∀ g, v.ownBlock = some g → g < M) : MU w base M ps cs := fun k hk => by
  obtain ⟨A, c, h1, h2⟩ := h.2 k hk
  refine ⟨A, c, h1, fun hne => ?_⟩
  rcases h2.2 with ⟨_, h0⟩ | ⟨g, cap, cur, hv, hb, hh, _, _, hsz, htk⟩
  · exact absurd h0 hne
  · injection hv with hA hn hc
    subst hA
    refine ⟨g, cur, rfl, hb, hM _ (List.mem_of_getElem? h1) g rfl, hh, fun j hj => ?_⟩
    have e : (cur.toList.take (ps[k].length * 1))[j]? = (bv ps[k])[j]? := by rw [htk]
    rw [List.getElem?_take, if_pos (by omega)] at e
    refine ⟨(ps[k][j]).toNat, ?_⟩
    rw [← Array.getElem?_toList, e]
    simp [bv, hj]
theorem Mut.lower {base M : Nat} {w w' w2 : World} (h : Mut base M w w') (hb : Below w'.heap.size w' w2) : Mut base M w w2 :=
  ⟨hb.os.trans h.os, hb.tape.trans h.tape, hb.output.trans h.output, Nat.le_trans h.size hb.size, fun b hb' hc => (hb.block b (Nat.lt_of_lt_of_le hb' h.size)).trans (h.block b hb' hc)⟩
theorem MU.keep {w w' : World} {base M : Nat} {ps : List (List UInt8)} {cs : List Value} (h : MU w base M ps cs) (hb : Below w.heap.size w w') : MU w' base M ps cs := fun k hk => by
  obtain ⟨A, c, h1, h2⟩ := h k hk
  refine ⟨A, c, h1, fun hne => ?_⟩
  obtain ⟨g, bx, h3, h4, h5, h6, h7⟩ := h2 hne
  exact ⟨g, bx, h3, h4, h5, box_below h6 hb, h7⟩
theorem MU.store {w : World} {base M : Nat} {ps : List (List UInt8)} {cs : List Value} (h : MU w base M ps cs) {g i : Nat} (z : Int) : MU (w.setCell ⟨g, i, none⟩ (.int .u8 z)) base M ps cs := fun k hk => by
  obtain ⟨A, c, h1, h2⟩ := h k hk
  refine ⟨A, c, h1, fun hne => ?_⟩
  obtain ⟨g', bx, h3, h4, h5, h6, h7⟩ := h2 hne
  by_cases e : g' = g
  · subst e
    refine ⟨g', bx.setIfInBounds i (.int .u8 z), h3, h4, h5, h6.store i _, fun j hj => ?_⟩
    obtain ⟨z', hz⟩ := h7 j hj
    by_cases e2 : i = j
    · subst e2
      refine ⟨z, ?_⟩
      have hlt := (Array.getElem?_eq_some_iff.1 hz).1
      simp [hlt]
    · refine ⟨z', ?_⟩
      rw [Array.getElem?_setIfInBounds_ne e2]
      exact hz
  · exact ⟨g', bx, h3, h4, h5, h6.same (Below.heap_setCell _ _ _ _ e), h7⟩

theorem to_n (W : World) (B : Nat) (A : Option Addr) (c n : Nat) (bs : List UInt8) (b : Bool) (h : Hid (SlB W B A c bs)) (hB : Hid (B ≤ W.heap.size)) (hn : Hid (bs.length = n)) (hl : n ≤ 1000000) :
    Calls Try.prog 13 #[.agg #[.slice A n c, .bool b]] W fun e w' => ∃ A' c', e = .returned (.agg #[.slice A' n c', .bool b]) ∧ Hid (w'.ownsRow W.heap.size 5 1 (.slice A' n c') n (bv bs)) ∧ Hid (Below W.heap.size W w') := by
  have h1 := hn.out
  subst h1
  exact to_any W B A c bs b h.out hB.out hl
/-- What the document's Feed hands back. -/
structure RFedK (W w2 : World) (ps : List (List UInt8)) (left : List UInt8) (A : Option Addr) (m c : Nat) (LA : Option Addr) (k lc : Nat) : Prop where
  lenp : ps.length = k
  lenl : left.length = m
  slb : SlB w2 w2.heap.size A c left
  lo : ∀ a, A = some a → W.heap.size ≤ a.block
  lis : LisV w2 w2.heap.size LA ps
  bel : Below W.heap.size W w2
theorem rfeed_n (W : World) (B : Nat) (FA A : Option Addr) (fc c fn n k m : Nat) (fb b : List UInt8) (bad bd : Bool) (ps : List (List UInt8)) (left : List UInt8) (er : Int) (hX : Hid (feedX bad (fb ++ b) = (ps, left, er))) (hf : Hid (SlB W B FA fc fb)) (hb : Hid (SlB W B A c b)) (hB : Hid (B ≤ W.heap.size))
    (hfn : Hid (fb.length = fn)) (hn : Hid (b.length = n)) (hl : fn + n ≤ 900000) (hk : Hid (ps.length = k)) (hm : Hid (left.length = m)) (hbd : Hid (decide (er ≠ 0) = bd)) :
    Calls Try.prog 15 #[.agg #[.slice FA fn fc, .bool bad], .slice A n c] W fun e w2 => ∃ A1 c1 LA lc, e = .returned (.tuple #[.agg #[.slice A1 m c1, .bool bd], .slice LA k lc, .int .i64 er]) ∧ Hid (RFedK W w2 ps left A1 m c1 LA k lc) := by
  have h1 := hfn.out
  have h2 := hn.out
  subst h1; subst h2
  refine (rfeed_any W B FA A fc c fb b bad hf.out hb.out hB.out hl).mono ?_
  rw [hX.out]
  rintro e w2 ⟨A1, c1, LA, lc, rfl, h1, h2, h3, h4⟩
  refine ⟨A1, c1, LA, lc, ?_, hk.out, hm.out, h1, h2, h3, h4⟩
  rw [hk.out, hm.out, hbd.out]
theorem same_t (W : World) (A A2 : Option Addr) (c c2 n : Nat) (bs : List UInt8) (p : Bool) (h1 : Hid (Lies W W.heap.size A (bv bs))) (h2 : Hid (Lies W W.heap.size A2 (bv bs))) (hn : Hid (bs.length = n)) (hl : n ≤ 1000000) :
    Calls Try.prog 16 #[.agg #[.slice A n c, .bool p], .agg #[.slice A2 n c2, .bool p]] W fun e w' => e = .returned (.bool true) ∧ Hid (Below W.heap.size W w') := by
  have h3 := hn.out
  subst h3
  refine (same_any W _ _ A A2 c c2 bs bs p p h1.out h2.out (Nat.le_refl _) (Nat.le_refl _) (by unfold maxLen; omega) (by unfold maxLen; omega)).mono ?_
  rintro e w' ⟨rfl, hb⟩
  exact ⟨by simp, hb⟩
theorem lists_t (W : World) (A A2 : Option Addr) (c c2 n : Nat) (ls : List (List UInt8)) (h1 : Hid (LisV W W.heap.size A ls)) (h2 : Hid (LisV W W.heap.size A2 ls)) (hn : Hid (ls.length = n)) (hl : n ≤ 1000000) (hs : Hid (∀ b ∈ ls, b.length ≤ 1000000)) :
    Calls Try.prog 17 #[.slice A n c, .slice A2 n c2] W fun e w' => ∃ d, e = .returned (.bool true) ∧ w' = W.drewN d := by
  have h3 := hn.out
  subst h3
  refine (lists_any W _ _ A A2 c c2 ls ls h1.out h2.out (by unfold maxLen; omega) (by unfold maxLen; omega) (fun b hb => by have := hs.out b hb; unfold maxLen; omega) (fun b hb => by have := hs.out b hb; unfold maxLen; omega)).mono ?_
  rintro e w' ⟨rfl, d, rfl⟩
  exact ⟨d, by simp, rfl⟩

theorem feedF_bounds (s : List UInt8) : (feedF s).2.1.length ≤ s.length ∧ (feedF s).1.length ≤ s.length ∧ ∀ p ∈ (feedF s).1, p.length ≤ s.length := by
  suffices h : ∀ n (s : List UInt8), s.length ≤ n → (feedF s).2.1.length ≤ s.length ∧ (feedF s).1.length ≤ s.length ∧ ∀ p ∈ (feedF s).1, p.length ≤ s.length from h _ s (Nat.le_refl _)
  intro n
  induction n with
  | zero =>
    intro s hs
    have h0 : s = [] := List.eq_nil_of_length_eq_zero (by omega)
    subst h0
    have : nextF [] = (0, 3) := by decide
    rw [feedF_short this]
    simp
  | succ n ih =>
    intro s hs
    by_cases he : (nextF s).2 = 0
    · obtain ⟨h1, h2, h3, h4⟩ := nextF_zero he
      obtain ⟨m, hm⟩ : ∃ m, nextF s = (m, 0) := ⟨(nextF s).1, Prod.ext rfl he⟩
      have hmm : m = 4 + num4 s := by rw [← h1, hm]
      rw [feedF_next hm]
      have hd : (s.drop m).length = s.length - m := List.length_drop
      obtain ⟨i1, i2, i3⟩ := ih (s.drop m) (by omega)
      refine ⟨by simp only; omega, by simp only [List.length_cons]; omega, fun p hp => ?_⟩
      rcases List.mem_cons.1 hp with rfl | hp
      · rw [List.length_drop, List.length_take]; omega
      · have := i3 p hp; omega
    · rcases nextF_else he with h3 | h5
      · rw [feedF_short h3]; simp
      · rw [feedF_bad h5]; simp
theorem feedX_bounds (bad : Bool) (s : List UInt8) : (feedX bad s).2.1.length ≤ s.length ∧ (feedX bad s).1.length ≤ s.length ∧ ∀ p ∈ (feedX bad s).1, p.length ≤ s.length := by
  unfold feedX
  split
  · simp
  · exact feedF_bounds s
theorem great_two {a b : List UInt8} (h : great [a, b] = false) : a.length ≤ 200000 ∧ b.length ≤ 200000 := by
  simp [great] at h
  omega
theorem great_three {a b c : List UInt8} (h : great [a, b, c] = false) : a.length ≤ 200000 ∧ b.length ≤ 200000 ∧ c.length ≤ 200000 := by
  simp [great] at h
  omega
end Go.Proofs.Ytmbnjaahiopanaa
