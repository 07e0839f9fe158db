import Derived.Test.YtnodlpbmlfdijaaER
namespace Go.Proofs.Ytnodlpbmlfdijaa
open Go.RowKit

theorem lists_two (w : World) (A A2 : Option Addr) (c c2 n n2 : Nat) (ls ms : List (List UInt8)) (hn : ls.length = n) (hn2 : ms.length = n2) (he : ls = ms) (hx : Hid (LisV w w.heap.size A ls)) (hy : Hid (LisV w w.heap.size A2 ms)) (hl : n ≤ 1000000) (hs : Hid (∀ b ∈ ls, b.length ≤ 1000000)) :
    Calls Try.prog 16 #[.slice A n c, .slice A2 n2 c2] w fun e w' => e = .returned (.bool true) ∧ Hid (Below w.heap.size w w') := by
  subst he
  obtain rfl : n = n2 := by omega
  subst hn
  refine (lists_any w _ _ A A2 c c2 ls ls hx.out hy.out (by unfold maxLen; omega) (by unfold maxLen; omega) (fun b hb => by have := hs.out b hb; unfold maxLen; omega) (fun b hb => by have := hs.out b hb; unfold maxLen; omega)).mono ?_
  rintro e w' ⟨rfl, k, rfl⟩
  exact ⟨by simp, hid (bel_drewN (Below.refl _ _) k)⟩
/-- A slice of bytes that may be written to. -/
def MUe (w : World) (M : Nat) (v : Value) : Prop := ∃ A n c, v = .slice A n c ∧ n ≤ maxLen ∧ (n ≠ 0 → ∃ (g : Nat) (bx : Array Value), A = some ⟨g, 0, none⟩ ∧ M ≤ g ∧ Box w g 5 bx ∧ ∀ j, j < n → ∃ z : Int, bx[j]? = some (.int .u8 z))
theorem mue_own {w : World} {M B n c : Nat} {A : Option Addr} {bs : List UInt8} (hn : bs.length = n) (h : w.ownsRow B 5 1 (.slice A n c) n (bv bs)) (hM : M ≤ B) : MUe w M (.slice A n c) := by
  refine ⟨A, n, c, rfl, Nat.le_trans (own_caps h).1 (own_caps h).2, fun hne => ?_⟩
  rcases h.2 with ⟨_, h0⟩ | ⟨g, cap, cur, hv, hb, hh, _, _, _, htk⟩
  · exact absurd h0 hne
  · injection hv with hA _ _
    refine ⟨g, cur, hA, by omega, hh, fun j hj => ?_⟩
    have e : (cur.toList.take (n * 1))[j]? = (bv bs)[j]? := by rw [htk]
    rw [List.getElem?_take, if_pos (by omega)] at e
    refine ⟨((bs[j]'(by omega)).toNat : Int), ?_⟩
    rw [← Array.getElem?_toList, e]
    simp [bv, hn, hj]
theorem MUe.below {w w' : World} {M : Nat} {v : Value} (h : MUe w M v) (k : Below w.heap.size w w') : MUe w' M v := by
  obtain ⟨A, n, c, rfl, h0, h2⟩ := h
  refine ⟨A, n, c, rfl, h0, fun hne => ?_⟩
  obtain ⟨g, bx, h3, h4, h5, h6⟩ := h2 hne
  exact ⟨g, bx, h3, h4, box_below h5 k, h6⟩
theorem MUe.kept {w w' : World} {M B : Nat} {v : Value} (h : MUe w M v) (k : Kept B [27] w w') : MUe w' M v := by
  obtain ⟨A, n, c, rfl, h0, h2⟩ := h
  refine ⟨A, n, c, rfl, h0, fun hne => ?_⟩
  obtain ⟨g, bx, h3, h4, h5, h6⟩ := h2 hne
  exact ⟨g, bx, h3, h4, k.box h5 (by decide), h6⟩
theorem MUe.store {w : World} {M : Nat} {v : Value} (h : MUe w M v) (g i : Nat) (z : Int) : MUe (w.setCell ⟨g, i, none⟩ (.int .u8 z)) M v := by
  obtain ⟨A, n, c, rfl, h0, h2⟩ := h
  refine ⟨A, n, c, rfl, h0, fun hne => ?_⟩
  obtain ⟨g', bx, h3, h4, h6, h7⟩ := h2 hne
  by_cases e : g' = g
  · subst e
    refine ⟨g', bx.setIfInBounds i (.int .u8 z), h3, h4, h6.store i _, fun j hj => ?_⟩
    obtain ⟨z', hz⟩ := h7 j hj
    by_cases e2 : i = j
    · subst e2
      refine ⟨z, ?_⟩
      have hlt := (Array.getElem?_eq_some_iff.1 hz).1
      simp [hlt]
    · refine ⟨z', ?_⟩
      rw [Array.getElem?_setIfInBounds_ne e2]
      exact hz
  · exact ⟨g', bx, h3, h4, h6.same (Below.heap_setCell _ _ _ _ e), h7⟩
abbrev RowB := Option Addr × Nat × Nat × List UInt8
/-- A law's world: what its calls have answered. -/
structure St (w u W : World) (t : Tm) (l : List RowB) (ms : List Value) : Prop where
  bel : Below w.heap.size w W
  bm : Below u.heap.size u W
  box : Box W w.heap.size 26 t.cs
  rows : ∀ r ∈ l, Hid (SlB W W.heap.size r.1 r.2.2.1 r.2.2.2)
  mus : ∀ v ∈ ms, MUe W u.heap.size v
section
variable {w u W W' : World} {t : Tm} {l : List RowB} {ms : List Value}
theorem St.keep (h : St w u W t l ms) (k : Below W.heap.size W W') : St w u W' t l ms :=
  ⟨h.bel.trans (k.mono h.bel.size), h.bm.trans (k.mono h.bm.size), box_below h.box k, fun r hr => slb_at (h.rows r hr) (hid k), fun v hv => (h.mus v hv).below k⟩
theorem St.row (h : St w u W t l ms) {A : Option Addr} {n c : Nat} {bs : List UInt8} (hb : Hid (SlB W W.heap.size A c bs)) : St w u W t ((A, n, c, bs) :: l) ms :=
  ⟨h.bel, h.bm, h.box, fun r hr => by
    rcases List.mem_cons.1 hr with rfl | hr
    · exact hb
    · exact h.rows r hr, h.mus⟩
theorem St.own (h : St w u W t l ms) {A : Option Addr} {n c B : Nat} {bs : List UInt8} (hn : Hid (bs.length = n)) (ho : Hid (W.ownsRow B 5 1 (.slice A n c) n (bv bs))) (hB : u.heap.size ≤ B) : St w u W t ((A, n, c, bs) :: l) (.slice A n c :: ms) :=
  ⟨h.bel, h.bm, h.box, (h.row (n := n) (slb_own hn ho)).rows, fun v hv => by
    rcases List.mem_cons.1 hv with rfl | hv
    · exact mue_own hn.out ho.out hB
    · exact h.mus v hv⟩
/-- And a list of rows. -/
structure StU (w u W : World) (t : Tm) (l : List RowB) (ms : List Value) (LA : Option Addr) (k lc : Nat) (cs : List Value) (us : List (List UInt8)) : Prop where
  st : St w u W t l ms
  own : W.ownsRow u.heap.size 27 1 (.slice LA k lc) k cs
  pl : PL W u.heap.size us cs
variable {LA : Option Addr} {k lc : Nat} {cs : List Value} {us : List (List UInt8)}
theorem StU.keep (h : StU w u W t l ms LA k lc cs us) (b : Below W.heap.size W W') : StU w u W' t l ms LA k lc cs us := ⟨h.st.keep b, own_keep h.own b, h.pl.below b⟩
theorem StU.lis (h : StU w u W t l ms LA k lc cs us) : Hid (LisV W W.heap.size LA us) := hid (h.pl.lis h.own)
end
/-- The rows that are written to, in a list. -/
structure Sh (w u W : World) (LA : Option Addr) (k lc : Nat) (cs : List Value) : Prop where
  bel : Below w.heap.size w W
  bm : Below u.heap.size u W
  own : W.ownsRow u.heap.size 27 1 (.slice LA k lc) k cs
  mus : ∀ v ∈ cs, MUe W u.heap.size v
theorem Sh.store {w u W : World} {LA : Option Addr} {k lc g : Nat} {cs : List Value} {bx : Array Value} (h : Sh w u W LA k lc cs) (hu : w.heap.size ≤ u.heap.size) (hg : u.heap.size ≤ g) (hb : Box W g 5 bx) (i : Nat) (z : Int) : Sh w u (W.setCell ⟨g, i, none⟩ (.int .u8 z)) LA k lc cs :=
  ⟨h.bel.setCell (show w.heap.size ≤ g from Nat.le_trans hu hg) _, h.bm.setCell hg _, ((Kept.refl u.heap.size [5] W).store hb hg (by simp) _).own h.own (by decide), fun v hv => (h.mus v hv).store g i z⟩
theorem lit_own_n (W : World) (cs : List Value) (n base : Nat) (hn : cs.length = n) (hm : n ≤ maxLen) (hb : base ≤ W.heap.size) : (W.alloc (.cells cs.toArray 27)).ownsRow base 27 1 (.slice (some ⟨W.heap.size, 0, none⟩) n n) n cs := by
  subst hn
  refine ⟨by simp, Or.inr ⟨W.heap.size, cs.length, cs.toArray, rfl, hb, heap_alloc_new W _, Nat.le_refl _, hm, by simp, by simp⟩⟩
theorem pl_mus {w : World} {M : Nat} {us : List (List UInt8)} {cs : List Value} (h : PL w M us cs) : ∀ v ∈ cs, MUe w M v := fun v hv => by
  obtain ⟨i, hi, rfl⟩ := List.mem_iff_getElem.1 hv
  obtain ⟨A, c, h1, h2⟩ := h.2 i (by rw [← h.1]; exact hi)
  rw [List.getElem?_eq_getElem hi] at h1
  injection h1 with h1
  rw [h1]
  exact mue_own rfl h2 (Nat.le_refl _)
/-- Five rows and the rows of a list, in one list. -/
theorem app_five {ops : Array Oper} {rest : List Oper} {o : Oper} {a : Act} {Q : Exit → Act → World → Prop} {w u : World} (W : World) (hgd : o.guard = none) (x y : Operand) (ho : o.op = .call { callee := .builtin .append, args := #[x, y], argTypes := #[33, 33] })
    (vs : List Value) (c0 : Array Value) (hc0 : vs.toArray = c0) (n : Nat) (hvs : vs.length = n) (_h1 : ∀ v ∈ vs, v.oneCell' = true) (g : Nat) (hg : g = W.heap.size) (hx : a.eval x = .slice (some ⟨g, 0, none⟩) n n) {t : Tm} {l : List RowB} {ms : List Value} (LA : Option Addr) (k lc : Nat) (cs : List Value) {us : List (List UInt8)}
    (hy : a.eval y = .slice LA k lc) (hS : Hid (StU w u W t l ms LA k lc cs us)) (hms : ∀ v ∈ vs, v ∈ ms) (hwu : w.heap.size ≤ u.heap.size) (hk : n + k ≤ 1000000)
    (h : ∀ A' c' u2, Hid (Sh w u u2 A' (n + k) c' (vs ++ cs)) → wpList Try.prog ops Q rest (a.put o.dst (.slice A' (n + k) c')) u2) :
    wpList Try.prog ops Q (o :: rest) a (W.alloc (.cells c0 27)) := by
  subst hg hc0
  have st := hS.out.st
  obtain ⟨i1, hi1, hz10, hz11, hz12⟩ := info_parts Try.info22
  have ka : Kept u.heap.size [27] W (W.alloc (.cells vs.toArray 27)) := (Kept.refl _ _ _).alloc _
  have ba : Below W.heap.size W (W.alloc (.cells vs.toArray 27)) := (Below.refl _ W).alloc (Nat.le_refl _) _
  have ho1 := lit_own_n W vs n u.heap.size hvs (by unfold maxLen; omega) st.bm.size
  have hcl : cs.length = k := by simpa using hS.out.own.1
  have hone : ∀ v ∈ cs, v.oneCell' = true := fun v hv => by
    obtain ⟨A, n, c, rfl, _⟩ := pl_mus hS.out.pl v hv
    rfl
  refine wpList_app _ hgd x y 33 ho u.heap.size 27 i1 _ 1 24 Try.underlying33 hi1 hz10 hz11 hz12 rfl (by decide) _ n n vs hx ho1 (W.alloc (.cells vs.toArray 27)).heap.size LA k lc cs hy (by omega) (Lies.own (own_keep hS.out.own ba)) hone (by unfold maxLen; omega) (by omega) (by have := st.bm.size; simp; omega) ?_
  intro A' c' u2 ho2 hg2
  have k2 : Kept u.heap.size [27] W u2 := ka.grown hg2 (fun j hj => by obtain ⟨a, cs, b⟩ := own_box ho1 j hj; exact ⟨a, 27, cs, by simp, b⟩)
  have b2 : Below u.heap.size W u2 := k2.below st.bm.size
  refine h A' c' u2 (hid ⟨st.bel.trans (b2.mono hwu), st.bm.trans b2, ho2, fun v hv => ?_⟩)
  · rcases List.mem_append.1 hv with hv | hv
    · exact (st.mus v (hms v hv)).kept k2
    · exact (pl_mus hS.out.pl v hv).kept k2
end Go.Proofs.Ytnodlpbmlfdijaa
