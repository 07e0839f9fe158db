import Derived.Test.YtmbnjaahiopanaaGF
namespace Go.Proofs.Ytmbnjaahiopanaa
open Go.RowKit

theorem wpList_app_g {P : Program} (w : World) {ops : Array Oper} {rest : List Oper} {o : Oper} {a : Act} {Q : Exit → Act → World → Prop} (hw : Region.wanted o (yielded ops a.tmps) = true) (s x : Operand) (t : TypeId)
    (ho : o.op = .call { callee := .builtin .append, args := #[s, x], argTypes := #[t, t] })
    (base : Nat) (e : TypeId) (i : TypeInfo) (z : Value) (size bytes : Nat) (ht : P.underlying t = some (.slice e)) (hi : P.info? e = some i) (hz : i.zero = some z)
    (hsize : i.size = size) (hby : i.bytes = bytes) (hzs : z.cells.size = size) (hsz : 0 < size)
    (A : Option Addr) (n c : Nat) (xs : List Value) (hs : a.eval s = .slice A n c) (hown : w.ownsRow base e size (.slice A n c) n xs)
    (B : Nat) (A2 : Option Addr) (m c2 : Nat) (news : List Value) (hx : a.eval x = .slice A2 m c2) (hl : news.length = m * size) (hr : Lies w B A2 news) (h1 : ∀ u ∈ news, u.oneCell' = true)
    (h63 : n + m ≤ maxLen) (hbytes : (n + m) * bytes ≤ 140737488355328) (hbase : base ≤ w.heap.size)
    (h : ∀ A' c' w', w'.ownsRow base e size (.slice A' (n + m) c') (n + m) (xs ++ news) → w.grownBy w' (Value.slice A n c).ownBlock → wpList P ops Q rest (a.put o.dst (.slice A' (n + m) c')) w') : wpList P ops Q (o :: rest) a w :=
  BigFrame.wpList_want hw fun _ hK => wp_app w s x t ho base e i z size bytes ht hi hz hsize hby hzs hsz A n c xs hs hown B A2 m c2 news hx hl hr h1 h63 hbytes hbase fun A' c' w' h2 h3 => hK _ _ (h A' c' w' h2 h3)

/-- The values of a list, each a slice of bytes. -/
def CV (w : World) (ps : List (List UInt8)) (cs : List Value) : Prop :=
  cs.length = ps.length ∧ ∀ k (h : k < ps.length), ∃ A c, cs[k]? = some (.slice A ps[k].length c) ∧ SlB w w.heap.size A c ps[k]
theorem CV.keep {w w' : World} {ps : List (List UInt8)} {cs : List Value} (h : CV w ps cs) (hb : Below w.heap.size w w') : CV w' ps cs :=
  ⟨h.1, fun k hk => by obtain ⟨A, c, h1, h2⟩ := h.2 k hk; exact ⟨A, c, h1, (h2.below hb).more hb.size⟩⟩
theorem CV.append {w : World} {ps qs : List (List UInt8)} {cs ds : List Value} (h : CV w ps cs) (k : CV w qs ds) : CV w (ps ++ qs) (cs ++ ds) := by
  refine ⟨by rw [List.length_append, List.length_append, h.1, k.1], fun i hi => ?_⟩
  by_cases hlt : i < ps.length
  · rw [List.getElem?_append_left (by rw [h.1]; exact hlt), List.getElem_append_left hlt]
    exact h.2 i hlt
  · have hl2 : i - ps.length < qs.length := by rw [List.length_append] at hi; omega
    rw [List.getElem?_append_right (by rw [h.1]; omega), List.getElem_append_right (by omega), h.1]
    exact k.2 _ hl2
theorem CV.one {w : World} {ps : List (List UInt8)} {cs : List Value} (h : CV w ps cs) : ∀ u ∈ cs, u.oneCell' = true := by
  intro u hu
  obtain ⟨k, hk, rfl⟩ := List.getElem_of_mem hu
  obtain ⟨A, c, h1, _⟩ := h.2 k (by rw [← h.1]; exact hk)
  rw [List.getElem?_eq_getElem hk] at h1
  injection h1 with h1
  rw [h1]
  rfl
theorem FedK.cv {W w2 : World} {ps : List (List UInt8)} {left : List UInt8} {A LA : Option Addr} {m c k lc : Nat} (h : FedK W w2 ps left A m c LA k lc) : ∃ cs, CV w2 ps cs ∧ Lies w2 w2.heap.size LA cs := by
  obtain ⟨M, cs, _, _, _, h4, h5, _⟩ := h.more
  exact ⟨cs, ⟨h5.1, fun k hk => by obtain ⟨A, c, h1, h2⟩ := h5.2 k hk; exact ⟨A, c, h1, own_slb (n := 0) h2⟩⟩, Lies.own h4⟩

/-- A part of what came in, from its start. -/
theorem slb_take {w : World} {A : Option Addr} {c k : Nat} {b : List UInt8} (h : Hid (SlB w w.heap.size A c b)) (hk : k ≤ b.length) : Hid (SlB w w.heap.size A c (b.take k)) ∧ (b.take k).length = k :=
  ⟨h.out.take k, by rw [List.length_take]; omega⟩
theorem slb_drop {w : World} {a : Addr} {c k : Nat} {b : List UInt8} (h : Hid (SlB w w.heap.size (some a) c b)) (hk : k ≤ b.length) : Hid (SlB w w.heap.size (if c = k then some a else some (a.add k)) (c - k) (b.drop k)) := by
  have h := h.out.drop k hk
  show SlB _ _ _ _ _
  split
  · rw [if_pos (by assumption)] at h; exact h
  · rw [if_neg (by assumption)] at h; exact h

/-- What Feed handed back, whatever has been done to framers since. -/
def FK (w : World) (ps : List (List UInt8)) (left : List UInt8) (A : Option Addr) (m c : Nat) (LA : Option Addr) (k lc : Nat) : Prop :=
  ∃ base cs, w.ownsRow base 5 1 (.slice A m c) m (bv left) ∧ w.ownsRow base 22 1 (.slice LA k lc) k cs ∧ PL w base ps cs
theorem FK.of {W w2 : World} {ps : List (List UInt8)} {left : List UInt8} {A LA : Option Addr} {m c k lc : Nat} (h : FedK W w2 ps left A m c LA k lc) : FK w2 ps left A m c LA k lc := by
  obtain ⟨M, cs, h1, _, h3, h4, h5, _⟩ := h.more
  exact ⟨W.heap.size, cs, own_mono h3 h1, h4, h5⟩
theorem FK.kept {w w' : World} {B : Nat} {T : List TypeId} {ps : List (List UInt8)} {left : List UInt8} {A LA : Option Addr} {m c k lc : Nat} (h : FK w ps left A m c LA k lc) (kk : Kept B T w w') (h5 : 5 ∉ T) (h22 : 22 ∉ T) : FK w' ps left A m c LA k lc := by
  obtain ⟨base, cs, h1, h2, h3⟩ := h
  exact ⟨base, cs, kk.own h1 h5, kk.own h2 h22, h3.kept kk h5⟩
theorem FK.bel {w w' : World} {ps : List (List UInt8)} {left : List UInt8} {A LA : Option Addr} {m c k lc : Nat} (h : Hid (FK w ps left A m c LA k lc)) (hb : Hid (Below w.heap.size w w')) : Hid (FK w' ps left A m c LA k lc) := h.out.kept (Kept.of_below hb.out 0 []) (by simp) (by simp)
theorem FK.slb {w : World} {ps : List (List UInt8)} {left : List UInt8} {A LA : Option Addr} {m c k lc : Nat} (h : Hid (FK w ps left A m c LA k lc)) (hm : Hid (left.length = m)) : Hid (SlB w w.heap.size A c left) := by
  obtain ⟨base, cs, h1, _⟩ := h.out
  exact slb_own hm h1
theorem FK.lis {w : World} {ps : List (List UInt8)} {left : List UInt8} {A LA : Option Addr} {m c k lc : Nat} (h : Hid (FK w ps left A m c LA k lc)) : Hid (LisV w w.heap.size LA ps) := by
  obtain ⟨base, cs, _, h2, h3⟩ := h.out
  exact h3.lis h2
theorem FK.cv {w : World} {ps : List (List UInt8)} {left : List UInt8} {A LA : Option Addr} {m c k lc : Nat} (h : Hid (FK w ps left A m c LA k lc)) : ∃ cs, Hid (CV w ps cs) ∧ Hid (Lies w w.heap.size LA cs) := by
  obtain ⟨base, cs, _, h4, h5⟩ := h.out
  exact ⟨cs, ⟨h5.1, fun k hk => by obtain ⟨A, c, h1, h2⟩ := h5.2 k hk; exact ⟨A, c, h1, own_slb (n := 0) h2⟩⟩, Lies.own h4⟩
/-- A framer's two cells, set. -/
structure YR (w6 W9 : World) (y : Nat) (v0 v1 : Value) : Prop where
  bx : Box W9 y 34 #[v0, v1]
  kp : Kept 0 [34] w6 W9
theorem yr_set {w6 : World} {y : Nat} {u0 u1 : Value} (hx : Box w6 y 34 #[u0, u1]) (v0 v1 : Value) : YR w6 ((w6.setCell ⟨y, 0, none⟩ v0).setCell ⟨y, 1, none⟩ v1) y v0 v1 := by
  have hx1 := hx.store 0 v0
  have hx2 := hx1.store 1 v1
  exact ⟨by simpa using hx2, ((Kept.refl 0 [34] w6).store hx (Nat.zero_le _) (by simp) v0).store hx1 (Nat.zero_le _) (by simp) v1⟩
theorem yr_new (w6 : World) (v0 v1 : Value) : YR w6 (w6.alloc (.cells #[v0, v1] 34)) w6.heap.size v0 v1 := ⟨Box.new _ _ _, (Kept.refl _ _ _).alloc _⟩

theorem yr_bel {B y : Nat} {W4 w6 : World} (hb : Hid (Below B W4 w6)) (hy : B ≤ y) (v0 v1 : Value) : Below B W4 ((w6.setCell ⟨y, 0, none⟩ v0).setCell ⟨y, 1, none⟩ v1) := (hb.out.setCell hy _).setCell hy _

/-- Of bytes in two pieces. -/
theorem pieces {bad : Bool} {fb b : List UInt8} {k : Nat} {ps1 ps : List (List UInt8)} {left1 left : List UInt8} {g e : Int} (h1 : feedX bad (fb ++ b.take k) = (ps1, left1, g)) (h : feedX bad (fb ++ b) = (ps, left, e)) :
    (g ≠ 0 → e = g ∧ ps = ps1) ∧ (g = 0 → bad = false ∧ ∃ ps2, ps = ps1 ++ ps2 ∧ feedX false (left1 ++ b.drop k) = (ps2, left, e)) := by
  cases bad with
  | true =>
    rw [feedX_true] at h1 h
    injection h1 with a1 a2
    injection a2 with a2 a3
    injection h with b1 b2
    injection b2 with b2 b3
    subst a1; subst a2; subst a3; subst b1; subst b2; subst b3
    exact ⟨fun _ => ⟨rfl, rfl⟩, fun h => by simp at h⟩
  | false =>
    rw [feedX_false] at h1 h ⊢
    have hs : fb ++ b = (fb ++ b.take k) ++ b.drop k := by rw [List.append_assoc, List.take_append_drop]
    rw [hs, feedF_append, h1] at h
    refine ⟨fun hg => ?_, fun hg => ?_⟩
    · rw [if_pos hg] at h
      injection h with b1 b2
      injection b2 with b2 b3
      exact ⟨b3.symm, b1.symm⟩
    · subst hg
      rw [if_neg (by simp)] at h
      injection h with b1 b2
      exact ⟨rfl, _, b1.symm, Prod.ext rfl b2⟩
end Go.Proofs.Ytmbnjaahiopanaa
