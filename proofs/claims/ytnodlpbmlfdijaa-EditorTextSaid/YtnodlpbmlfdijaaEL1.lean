import Derived.Test.YtnodlpbmlfdijaaEJ
import Derived.Lib.ConvBytes
import Derived.Lib.OthersKept
import Derived.Laws.Cover4
namespace Go.Proofs.Ytnodlpbmlfdijaa
open Go.RowKit

def sb (s : ByteArray) : List UInt8 := s.data.toList
theorem sb_len (s : ByteArray) : (sb s).length = s.size := Array.length_toList
/-- A row of bytes, whoever made it. -/
structure Bw (w : World) (A : Option Addr) (n c : Nat) (bs : List UInt8) : Prop where
  len : bs.length = n
  cap : n ≤ c ∧ c ≤ maxLen
  row : ∃ (g : Nat) (cs : Array Value) (fr : Nat × Nat), A = some ⟨g, 0, none⟩ ∧ w.heap[g]? = some (.cells cs 5 fr) ∧ ∀ (j : Nat) (u : Value), (bv bs)[j]? = some u → cs[j]? = some u
theorem Bw.slb {w : World} {A : Option Addr} {n c : Nat} {bs : List UInt8} (h : Bw w A n c bs) : SlB w w.heap.size A c bs := by
  obtain ⟨g, cs, fr, rfl, hg, hc⟩ := h.row
  refine ⟨by have := h.cap.1; rw [h.len]; exact this, h.cap.2, by simp, fun _ => ⟨g, 0, rfl, (Array.getElem?_eq_some_iff.1 hg).1, fun j u hu => ?_⟩⟩
  rw [cell_of_row w g (0 + j) cs 5 fr hg, Nat.zero_add]
  exact hc j u hu
theorem Bw.same {w w' : World} {A : Option Addr} {n c : Nat} {bs : List UInt8} (h : Bw w A n c bs) (k : ∀ (g : Nat) (cs : Array Value) (fr : Nat × Nat), w.heap[g]? = some (.cells cs 5 fr) → w'.heap[g]? = some (.cells cs 5 fr)) : Bw w' A n c bs := by
  obtain ⟨g, cs, fr, hA, hg, hc⟩ := h.row
  exact ⟨h.len, h.cap, g, cs, fr, hA, k g cs fr hg, hc⟩
theorem Bw.below {w w' : World} {A : Option Addr} {n c : Nat} {bs : List UInt8} (h : Bw w A n c bs) (k : Below w.heap.size w w') : Bw w' A n c bs := h.same fun g _ _ hg => (k.block g (Array.getElem?_eq_some_iff.1 hg).1).trans hg
theorem Bw.kept {w w' : World} {B : Nat} {A : Option Addr} {n c : Nat} {bs : List UInt8} (h : Bw w A n c bs) (k : Kept B [27] w w') : Bw w' A n c bs := h.same fun g cs fr hg => (k.block g (Array.getElem?_eq_some_iff.1 hg).1 (.inr fun cs' t fr' e => by rw [hg] at e; injection e with e; injection e with _ e; subst e; decide)).trans hg
theorem bel_conv (w : World) (s : ByteArray) : Below w.heap.size w (Lib.bytesWorld w 5 s) :=
  ⟨rfl, rfl, rfl, by rw [Lib.bytesWorld_size]; omega, fun b hb => Lib.bytesWorld_at_old w 5 s b hb⟩
/-- A text as bytes. -/
theorem conv_ex (w : World) (s : ByteArray) (hs : s.size ≤ 1000000) : ∃ cp w3, (convert 9 27 (.string s)).run Try.prog w = .ok (.slice (some ⟨w.heap.size, 0, none⟩) s.size cp) w3 ∧ Hid (Bw w3 (some ⟨w.heap.size, 0, none⟩) s.size cp (sb s)) ∧ Hid (Below w.heap.size w w3) := by
  refine ⟨_, _, Lib.run_convert_string_bytes (P := Try.prog) w 9 27 5 s Try.underlying9 Try.underlying27 Try.underlying5, hid ⟨sb_len s, ⟨grownCap_ge w s.size 0 5, grownCap_le_maxLen w s.size 0 5 (by unfold maxLen; omega)⟩, w.heap.size, _, _, rfl, Lib.bytesWorld_at_new w 5 s, fun j u hu => ?_⟩, hid (bel_conv w s)⟩
  have hj : j < s.size := by
    have := (List.getElem?_eq_some_iff.1 hu).1
    rw [bv_length, sb_len] at this
    exact this
  have h2 := Lib.bytesWorld_cell w 5 s j hj
  rw [cell_of_row _ _ j _ _ _ (Lib.bytesWorld_at_new w 5 s)] at h2
  rw [h2, ← hu]
  have hj2 : j < s.data.size := hj
  simp [bv, sb, List.getD, Array.getElem?_eq_getElem hj2]
/-- Rows of bytes, each in a cell of a list. -/
def CVW (w : World) (ps : List (List UInt8)) (cs : List Value) : Prop := cs.length = ps.length ∧ ∀ k (h : k < ps.length), ∃ A c, cs[k]? = some (.slice A ps[k].length c) ∧ Bw w A ps[k].length c ps[k]
theorem CVW.same {w w' : World} {ps : List (List UInt8)} {cs : List Value} (h : CVW w ps cs) (k : ∀ {A n c bs}, Bw w A n c bs → Bw w' A n c bs) : CVW w' ps cs := ⟨h.1, fun i hi => by obtain ⟨A, c, h1, h2⟩ := h.2 i hi; exact ⟨A, c, h1, k h2⟩⟩
theorem CVW.snoc {w : World} {ps : List (List UInt8)} {cs : List Value} {p : List UInt8} {A : Option Addr} {c n : Nat} (h : CVW w ps cs) (ho : Bw w A n c p) : CVW w (ps ++ [p]) (cs ++ [.slice A n c]) := by
  obtain rfl := ho.len
  refine ⟨by simp [h.1], fun k hk => ?_⟩
  by_cases hlt : k < ps.length
  · obtain ⟨A', c', h1, h2⟩ := h.2 k hlt
    refine ⟨A', c', ?_, ?_⟩
    · rw [List.getElem?_append_left (by rw [h.1]; exact hlt), List.getElem_append_left hlt]; exact h1
    · rw [List.getElem_append_left hlt]; exact h2
  · have hk' : k = ps.length := by simp at hk; omega
    subst hk'
    refine ⟨A, c, ?_, ?_⟩
    · rw [List.getElem_append_right (Nat.le_refl _)]
      rw [List.getElem?_append_right (by rw [h.1]; exact Nat.le_refl _), h.1]
      simp
    · rw [List.getElem_append_right (Nat.le_refl _)]
      simpa using ho
theorem CVW.lis {w : World} {base k lc : Nat} {LA : Option Addr} {ps : List (List UInt8)} {cs : List Value} (h : CVW w ps cs) (ho : w.ownsRow base 27 1 (.slice LA k lc) k cs) : LisV w w.heap.size LA ps :=
  lisV_own ho ⟨h.1, fun k hk => by obtain ⟨A, c, h1, h2⟩ := h.2 k hk; exact ⟨A, c, h1, h2.slb⟩⟩
/-- A text whose first runes have been told. -/
structure TxS (w wr : World) (s : ByteArray) (pos k lc : Nat) (LA : Option Addr) (cs : List Value) (ps : List (List UInt8)) (t : Tm) (g : Nat) : Prop where
  len : ps.length = k
  flat : ps.flatten = (sb s).take pos
  chunk : ∀ x ∈ ps, chunkP x
  own : wr.ownsRow w.heap.size 27 1 (.slice LA k lc) k cs
  rows : CVW wr ps cs
  bel : Below w.heap.size w wr
  box : Box wr w.heap.size 26 t.cs
  it : wr.heap[g]? = some (.stringIter s pos)
theorem cells_iter {w : World} {g b : Nat} {s : ByteArray} {p p2 : Nat} {cs : Array Value} {t : TypeId} {fr : Nat × Nat} (h : w.heap[g]? = some (.stringIter s p)) (hb : w.heap[b]? = some (.cells cs t fr)) : (w.iterAt g s p2).heap[b]? = some (.cells cs t fr) := by
  rw [Lib.iterAt_other]
  · exact hb
  · rintro rfl
    rw [h] at hb
    cases hb
theorem own_cells {w w' : World} {base : Nat} {e : TypeId} {size n : Nat} {v : Value} {xs : List Value} (h : w.ownsRow base e size v n xs) (k : ∀ (g : Nat) (cs : Array Value), w.heap[g]? = some (.cells cs e (0, 0)) → w'.heap[g]? = some (.cells cs e (0, 0))) : w'.ownsRow base e size v n xs := by
  refine ⟨h.1, ?_⟩
  rcases h.2 with hn | ⟨g, cap, cur, rfl, hb, hgg, rest⟩
  · exact .inl hn
  · exact .inr ⟨g, cap, cur, rfl, hb, k g cur hgg, rest⟩
/-- The iterator goes on, and the bytes of the rune are laid. -/
theorem TxS.next {w wr W3 : World} {s : ByteArray} {pos k lc q : Nat} {LA : Option Addr} {cs : List Value} {ps : List (List UInt8)} {t : Tm} {g : Nat} (h : TxS w wr s pos k lc LA cs ps t g) (hg : w.heap.size ≤ g) (hb : Below wr.heap.size (wr.iterAt g s (pos + q)) W3) :
    W3.ownsRow w.heap.size 27 1 (.slice LA k lc) k cs ∧ CVW W3 ps cs ∧ Below w.heap.size w W3 ∧ Box W3 w.heap.size 26 t.cs ∧ W3.heap[g]? = some (.stringIter s (pos + q)) := by
  have hsz : (wr.iterAt g s (pos + q)).heap.size = wr.heap.size := Lib.iterAt_size _ _ _ _
  have hc : ∀ (b : Nat) (o : Obj), (wr.iterAt g s (pos + q)).heap[b]? = some o → W3.heap[b]? = some o := fun b o e => (hb.block b (by have := (Array.getElem?_eq_some_iff.1 e).1; rw [hsz] at this; exact this)).trans e
  refine ⟨own_cells h.own fun b cs e => hc b _ (cells_iter h.it e), h.rows.same fun e => e.same fun b cs fr e => hc b _ (cells_iter h.it e), (Lib.below_iterAt h.bel hg s _).trans (hb.mono h.bel.size), ?_, hc g _ (Lib.iterAt_heap wr g s pos _ h.it)⟩
  exact hc _ _ (cells_iter h.it h.box)
/-- A row is put behind a list of the call's own, whoever made the row. -/
theorem app_listw {ops : Array Oper} {rest : List Oper} {o : Oper} {a : Act} {Q : Exit → Act → World → Prop} (W : World) (hgd : o.guard = none) (x y : Operand) (ho : o.op = .call { callee := .builtin .append, args := #[x, y], argTypes := #[33, 33] })
    (w : World) (s : ByteArray) (p2 k lc : Nat) (LA : Option Addr) (cs : List Value) (ps : List (List UInt8)) (t : Tm) (it : Nat) (hs : a.eval x = .slice LA k lc) (hS : Hid (W.ownsRow w.heap.size 27 1 (.slice LA k lc) k cs ∧ CVW W ps cs ∧ Below w.heap.size w W ∧ Box W w.heap.size 26 t.cs ∧ W.heap[it]? = some (.stringIter s p2))) (g : Nat) (hg : g = W.heap.size) (hx : a.eval y = .slice (some ⟨g, 0, none⟩) 1 1)
    (A : Option Addr) (n c : Nat) (p : List UInt8) (hp : Hid (Bw W A n c p)) (hl : Hid (ps.length = k)) (hf : Hid ((ps ++ [p]).flatten = (sb s).take p2)) (hch : Hid (∀ x ∈ ps ++ [p], chunkP x)) (hk : k ≤ 1000000)
    (h : ∀ A' c' cs' u2, Hid (TxS w u2 s p2 (k + 1) c' A' cs' (ps ++ [p]) t it) → wpList Try.prog ops Q rest (a.put o.dst (.slice A' (k + 1) c')) u2) :
    wpList Try.prog ops Q (o :: rest) a (W.alloc (.cells #[.slice A n c] 27)) := by
  subst hg
  obtain ⟨h1, h2, h3, h4, h5⟩ := hS.out
  obtain ⟨i1, hi1, hz10, hz11, hz12⟩ := info_parts Try.info22
  have ka : Kept w.heap.size [27] W (W.alloc (.cells #[.slice A n c] 27)) := (Kept.refl _ _ _).alloc _
  have ho1 := own_keep h1 ((Below.refl _ W).alloc (Nat.le_refl _) (.cells #[.slice A n c] 27))
  refine wpList_app _ hgd x y 33 ho w.heap.size 27 i1 _ 1 24 Try.underlying33 hi1 hz10 hz11 hz12 rfl (by decide) LA k lc cs hs ho1 (W.heap.size + 1) (some ⟨W.heap.size, 0, none⟩) 1 1 [.slice A n c] hx rfl (lies_lit W #[.slice A n c] 27) (by intro u hu; simp at hu; subst hu; rfl) (by unfold maxLen; omega) (by omega) (by have := h3.size; simp; omega) ?_
  intro A' c' u2 ho2 hg2
  have k2 : Kept w.heap.size [27] W u2 := ka.grown hg2 (fun j hj => by obtain ⟨a, cs, b⟩ := own_box ho1 j hj; exact ⟨a, 27, cs, by simp, b⟩)
  have hit : u2.heap[it]? = some (.stringIter s p2) := by
    have hlt := (Array.getElem?_eq_some_iff.1 h5).1
    refine (k2.block it hlt (.inr fun cs t fr e => ?_)).trans h5
    rw [h5] at e
    cases e
  exact h A' c' _ u2 (hid ⟨by simp [hl.out], hf.out, hch.out, ho2, (h2.snoc hp.out).same fun e => e.kept k2, h3.trans (k2.below h3.size), k2.box h4 (by decide), hit⟩)
end Go.Proofs.Ytnodlpbmlfdijaa
