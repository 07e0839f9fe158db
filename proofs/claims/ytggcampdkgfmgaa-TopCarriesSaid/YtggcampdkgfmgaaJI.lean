import Derived.Test.YtggcampdkgfmgaaJH
import Derived.Deep.RegionHeld3
import Derived.Lib.AppendZeros
namespace Go.Proofs.Ytggcampdkgfmgaa.L13
open Go.RowKit

/-! The program's Used and Flat. -/
end Go.Proofs.Ytggcampdkgfmgaa.L13
namespace Go.Proofs.Ytggcampdkgfmgaa.L13
open Go.RowKit

/-! The program's copies: of bytes, of lines. -/
end Go.Proofs.Ytggcampdkgfmgaa.L13
namespace Go.Proofs.Ytggcampdkgfmgaa.L13
open Go.RowKit

/-! slices.Grow of nothing, slices.Concat: of lines. -/
theorem zerosL_size (n : Nat) : (Builtin.zeroCells (Value.agg #[.slice none 0 0, .bool false]).cells n).size = n * 2 := by
  simp [Builtin.zeroCells, Value.cells]
/-- A slice of lines, as one of several. -/
structure Sr where
  A : Option Addr
  c : Nat
  rs : List Rc
def Sr.v (s : Sr) : Value := .slice s.A s.rs.length s.c
def catR (ls : List Sr) : List Rc := (ls.map (·.rs)).flatten
theorem catR_snoc (ls : List Sr) (k : Nat) (h : k < ls.length) : catR (ls.take (k + 1)) = catR (ls.take k) ++ ls[k].rs := by
  unfold catR
  rw [take_snoc _ _ h, List.map_append, List.flatten_append]
  simp
theorem catR_le (ls : List Sr) (k : Nat) : (catR (ls.take k)).length ≤ (catR ls).length := by
  have e : catR ls = catR (ls.take k) ++ catR (ls.drop k) := by
    unfold catR
    conv => lhs; rw [← List.take_append_drop k ls, List.map_append, List.flatten_append]
  rw [e, List.length_append]
  omega
theorem catR_text {ls : List Sr} {w : World} {B : Nat} (ht : ∀ s ∈ ls, LnV w B s.A s.c s.rs) {k : Nat} : ∀ r ∈ catR (ls.take k), SlB w B r.A r.c r.bs := by
  intro r hr
  unfold catR at hr
  simp only [List.mem_flatten, List.mem_map] at hr
  obtain ⟨_, ⟨s, hs, rfl⟩, hr⟩ := hr
  exact (ht s (List.mem_of_mem_take hs)).text r hr
end Go.Proofs.Ytggcampdkgfmgaa.L13
namespace Go.Proofs.Ytggcampdkgfmgaa.L13
open Go.RowKit

theorem bx30 {ops : Array Oper} {rest : List Oper} {o : Oper} {a : Act} {w : World} {Q : Exit → Act → World → Prop} (hw : Region.wanted o (yielded ops a.tmps) = true) (x : Operand) (ho : o.op = .box 131 x) (c0 c1 : Value) (hx : a.eval x = .agg #[c0, c1])
    (h : Hid (Box (w.alloc (.cells #[c0, c1] 131)) w.heap.size 131 #[c0, c1]) → wpList Try.prog ops Q rest (a.put o.dst (.pointer (some ⟨w.heap.size, 0, none⟩))) (w.alloc (.cells #[c0, c1] 131))) : wpList Try.prog ops Q (o :: rest) a w :=
  BigFrame.wpList_want hw fun _ hK => by
    have hr : (Instr.box 131 (.agg #[c0, c1])).run Try.prog w = .ok (.pointer (some ⟨w.heap.size, 0, none⟩)) (w.alloc (.cells #[c0, c1] 131)) := by
      simp [Instr.box, newVar, newRow, Value.cells]
    unfold Oper.wp execOp
    simp only [ho, hx, Sem.run_bind, hr, Result.andThen_ok]
    exact hK _ _ (h (hid (Box.new w 131 _)))
/-- A variable of a line takes another one. -/
theorem two_st {u : World} {g B : Nat} {a b : Value} (h : Box u g 131 #[a, b]) (hB : B ≤ g) (v v2 : Value) : Box ((u.setCell ⟨g, 0, none⟩ v).setCell ⟨g, 1, none⟩ v2) g 131 #[v, v2] ∧ Kept B [131] u ((u.setCell ⟨g, 0, none⟩ v).setCell ⟨g, 1, none⟩ v2) := by
  have h1 := h.store 0 v
  have h2 := h1.store 1 v2
  exact ⟨by simpa using h2, ((Kept.refl B [131] u).store h hB (by simp) v).store h1 hB (by simp) v2⟩
theorem cut_fin {w u u5 : World} {g1 m q c5 c2 : Nat} {A5 A2 : Option Addr} {a b : Value} {bs bt : List UInt8} {v : Bool} (K0 : Hid (Below w.heap.size w u)) (b5 : Below u.heap.size u u5) (Z5 : Box u5 g1 131 #[a, b]) (hB : w.heap.size ≤ g1) (o5 : Hid (u5.ownsRow u.drew.heap.size 5 1 (.slice A5 m c5) m (bv bs))) (HS2 : Hid (SlB w w.heap.size A2 c2 bt)) :
    ∃ y, (u5.setCell ⟨g1, 0, none⟩ (.slice A2 q c2)).setCell ⟨g1, 1, none⟩ (.bool v) = y ∧ y.cell? ⟨g1, 0, none⟩ = some (.slice A2 q c2) ∧ y.cell? ⟨g1, 1, none⟩ = some (.bool v) ∧ Hid (y.ownsRow w.heap.size 5 1 (.slice A5 m c5) m (bv bs)) ∧ Hid (SlB y y.heap.size A2 c2 bt) ∧ Hid (Below w.heap.size w y) := by
  obtain ⟨h1, h2⟩ := two_st Z5 hB (.slice A2 q c2) (.bool v)
  have hw5 : Below w.heap.size w u5 := (bel_t K0 b5).out
  have hy : Below w.heap.size w ((u5.setCell ⟨g1, 0, none⟩ (.slice A2 q c2)).setCell ⟨g1, 1, none⟩ (.bool v)) := hw5.trans (h2.below hw5.size)
  exact ⟨_, rfl, h1.cell 0, h1.cell 1, hid (own_mono (h2.own o5.out (by decide)) K0.out.size), slb_up HS2 hy, hid hy⟩
/-- What a line's cut answers. -/
def RetC (w : World) (x m : Nat) (bs : List UInt8) (b : Bool) (e' : Ending) (w' : World) : Prop := ∃ A1 c1 A2 c2, e' = .returned (.tuple #[.slice A1 m c1, .agg #[.slice A2 (x - m) c2, .bool b]]) ∧ Hid (w'.ownsRow w.heap.size 5 1 (.slice A1 m c1) m (bv (bs.take m))) ∧ Hid (SlB w' w'.heap.size A2 c2 (bs.drop m)) ∧ Hid (Below w.heap.size w w')
end Go.Proofs.Ytggcampdkgfmgaa.L13
namespace Go.Proofs.Ytggcampdkgfmgaa.L13
open Go.RowKit

/-! The program's Put and Read. -/
theorem LnN.lnF {w : World} {base n c : Nat} {A : Option Addr} {rs : List Rc} (h : LnN w base 131 A n c rs) : LnF w base A c rs := by
  refine ⟨h.ln, fun hne => ?_, fun r hr hne => ?_⟩
  · obtain ⟨g, cs, h1, h2, h3⟩ := own_addr h.row (by rw [← h.len]; exact List.length_pos_iff.2 hne)
    exact ⟨g, 0, cs, h1, h2, h3⟩
  · obtain ⟨g, cs, h1, h2, h3⟩ := own_addr (h.text r hr) (List.length_pos_iff.2 hne)
    exact ⟨g, 0, cs, h1, h2, h3⟩
theorem lnF_nil (w : World) (base : Nat) : LnF w base none 0 [] := ⟨(LnO.nil w 0 0).ln, fun h => absurd rfl h, fun r hr => by cases hr⟩
theorem lies_rows (W : World) (g2 : Nat) (hg : g2 = W.heap.size) (s1 s2 : Sr) (v1 v2 : Value) (h1 : s1.v = v1) (h2 : s2.v = v2) : Lies (W.alloc (.cells #[v1, v2] 84)) (W.alloc (.cells #[v1, v2] 84)).heap.size (some ⟨g2, 0, none⟩) ([s1, s2].map Sr.v) := by
  subst hg h1 h2
  have h := lies_lit W #[s1.v, s2.v] 84
  have e : (W.alloc (.cells #[s1.v, s2.v] 84)).heap.size = W.heap.size + 1 := by simp
  rw [e]
  exact h
theorem catR_two (s1 s2 : Sr) : catR [s1, s2] = s1.rs ++ s2.rs := by simp [catR]
theorem rows_ln {W : World} {s1 s2 : Sr} (h1 : LnV W W.heap.size s1.A s1.c s1.rs) (h2 : LnV W W.heap.size s2.A s2.c s2.rs) : ∀ s ∈ [s1, s2], LnV W W.heap.size s.A s.c s.rs := by
  intro s hs
  rcases List.mem_cons.1 hs with rfl | hs
  · exact h1
  · obtain rfl := List.mem_singleton.1 hs
    exact h2
theorem ln_litq {W : World} {g q : Nat} {x : Rc} (hq : x.bs.length = q) (hb : Box W g 131 #[.slice x.A q x.c, .bool x.e]) (hx : SlB W W.heap.size x.A x.c x.bs) : LnV W W.heap.size (some ⟨g, 0, none⟩) 1 [x] := by
  subst hq
  exact ln_lit hb hx
end Go.Proofs.Ytggcampdkgfmgaa.L13
namespace Go.Proofs.Ytggcampdkgfmgaa.L13
open Go.RowKit

theorem run_tailp (a : Addr) (n c : Nat) (hn : 1 ≤ n) (_hc : n ≤ c) (W : World) : (Instr.sliceAt 84 (.slice (some a) n c) (some (.int .i64 1)) none none).run Try.prog W = .ok (.slice (some (if c = 1 then a else a.add 2)) (n - 1) (c - 1)) W := by
  have hni : (1 : Int) ≤ (n : Int) := by omega
  by_cases hc1 : c = 1
  · simp [Instr.sliceAt, Instr.slice, go_sem, hni, hc1]
  · simp [Instr.sliceAt, Instr.slice, go_sem, hni, hc1]
theorem own_new {w w' : World} {base b0 n c : Nat} {A : Option Addr} {bs : List UInt8} (h : w.ownsRow b0 5 1 (.slice A n c) n (bv bs)) (hb : base ≤ b0) (hn : bs.length = n) (k : Below w.heap.size w w') : NewB w' base A bs := fun hne => by
  obtain ⟨g, cs, h1, h2, h3⟩ := own_addr h (by rw [← hn]; exact List.length_pos_iff.2 hne)
  exact ⟨g, 0, cs, h1, Nat.le_trans hb h2, box_below h3 k⟩
end Go.Proofs.Ytggcampdkgfmgaa.L13
