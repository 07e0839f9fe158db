import Derived.Test.YteeienmigoebmaaGreatDoorMF
import Derived.Deep.WholeRow
import Derived.Test.YteeienmigoebmaaGreatDoorSGF
namespace Go.Proofs.YteeienmigoebmaaGreatDoor.L18
open Go.RowKit

/-! Layer 18: what is done with signals (arrays of 32 numbers). -/
def zero32 : List Int := List.replicate 32 0
def atA (a : List Int) (g : Int) : Int := a.getD g.toNat 0
def badA (g how : Int) : Bool := !known g || fixS g || decide (how < 0) || decide (how > 2)
def actA (a : List Int) (g how : Int) : List Int := if badA g how = true then zero32 else a.set g.toNat how
def actE (g how : Int) : Int := if badA g how = true then 2 else 0
def effA (a : List Int) (g : Int) : Int := if known g = false then 0 else if fixS g = true then efS g else if atA a g = 2 then 6 else if atA a g = 1 ∧ efS g ≠ 5 then 3 else efS g
/-- The cells of an array. -/
def arr (a : List Int) : Array Value := (iv a).toArray
theorem arr_size {a : List Int} (h : a.length = 32) : (arr a).size = 32 := by simp [arr, iv, h]
theorem arr_one (a : List Int) : (arr a).all (·.oneCell') = true := Array.all_eq_true_iff_forall_mem.2 fun v hv => iv_one a v (by simpa [arr] using hv)
theorem arr_at {a : List Int} (h : a.length = 32) {g : Int} (hk : known g = true) {k : Nat} (e : g = (k : Int)) : (arr a)[k]? = some (.int .i64 (atA a g)) := by
  have := known_rng hk
  have hl : k < a.length := by omega
  subst e
  simp [arr, iv, atA, hl]
theorem arr_set (a : List Int) (k : Nat) (x : Int) : (arr a).setIfInBounds k (.int .i64 x) = arr (a.set k x) := by
  simp [arr, iv, List.map_set]
theorem zero_arr : arr zero32 = #[.int .i64 0, .int .i64 0, .int .i64 0, .int .i64 0, .int .i64 0, .int .i64 0, .int .i64 0, .int .i64 0, .int .i64 0, .int .i64 0, .int .i64 0, .int .i64 0, .int .i64 0, .int .i64 0, .int .i64 0, .int .i64 0, .int .i64 0, .int .i64 0, .int .i64 0, .int .i64 0, .int .i64 0, .int .i64 0, .int .i64 0, .int .i64 0, .int .i64 0, .int .i64 0, .int .i64 0, .int .i64 0, .int .i64 0, .int .i64 0, .int .i64 0, .int .i64 0] := rfl
theorem act_len {a : List Int} (h : a.length = 32) (g how : Int) : (actA a g how).length = 32 := by
  unfold actA
  split
  · rfl
  · simpa using h
theorem ef_five {g : Int} (hk : known g = true) : efS g = 5 ↔ g = 18 := by
  have h := known_rng hk
  have : ∀ k : Fin 29, (row k.1).2.1 = 5 ↔ k.1 = 18 := by decide
  have h2 := this ⟨g.toNat, by omega⟩
  have e : efS g = (row g.toNat).2.1 := rfl
  rw [e, h2]
  show g.toNat = 18 ↔ g = 18
  omega
theorem Tryz.size32P : (Tryz.prog.info? 109).map (·.size) = some 32 := by kernel_rfl
section
variable {ops : Array Oper} {rest : List Oper} {o : Oper} {a : Act} {w : World} {Q : Exit → Act → World → Prop}
theorem ldP (hw : Region.wanted o (yielded ops a.tmps) = true) (x : Operand) (ho : o.op = .load 109 x) (g : Nat) (hx : a.eval x = .pointer (some ⟨g, 0, none⟩)) (l : List Int) (hb : Hid (Box w g 109 (arr l))) (hs : Hid (l.length = 32))
    (h : wpList Tryz.prog ops Q rest (a.put o.dst (.agg (arr l))) w) : wpList Tryz.prog ops Q (o :: rest) a w :=
  BigFrame.wpList_want hw fun _ hK => wp_load_row 109 x ho g hx 109 (arr l) (0, 0) _ hb.out Tryz.underlying109 rfl (by rw [arr_size hs.out]; exact Tryz.size32P) (hK _ _ h)
theorem stP (hw : Region.wanted o (yielded ops a.tmps) = true) (x y : Operand) (ho : o.op = .store 109 x y) (g : Nat) (hx : a.eval x = .pointer (some ⟨g, 0, none⟩)) (l : List Int) (hl : Hid (l.length = 32)) (hy : a.eval y = .agg (arr l)) (cs : Array Value) (hb : Hid (Box w g 109 cs)) (hs : cs.size = 32)
    (h : ∀ w', Hid (Box w' g 109 (arr l)) → Hid (Turn g w w') → wpList Tryz.prog ops Q rest (a.put o.dst undef) w') : wpList Tryz.prog ops Q (o :: rest) a w :=
  BigFrame.wpList_want hw fun _ hK => wp_store_row 109 x y ho g (arr l) hx hy 109 cs hb.out (by rw [arr_size hl.out]; exact Tryz.size32P) (by rw [hs, arr_size hl.out]) (arr_one l) (hK _ _ (h _ (hid (setRow_heap w g cs _ 109 _ hb.out)) (hid (Turn.setRow w g _))))
theorem run_boxP (w : World) (cs : Array Value) : (Instr.box 109 (.agg cs)).run Tryz.prog w = .ok (.pointer (some ⟨w.heap.size, 0, none⟩)) (w.alloc (.cells cs 109)) := by
  have h26 := Tryz.size32P
  cases hq : Tryz.prog.info? 109 with
  | none => simp [hq] at h26
  | some i => simp [hq] at h26; simp [Instr.box, newVar, newRow, Value.cells]
theorem bxP (hw : Region.wanted o (yielded ops a.tmps) = true) (x : Operand) (ho : o.op = .box 109 x) (cs : Array Value) (hx : a.eval x = .agg cs)
    (h : Hid (Box (w.alloc (.cells cs 109)) w.heap.size 109 cs) → wpList Tryz.prog ops Q rest (a.put o.dst (.pointer (some ⟨w.heap.size, 0, none⟩))) (w.alloc (.cells cs 109))) : wpList Tryz.prog ops Q (o :: rest) a w :=
  BigFrame.wpList_want hw fun _ hK => by
    unfold Oper.wp execOp
    simp only [ho, hx, Sem.run_bind, run_boxP w cs, Result.andThen_ok]
    exact hK _ _ (h (hid (Box.new w 109 cs)))
end
theorem Tryz.size32R : (Tryz.prog.info? 86).map (·.size) = some 32 := by kernel_rfl
section
variable {ops : Array Oper} {rest : List Oper} {o : Oper} {a : Act} {w : World} {Q : Exit → Act → World → Prop}
theorem ldR (hw : Region.wanted o (yielded ops a.tmps) = true) (x : Operand) (ho : o.op = .load 86 x) (g : Nat) (hx : a.eval x = .pointer (some ⟨g, 0, none⟩)) (l : List Int) (hb : Hid (Box w g 86 (arr l))) (hs : Hid (l.length = 32))
    (h : wpList Tryz.prog ops Q rest (a.put o.dst (.agg (arr l))) w) : wpList Tryz.prog ops Q (o :: rest) a w :=
  BigFrame.wpList_want hw fun _ hK => wp_load_row 86 x ho g hx 86 (arr l) (0, 0) _ hb.out Tryz.underlying86 rfl (by rw [arr_size hs.out]; exact Tryz.size32R) (hK _ _ h)
theorem stR (hw : Region.wanted o (yielded ops a.tmps) = true) (x y : Operand) (ho : o.op = .store 86 x y) (g : Nat) (hx : a.eval x = .pointer (some ⟨g, 0, none⟩)) (l : List Int) (hl : Hid (l.length = 32)) (hy : a.eval y = .agg (arr l)) (cs : Array Value) (hb : Hid (Box w g 86 cs)) (hs : cs.size = 32)
    (h : ∀ w', Hid (Box w' g 86 (arr l)) → Hid (Turn g w w') → wpList Tryz.prog ops Q rest (a.put o.dst undef) w') : wpList Tryz.prog ops Q (o :: rest) a w :=
  BigFrame.wpList_want hw fun _ hK => wp_store_row 86 x y ho g (arr l) hx hy 86 cs hb.out (by rw [arr_size hl.out]; exact Tryz.size32R) (by rw [hs, arr_size hl.out]) (arr_one l) (hK _ _ (h _ (hid (setRow_heap w g cs _ 86 _ hb.out)) (hid (Turn.setRow w g _))))
theorem run_boxR (w : World) (cs : Array Value) : (Instr.box 86 (.agg cs)).run Tryz.prog w = .ok (.pointer (some ⟨w.heap.size, 0, none⟩)) (w.alloc (.cells cs 86)) := by
  have h26 := Tryz.size32R
  cases hq : Tryz.prog.info? 86 with
  | none => simp [hq] at h26
  | some i => simp [hq] at h26; simp [Instr.box, newVar, newRow, Value.cells]
theorem bxR (hw : Region.wanted o (yielded ops a.tmps) = true) (x : Operand) (ho : o.op = .box 86 x) (cs : Array Value) (hx : a.eval x = .agg cs)
    (h : Hid (Box (w.alloc (.cells cs 86)) w.heap.size 86 cs) → wpList Tryz.prog ops Q rest (a.put o.dst (.pointer (some ⟨w.heap.size, 0, none⟩))) (w.alloc (.cells cs 86))) : wpList Tryz.prog ops Q (o :: rest) a w :=
  BigFrame.wpList_want hw fun _ hK => by
    unfold Oper.wp execOp
    simp only [ho, hx, Sem.run_bind, run_boxR w cs, Result.andThen_ok]
    exact hK _ _ (h (hid (Box.new w 86 cs)))
end
end Go.Proofs.YteeienmigoebmaaGreatDoor.L18
