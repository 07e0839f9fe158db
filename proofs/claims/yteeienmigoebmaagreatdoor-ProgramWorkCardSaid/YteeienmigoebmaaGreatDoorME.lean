import Derived.Test.YteeienmigoebmaaGreatDoorMD
import Derived.Deep.RegionHeld3
import Derived.Deep.DrawnRows
import Derived.BigQuiet
import Derived.Deep.QuietTactic
import Derived.Deep.RegionLaw
namespace Go.Proofs.YteeienmigoebmaaGreatDoor
open Go.RowKit

/-- Nothing has turned but one block. -/
structure Turn (g : Nat) (w w' : World) : Prop where
  os : w'.os = w.os
  tape : w'.tape = w.tape
  output : w'.output = w.output
  size : w'.heap.size = w.heap.size
  block : ∀ b, b ≠ g → w'.heap[b]? = w.heap[b]?
theorem Turn.setRow (w : World) (g : Nat) (cs : Array Value) : Turn g w (w.setRow g cs) := ⟨rfl, rfl, rfl, size_setRow w g cs, fun b hb => setRow_other w g b cs hb⟩
theorem Turn.setCell (w : World) (g i : Nat) (v : Value) : Turn g w (w.setCell ⟨g, i, none⟩ v) := ⟨rfl, rfl, rfl, World.size_setCell .., fun b hb => heap_setCell_other w ⟨g, i, none⟩ b v hb⟩
theorem Turn.below {g B : Nat} {w w' : World} (h : Turn g w w') (hB : B ≤ g) : Below B w w' := ⟨h.os, h.tape, h.output, Nat.le_of_eq h.size.symm, fun b hb => h.block b (by omega)⟩
theorem Turn.box {g b : Nat} {w w' : World} {t : TypeId} {cs : Array Value} (h : Turn g w w') (hx : Box w b t cs) (hne : b ≠ g) : Box w' b t cs := hx.same (h.block b hne)
theorem Turn.drew {g : Nat} {w w' : World} (h : Turn g w w') : Turn g w w'.drew := ⟨h.os, h.tape, h.output, h.size, h.block⟩
theorem Turn.drew0 {g : Nat} {w w' : World} (h : Turn g w.drew w') : Turn g w w' := ⟨h.os, h.tape, h.output, h.size, h.block⟩

section
variable {ops : Array Oper} {rest : List Oper} {o : Oper} {a : Act} {w : World} {Q : Exit → Act → World → Prop}
/-- A whole setting is loaded. -/
theorem ld26 (hw : Region.wanted o (yielded ops a.tmps) = true) (x : Operand) (ho : o.op = .load 132 x) (g : Nat) (hx : a.eval x = .pointer (some ⟨g, 0, none⟩)) (cs : Array Value) (hb : Box w g 132 cs) (hs : cs.size = 24)
    (h : wpList Tryz.prog ops Q rest (a.put o.dst (.agg cs)) w) : wpList Tryz.prog ops Q (o :: rest) a w :=
  BigFrame.wpList_want hw fun _ hK => wp_load_row 132 x ho g hx 132 cs (0, 0) _ hb Tryz.underlying132 rfl (by rw [hs]; exact Tryz.size26) (hK _ _ h)
/-- A whole setting is stored. -/
theorem st26 (hw : Region.wanted o (yielded ops a.tmps) = true) (x y : Operand) (ho : o.op = .store 132 x y) (g : Nat) (hx : a.eval x = .pointer (some ⟨g, 0, none⟩)) (t : Tm) (ht : t.c.length = 19) (hy : a.eval y = .agg t.cs) (cs : Array Value) (hb : Box w g 132 cs) (hs : cs.size = 24)
    (h : ∀ w', Hid (Box w' g 132 t.cs) → Hid (Turn g w w') → wpList Tryz.prog ops Q rest (a.put o.dst undef) w') : wpList Tryz.prog ops Q (o :: rest) a w :=
  BigFrame.wpList_want hw fun _ hK => wp_store_row 132 x y ho g t.cs hx hy 132 cs hb (by rw [cs_size ht]; exact Tryz.size26) (by rw [hs, cs_size ht]) (cs_one t) (hK _ _ (h _ (hid (setRow_heap w g cs _ 132 _ hb)) (hid (Turn.setRow w g _))))
/-- A setting becomes a variable of its own. -/
theorem run_box26 (w : World) (cs : Array Value) (_hs : cs.size = 24) : (Instr.box 132 (.agg cs)).run Tryz.prog w = .ok (.pointer (some ⟨w.heap.size, 0, none⟩)) (w.alloc (.cells cs 132)) := by
  have h26 := Tryz.size26
  cases hq : Tryz.prog.info? 132 with
  | none => simp [hq] at h26
  | some i => simp [hq] at h26; simp [Instr.box, newVar, newRow, Value.cells]
theorem bx26 (hw : Region.wanted o (yielded ops a.tmps) = true) (x : Operand) (ho : o.op = .box 132 x) (cs : Array Value) (hx : a.eval x = .agg cs) (hs : cs.size = 24)
    (h : Hid (Box (w.alloc (.cells cs 132)) w.heap.size 132 cs) → wpList Tryz.prog ops Q rest (a.put o.dst (.pointer (some ⟨w.heap.size, 0, none⟩))) (w.alloc (.cells cs 132))) : wpList Tryz.prog ops Q (o :: rest) a w :=
  BigFrame.wpList_want hw fun _ hK => by
    unfold Oper.wp execOp
    simp only [ho, hx, Sem.run_bind, run_box26 w cs hs, Result.andThen_ok]
    exact hK _ _ (h (hid (Box.new w 132 cs)))
end
theorem and_bits {f : Nat} (hf : f < 18446744073709551616) {op : Int} (h : flagB op = true) : (bits .and .u64 (f : Int) (bitV op) != 0) = f.testBit (kb op) := by
  have h1 := pow_lt (kb_lt h)
  have h2 := has_and f (kb op)
  unfold bitV
  generalize hz : 2 ^ kb op = z0 at h1 h2 ⊢
  rw [u64_and _ _ (by omega) (by omega) (by omega) (by omega), Int.toNat_natCast, Int.toNat_natCast]
  rw [← hz] at h2 ⊢
  generalize f &&& 2 ^ kb op = z at h2 ⊢
  cases hb : f.testBit (kb op)
  · have := h2.2 hb
    subst this
    rfl
  · have : z ≠ 0 := fun e => by rw [h2.1 e] at hb; cases hb
    simp
    omega
/-- A world in which whatever was there in the other one is as it was. -/
structure Gr (u0 : World) where
  w : World
  b : Below u0.heap.size u0 w
instance (u0 : World) : Nonempty (Gr u0) := ⟨⟨u0, Below.refl _ _⟩⟩
def grw {u0 : World} (z : Gr u0) : World := z.w
theorem gr_cell {u0 : World} {g : Nat} {v : Value} {k : Nat} (z : Gr u0) (h : u0.cell? ⟨g, k, none⟩ = some v) : (grw z).cell? ⟨g, k, none⟩ = some v :=
  (z.b.cell (p := ⟨g, k, none⟩) (World.block_lt_of_cell? _ _ h)).trans h
theorem gr_box {u0 : World} {g : Nat} {t : TypeId} {cs : Array Value} (z : Gr u0) (h : Box u0 g t cs) : Box (grw z) g t cs := box_below h z.b
theorem gr_call {P : Program} {u0 : World} {z : Gr u0} {f : FuncId} {args : Array Value} {v : Value} (h : Calls P f args (grw z) fun e w' => e = .returned v ∧ Hid (Below (grw z).heap.size (grw z) w')) :
    Calls P f args (grw z) fun e w'' => e = .returned v ∧ ∃ z' : Gr u0, w'' = grw z' :=
  h.mono fun _ w' ⟨he, hk⟩ => ⟨he, ⟨w', z.b.trans (hk.out.mono z.b.size)⟩, rfl⟩
theorem gr_call0 {P : Program} {u0 : World} {z : Gr u0} {f : FuncId} {args : Array Value} {v : Value} (h : Calls P f args (grw z) fun e w' => e = .returned v ∧ w' = grw z) :
    Calls P f args (grw z) fun e w'' => e = .returned v ∧ ∃ z' : Gr u0, w'' = grw z' :=
  h.mono fun _ _ ⟨he, hk⟩ => ⟨he, z, hk⟩
theorem wp_region_grown {P : Program} {id : Nat} {Q : Exit → Act → World → Prop} {a : Act} {w : World} {l : List Oper} (hm : P.follows .mixedOrders = true) (hB : Region.lexB .any l.toArray = true)
    (h : wpQuiet P l.toArray (fun w' => ∃ z : Gr w, w' = grw z) (fun a' => ∀ z : Gr w, Q .normal a' (grw z)) l a) : (Code.region id l.toArray true).wp P Q a w :=
  wp_region_quiet (C := fun w' => ∃ z : Gr w, w' = grw z) hm hB ⟨⟨w.drew, rfl, rfl, rfl, Nat.le_refl _, fun _ _ => rfl⟩, rfl⟩ (by
    have e : (fun a' => ∀ w', (∃ z : Gr w, w' = grw z) → Q .normal a' w') = (fun a' => ∀ z : Gr w, Q .normal a' (grw z)) := by
      funext a'
      exact propext ⟨fun h z => h _ ⟨z, rfl⟩, fun h w' ⟨z, e⟩ => e ▸ h z⟩
    simpa [e] using h)
section
variable {u0 : World} {o : Oper} {a : Act} {K : Act → Prop}
theorem q_ld26 (x : Operand) (ho : o.op = .load 132 x) (g : Nat) (hx : a.eval x = .pointer (some ⟨g, 0, none⟩)) (cs : Array Value) (hb : Hid (Box u0 g 132 cs)) (hs : cs.size = 24) (h : K (a.put o.dst (.agg cs))) :
    o.quiet Tryz.prog a (fun w' => ∃ z : Gr u0, w' = grw z) K :=
  ⟨_, fun w ⟨z, e⟩ => by
    subst e
    unfold Oper.quietAt execOp
    simp only [ho, hx, Instr.loadAt, Instr.sureAddr, Sem.run_bind, Sem.run_pure, Result.andThen_ok, run_loadVar_row (P := Tryz.prog) (grw z) g 132 132 cs (0, 0) _ (gr_box z hb.out) Tryz.underlying132 rfl (by rw [hs]; exact Tryz.size26), Oper.quietUpon]
    exact ⟨trivial, trivial⟩, h⟩
theorem q_eq26 (x y : Operand) (r : TypeId) (ho : o.op = .binOp .eql 132 x y r) (t u : Tm) (ht : t.c.length = 19) (hu : u.c.length = 19) (hx : a.eval x = .agg t.cs) (hy : a.eval y = .agg u.cs) (b : Bool) (hb : eqT t u = b) (h : K (a.put o.dst (.bool b))) :
    o.quiet Tryz.prog a (fun w' => ∃ z : Gr u0, w' = grw z) K :=
  ⟨_, fun w _ => by
    unfold Oper.quietAt execOp
    have hm : Tryz.prog.eqGuardType Tryz.prog.depth 132 = false := by kernel_rfl
    simp only [ho, hx, hy, Sem.run_bind, run_eqGuard_agg w _ 132 _ _ _ _ hm, Result.andThen_ok, run_eql26 w t u ht hu, Oper.quietUpon]
    exact ⟨rfl, by rw [hb]⟩, h⟩
theorem q_ne26 (x y : Operand) (r : TypeId) (ho : o.op = .binOp .neq 132 x y r) (t u : Tm) (ht : t.c.length = 19) (hu : u.c.length = 19) (hx : a.eval x = .agg t.cs) (hy : a.eval y = .agg u.cs) (b : Bool) (hb : (!eqT t u) = b) (h : K (a.put o.dst (.bool b))) :
    o.quiet Tryz.prog a (fun w' => ∃ z : Gr u0, w' = grw z) K :=
  ⟨_, fun w _ => by
    unfold Oper.quietAt execOp
    have hm : Tryz.prog.eqGuardType Tryz.prog.depth 132 = false := by kernel_rfl
    simp only [ho, hx, hy, Sem.run_bind, run_eqGuard_agg w _ 132 _ _ _ _ hm, Result.andThen_ok, run_neq26 w t u ht hu, Oper.quietUpon]
    exact ⟨rfl, by rw [hb]⟩, h⟩
end
theorem q28 {u0 : World} {z : Gr u0} {op : Int} {b : Bool} (hg : flagB op = b) : Calls Tryz.prog 96 #[.int .i64 op] (grw z) fun e w'' => e = .returned (.bool b) ∧ ∃ z' : Gr u0, w'' = grw z' := by
  subst hg
  exact gr_call (isFlag_any (grw z) op)
theorem q29 {u0 : World} {z : Gr u0} {op : Int} (hg : flagB op = true) : Calls Tryz.prog 97 #[.int .i64 op] (grw z) fun e w'' => e = .returned (.int .u64 (bitV op)) ∧ ∃ z' : Gr u0, w'' = grw z' := gr_call0 (bit_any _ op hg)
set_option maxRecDepth 100000 in
set_option maxHeartbeats 1000000 in
theorem has_any (w : World) (t : Tm) (ht : t.Ok) (op : Int) : Calls Tryz.prog 84 #[.agg t.cs, .int .i64 op] w fun e w' => e = .returned (.bool (hasN t.f op)) ∧ Hid (Below w.heap.size w w') := by
  have hs := cs_size ht.len
  have H1 : Hid (Below w.heap.size w (w.alloc (.cells t.cs 132))) := hid ((Below.refl _ w).alloc (Nat.le_refl _) _)
  have c0 : ∀ z : Gr (w.alloc (.cells t.cs 132)), (grw z).cell? ⟨w.heap.size, 19, none⟩ = some (.int .u64 (t.f : Int)) := fun z => gr_cell z (((Box.new w 132 t.cs).cell 19).trans (cs_f ht.len))
  cases hg : flagB op
  · have hh : Hid (hasN t.f op = false) := hid (by simp [hasN, hg])
    go_enter Tryz.func84, Tryz.ntmps84
    go_wp2_with (refine bx26 (by rfl) _ (by rfl) _ (by rfl) hs ?_; intro _)
    refine wp_region_grown (by kernel_rfl) (by kernel_rfl) ?_
    repeat (go_big_quiet_step ((go_at_call 96; with_reducible exact q28 hg)))
    refine wpQuiet_nil ?_
    intro z
    go_wp2
    go_ret
    exact ⟨by rw [hh.out]; rfl, hid (H1.out.trans (z.b.mono H1.out.size))⟩
  · have hh : Hid (hasN t.f op = t.f.testBit (kb op)) := hid (by simp [hasN, hg])
    have ha := and_bits ht.f hg
    go_enter Tryz.func84, Tryz.ntmps84
    go_wp2_with (refine bx26 (by rfl) _ (by rfl) _ (by rfl) hs ?_; intro _)
    refine wp_region_grown (by kernel_rfl) (by kernel_rfl) ?_
    repeat (go_big_quiet_step (first | (go_at_call 96; with_reducible exact q28 hg) | (go_at_call 97; with_reducible exact q29 hg)))
    refine wpQuiet_nil ?_
    intro z
    go_wp2
    go_ret
    exact ⟨by rw [hh.out]; rfl, hid (H1.out.trans (z.b.mono H1.out.size))⟩
end Go.Proofs.YteeienmigoebmaaGreatDoor
