import Derived.Test.YteeienmigoebmaaGreatDoorPSG
import Derived.Deep.WholeRow
import Derived.Laws.EntriesVeiled
import Derived.Test.YteeienmigoebmaaGreatDoorSGK
import Derived.Test.YteeienmigoebmaaGreatDoorPRH
namespace Go.Proofs.YteeienmigoebmaaGreatDoor
namespace L19
open Go.RowKit L18

/-! Layer 19, the program's side: the table of rows. -/
def mayL : List Nat := [0, 33, 34, 34, 35, 36, 36, 37, 38, 39, 40, 41, 42, 43, 44, 45, 40]
def tailN (n : Int) : List Value := [.func (.func 58) #[.int .i64 n] #[], .func (.func 59) #[.int .i64 n] #[], .func (.func 60) #[.int .i64 n] #[]]
def tailQ : List Value := [.func (.func 61) #[.agg #[]] #[], .func (.func 62) #[.agg #[]] #[], .func (.func 63) #[.agg #[]] #[]]
/-- What a row of the table holds. -/
def rdN (k : Nat) : Nat := if argN k = 9 then 61 else 58
def wrN (k : Nat) : Nat := if argN k = 9 then 62 else 59
def onN (k : Nat) : Nat := if argN k = 9 then 63 else 60
def myN (k : Nat) : Nat := mayL.getD k 0
def arA (k : Nat) : Array Value := if argN k = 9 then #[.agg #[]] else #[.int .i64 (argN k : Nat)]
def rowA (k : Nat) : Array Value := #[.int .i64 k, .string (bs (word k)), .func (.func (rdN k)) (arA k) #[], .func (.func (wrN k)) (arA k) #[], .func (.func (onN k)) (arA k) #[], .func (.func (myN k)) #[] #[]]
def rowsL : List Value := (List.range' 1 16).flatMap fun k => (rowA k).toList
def rowsA : Array Value := rowsL.toArray
def aggD : TypeDesc → Bool
  | .struct _ => true
  | .array _ _ => true
  | _ => false
def zrow : Array Value := #[.int .i64 0, .string ⟨#[]⟩, .nilFunc, .nilFunc, .nilFunc, .nilFunc]
def rowsZ : Array Value := ((List.replicate 16 zrow.toList).flatten).toArray
theorem rows_sz : (Tryz.prog.info? 63).map (·.size) = some rowsA.size := by kernel_rfl
theorem rows_info : (Tryz.prog.info? 63).map (fun i => (i.zero, i.size)) = some (some (.agg rowsZ), 96) := by kernel_rfl
theorem rows_96 : rowsA.size = 96 := by kernel_rfl
theorem rowsZ_96 : rowsZ.size = 96 := by kernel_rfl
theorem rows_one : rowsA.all (·.oneCell') = true := by kernel_rfl
section
variable {ops : Array Oper} {rest : List Oper} {o : Oper} {a : Act} {w : World} {Q : Exit → Act → World → Prop} {T : TypeId} {d : TypeDesc} {cs : Array Value}
/-- A whole struct or array: load, store, box. -/
theorem ldG (hu : Tryz.prog.underlying T = some d) (hd : aggD d = true) (hs : (Tryz.prog.info? T).map (·.size) = some cs.size) (hw : Region.wanted o (yielded ops a.tmps) = true) (x : Operand) (ho : o.op = .load T x) (g : Nat) (hx : a.eval x = .pointer (some ⟨g, 0, none⟩)) (E : TypeId) (hb : Hid (Box w g E cs))
    (h : wpList Tryz.prog ops Q rest (a.put o.dst (.agg cs)) w) : wpList Tryz.prog ops Q (o :: rest) a w :=
  BigFrame.wpList_want hw fun _ hK => wp_load_row T x ho g hx E cs (0, 0) d hb.out hu (by cases d <;> first | rfl | exact hd) hs (hK _ _ h)
theorem stG (hs : (Tryz.prog.info? T).map (·.size) = some cs.size) (h1 : cs.all (·.oneCell') = true) (hw : Region.wanted o (yielded ops a.tmps) = true) (x y : Operand) (ho : o.op = .store T x y) (g : Nat) (hx : a.eval x = .pointer (some ⟨g, 0, none⟩)) (hy : a.eval y = .agg cs) (E : TypeId) (old : Array Value) (hb : Hid (Box w g E old)) (hz : old.size = cs.size)
    (h : ∀ w', Hid (Box w' g E cs) → Hid (w' = w.setRow g cs) → wpList Tryz.prog ops Q rest (a.put o.dst undef) w') : wpList Tryz.prog ops Q (o :: rest) a w :=
  BigFrame.wpList_want hw fun _ hK => wp_store_row T x y ho g cs hx hy E old hb.out hs hz h1 (hK _ _ (h _ (hid (setRow_heap w g old cs E _ hb.out)) (hid rfl)))
theorem run_boxG (hs : (Tryz.prog.info? T).map (·.size) = some cs.size) (w : World) : (Instr.box T (.agg cs)).run Tryz.prog w = .ok (.pointer (some ⟨w.heap.size, 0, none⟩)) (w.alloc (.cells cs T)) := by
  cases hq : Tryz.prog.info? T with
  | none => simp [hq] at hs
  | some i => simp [hq] at hs; simp [Instr.box, newVar, newRow, Value.cells]
theorem bxG (hs : (Tryz.prog.info? T).map (·.size) = some cs.size) (hw : Region.wanted o (yielded ops a.tmps) = true) (x : Operand) (ho : o.op = .box T x) (hx : a.eval x = .agg cs)
    (h : ∀ w', Hid (Box w' w.heap.size T cs) → Hid (w' = w.alloc (.cells cs T)) → wpList Tryz.prog ops Q rest (a.put o.dst (.pointer (some ⟨w.heap.size, 0, none⟩))) w') : wpList Tryz.prog ops Q (o :: rest) a w :=
  BigFrame.wpList_want hw fun _ hK => by
    unfold Oper.wp execOp
    simp only [ho, hx, Sem.run_bind, run_boxG hs w, Result.andThen_ok]
    exact hK _ _ (h _ (hid (Box.new w T cs)) (hid rfl))
theorem wpList_built (hg : o.guard = none) (t : TypeId) (parts : Array (Nat × Operand)) (ho : o.op = .build t parts) (cells : Array Value)
    (hc : Tryz.prog.built t (parts.map fun (i, x) => (i, a.eval x)).toList = some cells) (h : wpList Tryz.prog ops Q rest (a.put o.dst (.agg cells)) w) : wpList Tryz.prog ops Q (o :: rest) a w := by
  refine wpList_build hg t parts ho (by rw [hc]; rfl) ?_
  rw [hc]
  exact h
end
theorem results_cellG {fn : Func} {tmps : Array Value} {t : TypeId} {k g : Nat} {E : TypeId} {w : World} {cs : Array Value} {d : TypeDesc} (hr : fn.results = #[.cell k t]) (hu : Tryz.prog.underlying t = some d) (hd : aggD d = true) (hs : (Tryz.prog.info? t).map (·.size) = some cs.size) (ha : tmps.getD k undef = .pointer (some ⟨g, 0, none⟩)) (hb : Box w g E cs) :
    (results fn tmps).run Tryz.prog w = .ok (.agg cs) w := by
  have ha' : tmps[k]?.getD undef = .pointer (some ⟨g, 0, none⟩) := by simpa using ha
  simp [results, hr, ha', asAddr, run_loadVar_row (P := Tryz.prog) w g E t cs (0, 0) d hb hu (by cases d <;> first | rfl | exact hd) hs]
theorem results_cellG2 {fn : Func} {tmps : Array Value} {t : TypeId} {k q g : Nat} {E : TypeId} {w : World} {cs : Array Value} {d : TypeDesc} {v : Value} (hr : fn.results = #[.cell k t, .tmp q]) (hu : Tryz.prog.underlying t = some d) (hd : aggD d = true) (hs : (Tryz.prog.info? t).map (·.size) = some cs.size) (ha : tmps.getD k undef = .pointer (some ⟨g, 0, none⟩)) (hq : tmps.getD q undef = v) (hb : Box w g E cs) :
    (results fn tmps).run Tryz.prog w = .ok (.tuple #[.agg cs, v]) w := by
  have ha' : tmps[k]?.getD undef = .pointer (some ⟨g, 0, none⟩) := by simpa using ha
  have hq' : tmps[q]?.getD undef = v := by simpa using hq
  simp [results, hr, ha', hq', asAddr, run_loadVar_row (P := Tryz.prog) w g E t cs (0, 0) d hb hu (by cases d <;> first | rfl | exact hd) hs]
set_option maxRecDepth 100000 in
set_option maxHeartbeats 4000000 in
theorem tailN_any (w : World) (n : Int) : Calls Tryz.prog 31 #[.int .i64 n] w fun e w' => e = .returned (.agg (tailN n).toArray) ∧ Hid (Below w.heap.size w w') := by
  go_enter Tryz.func31, Tryz.ntmps31
  go_wp2
  refine bodyPost_ret (v := .agg (tailN n).toArray) (results_cellG rfl Tryz.underlying58 rfl (by kernel_rfl) (by rfl) (Box.new w 58 _)) rfl ?_
  exact ⟨rfl, hid ((Below.refl _ w).alloc (Nat.le_refl _) _)⟩
set_option maxRecDepth 100000 in
set_option maxHeartbeats 4000000 in
theorem tailQ_any (w : World) : Calls Tryz.prog 32 #[.agg #[]] w fun e w' => e = .returned (.agg tailQ.toArray) ∧ Hid (Below w.heap.size w w') := by
  go_enter Tryz.func32, Tryz.ntmps32
  go_wp2
  have hx : ∀ o, Box ((w.alloc o).alloc (.cells tailQ.toArray 58)) (w.heap.size + 1) 58 tailQ.toArray := fun o => by
    have := Box.new (w.alloc o) 58 tailQ.toArray
    simpa using this
  refine bodyPost_ret (v := .agg tailQ.toArray) (results_cellG rfl Tryz.underlying58 rfl (by kernel_rfl) (by rfl) (hx _)) rfl ?_
  exact ⟨rfl, hid (((Below.refl _ w).alloc (Nat.le_refl _) _).alloc (by simp) _)⟩
theorem tailN_x {u : World} (w : World) (n : Int) (hb : Hid (Below u.heap.size u w)) : Calls Tryz.prog 31 #[.int .i64 n] w fun e w' => e = .returned (.agg #[.func (.func 58) #[.int .i64 n] #[], .func (.func 59) #[.int .i64 n] #[], .func (.func 60) #[.int .i64 n] #[]]) ∧ Hid (Below u.heap.size u w') :=
  (tailN_any w n).mono fun _ _ h => ⟨h.1, hid (hb.out.trans (h.2.out.mono hb.out.size))⟩
theorem tailQ_x {u : World} (w : World) (hb : Hid (Below u.heap.size u w)) : Calls Tryz.prog 32 #[.agg #[]] w fun e w' => e = .returned (.agg #[.func (.func 61) #[.agg #[]] #[], .func (.func 62) #[.agg #[]] #[], .func (.func 63) #[.agg #[]] #[]]) ∧ Hid (Below u.heap.size u w') :=
  (tailQ_any w).mono fun _ _ h => ⟨h.1, hid (hb.out.trans (h.2.out.mono hb.out.size))⟩
set_option maxRecDepth 100000 in
set_option maxHeartbeats 4000000 in
theorem allRows_any (w : World) : Calls Tryz.prog 18 #[] w fun e w' => e = .returned (.agg rowsA) ∧ Hid (Below w.heap.size w w') := by
  obtain ⟨hz, hi⟩ := zero_of_info rows_info
  have B0 : ∀ o, Hid (Below w.heap.size w (w.alloc o)) := fun o => hid ((Below.refl _ w).alloc (Nat.le_refl _) o)
  have X0 : Hid (Box (w.alloc (.cells rowsZ 63)) w.heap.size 63 rowsZ) := hid (Box.new w 63 _)
  have k0 := B0 (.cells rowsZ 63)
  clear hi B0
  go_enter Tryz.func18, Tryz.ntmps18
  go_upto_region 1 with fail
  generalize hu0 : w.alloc (.cells rowsZ 63) = u0 at X0 k0 ⊢
  have hg0 : w.heap.size < u0.heap.size := by rw [← hu0]; simp
  clear hu0
  have C1 := hid (Below.refl u0.heap.size u0)
  go_upto_region 2 with (first
    | (go_at_call 31
       (with_reducible refine (tailN_x _ _ C1).mono ?_)
       clear C1
       rintro e w1 ⟨rfl, C1⟩)
    | (go_at_call 32
       (with_reducible refine (tailQ_x _ C1).mono ?_)
       clear C1
       rintro e w1 ⟨rfl, C1⟩))
  have X1 := hid (box_below X0.out C1.out)
  have K1 := hid (k0.out.trans (C1.out.mono k0.out.size))
  have hg1 := Nat.lt_of_lt_of_le hg0 C1.out.size
  clear X0 k0 C1 hg0
  obtain ⟨u1, hu1⟩ : ∃ z, z = ((((w1.alloc (.cells #[.func (.func 58) #[.int .i64 0] #[], .func (.func 59) #[.int .i64 0] #[], .func (.func 60) #[.int .i64 0] #[]] 58)).alloc (.cells #[.func (.func 58) #[.int .i64 1] #[], .func (.func 59) #[.int .i64 1] #[], .func (.func 60) #[.int .i64 1] #[]] 58)).alloc (.cells #[.func (.func 58) #[.int .i64 2] #[], .func (.func 59) #[.int .i64 2] #[], .func (.func 60) #[.int .i64 2] #[]] 58)).alloc (.cells #[.func (.func 61) #[.agg #[]] #[], .func (.func 62) #[.agg #[]] #[], .func (.func 63) #[.agg #[]] #[]] 58)) := ⟨_, rfl⟩
  have K2 : Hid (Below w1.heap.size w1 u1) := hid (by rw [hu1]; repeat (first | exact Below.refl _ _ | with_reducible apply bel_a))
  have X2 := hid (box_below X1.out K2.out)
  have Y0 : Box u1 w1.heap.size 58 #[.func (.func 58) #[.int .i64 0] #[], .func (.func 59) #[.int .i64 0] #[], .func (.func 60) #[.int .i64 0] #[]] := by rw [hu1]; repeat (first | exact Box.new _ _ _ | exact box_n rfl | (refine box_below ?_ (Below.alloc (Below.refl _ _) (Nat.le_refl _) _)))
  have Y1 : Box u1 (w1.heap.size + 1) 58 #[.func (.func 58) #[.int .i64 1] #[], .func (.func 59) #[.int .i64 1] #[], .func (.func 60) #[.int .i64 1] #[]] := by rw [hu1]; repeat (first | exact box_n (by simp) | (refine box_below ?_ (Below.alloc (Below.refl _ _) (Nat.le_refl _) _)))
  have Y2 : Box u1 (w1.heap.size + 1 + 1) 58 #[.func (.func 58) #[.int .i64 2] #[], .func (.func 59) #[.int .i64 2] #[], .func (.func 60) #[.int .i64 2] #[]] := by rw [hu1]; repeat (first | exact box_n (by simp) | (refine box_below ?_ (Below.alloc (Below.refl _ _) (Nat.le_refl _) _)))
  have Y3 : Box u1 (w1.heap.size + 1 + 1 + 1) 58 #[.func (.func 61) #[.agg #[]] #[], .func (.func 62) #[.agg #[]] #[], .func (.func 63) #[.agg #[]] #[]] := by rw [hu1]; exact box_n (by simp)
  rw [← hu1]
  clear hu1
  obtain ⟨g1, e1⟩ : ∃ z, w1.heap.size + 1 = z := ⟨_, rfl⟩
  obtain ⟨g2, e2⟩ : ∃ z, w1.heap.size + 1 + 1 = z := ⟨_, rfl⟩
  obtain ⟨g3, e3⟩ : ∃ z, w1.heap.size + 1 + 1 + 1 = z := ⟨_, rfl⟩
  obtain ⟨g0, e0⟩ : ∃ z, w1.heap.size = z := ⟨_, rfl⟩
  rw [e3] at Y3
  rw [e2] at Y2
  rw [e1] at Y1
  rw [e0] at Y0
  simp only [e3]
  simp only [e2]
  simp only [e1]
  simp only [e0]
  have K9 := hid (K1.out.trans (K2.out.mono K1.out.size))
  clear e0 e1 e2 e3 K2 K1 X1 hg1
  have Y00 := Y0.cell 0; have Y01 := Y0.cell 1; have Y02 := Y0.cell 2
  have Y10 := Y1.cell 0; have Y11 := Y1.cell 1; have Y12 := Y1.cell 2
  have Y20 := Y2.cell 0; have Y21 := Y2.cell 1; have Y22 := Y2.cell 2
  have Y30 := Y3.cell 0; have Y31 := Y3.cell 1; have Y32 := Y3.cell 2
  clear Y0 Y1 Y2 Y3
  go_wp2_with (first
    | (refine wpList_built rfl 63 _ rfl rowsA ?hc ?_; case hc => kernel_rfl)
    | (refine stG rows_sz rows_one (by rfl) _ _ (by rfl) _ (by rfl) (by rfl) 63 rowsZ X2 (by kernel_rfl) ?_
       intro w9 X9 hw9))
  refine bodyPost_ret (v := .agg rowsA) (results_cellG rfl Tryz.underlying63 rfl rows_sz (by rfl) X9.out) rfl ?_
  refine ⟨rfl, hid (K9.out.trans ?_)⟩
  rw [hw9.out]
  exact ⟨rfl, rfl, rfl, Nat.le_of_eq (size_setRow _ _ _).symm, fun b hb => setRow_other _ _ b _ (by omega)⟩
end L19
end Go.Proofs.YteeienmigoebmaaGreatDoor
namespace Go.Proofs.YteeienmigoebmaaGreatDoor
namespace L19
open Go.RowKit L18

/-! Layer 19, the program's side: a kind's row, a word's row. -/
theorem rows_cut0 : rowsA.extract (0 * 6) (0 * 6 + 6) = rowA (0 + 1) := by kernel_rfl
theorem rows_cut1 : rowsA.extract (1 * 6) (1 * 6 + 6) = rowA (1 + 1) := by kernel_rfl
theorem rows_cut2 : rowsA.extract (2 * 6) (2 * 6 + 6) = rowA (2 + 1) := by kernel_rfl
theorem rows_cut3 : rowsA.extract (3 * 6) (3 * 6 + 6) = rowA (3 + 1) := by kernel_rfl
theorem rows_cut4 : rowsA.extract (4 * 6) (4 * 6 + 6) = rowA (4 + 1) := by kernel_rfl
theorem rows_cut5 : rowsA.extract (5 * 6) (5 * 6 + 6) = rowA (5 + 1) := by kernel_rfl
theorem rows_cut6 : rowsA.extract (6 * 6) (6 * 6 + 6) = rowA (6 + 1) := by kernel_rfl
theorem rows_cut7 : rowsA.extract (7 * 6) (7 * 6 + 6) = rowA (7 + 1) := by kernel_rfl
theorem rows_cut8 : rowsA.extract (8 * 6) (8 * 6 + 6) = rowA (8 + 1) := by kernel_rfl
theorem rows_cut9 : rowsA.extract (9 * 6) (9 * 6 + 6) = rowA (9 + 1) := by kernel_rfl
theorem rows_cut10 : rowsA.extract (10 * 6) (10 * 6 + 6) = rowA (10 + 1) := by kernel_rfl
theorem rows_cut11 : rowsA.extract (11 * 6) (11 * 6 + 6) = rowA (11 + 1) := by kernel_rfl
theorem rows_cut12 : rowsA.extract (12 * 6) (12 * 6 + 6) = rowA (12 + 1) := by kernel_rfl
theorem rows_cut13 : rowsA.extract (13 * 6) (13 * 6 + 6) = rowA (13 + 1) := by kernel_rfl
theorem rows_cut14 : rowsA.extract (14 * 6) (14 * 6 + 6) = rowA (14 + 1) := by kernel_rfl
theorem rows_cut15 : rowsA.extract (15 * 6) (15 * 6 + 6) = rowA (15 + 1) := by kernel_rfl
theorem rows_cut : ∀ k : Nat, k < 16 → rowsA.extract (k * 6) (k * 6 + 6) = rowA (k + 1) := by
  intro k hk
  have : k = 0 ∨ k = 1 ∨ k = 2 ∨ k = 3 ∨ k = 4 ∨ k = 5 ∨ k = 6 ∨ k = 7 ∨ k = 8 ∨ k = 9 ∨ k = 10 ∨ k = 11 ∨ k = 12 ∨ k = 13 ∨ k = 14 ∨ k = 15 := by omega
  rcases this with rfl | rfl | rfl | rfl | rfl | rfl | rfl | rfl | rfl | rfl | rfl | rfl | rfl | rfl | rfl | rfl
  · exact rows_cut0
  · exact rows_cut1
  · exact rows_cut2
  · exact rows_cut3
  · exact rows_cut4
  · exact rows_cut5
  · exact rows_cut6
  · exact rows_cut7
  · exact rows_cut8
  · exact rows_cut9
  · exact rows_cut10
  · exact rows_cut11
  · exact rows_cut12
  · exact rows_cut13
  · exact rows_cut14
  · exact rows_cut15
theorem rows_ix {k : Nat} (h : k < 16) (W : World) : (Instr.index 63 (.agg rowsA) (.int .i64 (k : Int))).run Tryz.prog W = .ok (.agg (rowA (k + 1))) W := by
  rw [run_index_agg W 63 61 16 _ 6 rowsA .i64 k Tryz.underlying63 Tryz.underlying61 rfl (by kernel_rfl) h, rows_cut k h]
theorem turn_up {u w w' : World} {cs : Array Value} {o : Obj} (h : Hid (Below u.heap.size u (w.alloc o))) (hw : Hid (w' = (w.alloc o).setRow w.heap.size cs)) (hg : u.heap.size ≤ w.heap.size) : Hid (Below u.heap.size u w') := by
  rw [hw.out]
  exact hid (h.out.trans ⟨rfl, rfl, rfl, Nat.le_of_eq (size_setRow _ _ _).symm, fun b hb => setRow_other _ _ b _ (by omega)⟩)
theorem turn_lo {u w w' : World} {g gb : Nat} {cs : Array Value} (h : Hid (Below u.heap.size u w)) (hw : Hid (w' = w.setRow g cs)) (hg : gb ≤ u.heap.size) (hgg : gb ≤ g) : Below gb u w' := by
  rw [hw.out]
  exact (h.out.mono hg).trans ⟨rfl, rfl, rfl, Nat.le_of_eq (size_setRow _ _ _).symm, fun b hb => setRow_other _ _ b _ (by omega)⟩
theorem row_sz (k : Nat) : (Tryz.prog.info? 61).map (·.size) = some (rowA k).size := by
  have : (Tryz.prog.info? 61).map (·.size) = some 6 := by kernel_rfl
  exact this
theorem row_c0 (k : Nat) : (rowA k)[0]? = some (.int .i64 ((k : Nat) : Int)) := rfl
theorem row_c1 (k : Nat) : (rowA k)[1]? = some (.string (bs (word k))) := rfl
theorem zrow_one : zrow.all (·.oneCell') = true := by simp [zrow, Value.oneCell']
theorem row_one (k : Nat) : (rowA k).all (·.oneCell') = true := by simp [rowA, Value.oneCell']
set_option maxRecDepth 100000 in
set_option maxHeartbeats 4000000 in
theorem of_any (w : World) (k : Int) : Calls Tryz.prog 47 #[.agg rowsA, .int .i64 k] w fun e w' => ((∃ j : Nat, 1 ≤ j ∧ j ≤ 16 ∧ k = (j : Int) ∧ e = .returned (.tuple #[.agg (rowA j), .bool true])) ∨ ¬ (1 ≤ k ∧ k ≤ 16) ∧ e = .returned (.tuple #[.agg zrow, .bool false])) ∧ Hid (Below w.heap.size w w') := by
  go_enter Tryz.func47, Tryz.ntmps47
  go_upto_region 1 with (first
    | (refine bxG rows_sz (by rfl) _ (by rfl) (by rfl) ?_
       intro w1 X1 hw1))
  have K1 : Hid (Below w.heap.size w w1) := hid (by rw [hw1.out]; exact (Below.refl _ w).alloc (Nat.le_refl _) _)
  have hz1 : w1.heap.size = w.heap.size + 1 := by rw [hw1.out]; simp
  clear hw1
  obtain ⟨u, hu⟩ : ∃ z, z = w1.alloc (.cells #[.int .i64 0, .string ⟨#[]⟩, .nilFunc, .nilFunc, .nilFunc, .nilFunc] 61) := ⟨_, rfl⟩
  obtain ⟨g, hg⟩ : ∃ z, w1.heap.size = z := ⟨_, rfl⟩
  obtain ⟨gb, hgb⟩ : ∃ z, w.heap.size = z := ⟨_, rfl⟩
  have X2 : Hid (Box u g 61 zrow) := hid (by rw [hu, ← hg]; exact Box.new w1 _ _)
  have K2 : Hid (Below g w1 u) := hid (by rw [hu, ← hg]; exact (Below.refl _ w1).alloc (Nat.le_refl _) _)
  rw [hgb] at X1
  have X3 : Hid (Box u gb 63 rowsA) := hid (X1.out.same (K2.out.block gb (by omega)))
  have K3 : Hid (Below gb w u) := hid (by rw [← hgb]; exact K1.out.trans (K2.out.mono (by omega)))
  rw [← hu]
  simp only [hg]
  rw [hgb]
  have hgg : gb < g := by omega
  have hgu : g < u.heap.size := X2.out.lt
  clear hu hg hz1 X1 K1 K2
  go_wp2_with (first
    | (refine ldG Tryz.underlying63 rfl rows_sz (by rfl) _ (by rfl) _ (by rfl) 63 X3 ?_))
  go_loopw [9] (fun i wr => ∃ j : Nat, j ≤ 16 ∧ i = .int .i64 (j : Int) ∧ Hid (∀ q : Nat, q < j → k ≠ ((q + 1 : Nat) : Int) ∨ True → k ≠ ((q + 1 : Nat) : Int)) ∧ Hid (Below u.heap.size u wr)) (fun i _ => 16 - (intOf i).toNat)
  case atStart => exact ⟨0, by omega, rfl, hid (fun _ h _ => absurd h (Nat.not_lt_zero _)), hid (Below.refl _ _)⟩
  case round =>
    obtain ⟨j, hj, rfl, HN, HB⟩ := hrel
    by_cases hlt : j < 16
    · have hij : (j : Int) < 16 := by omega
      have hij0 : (0 : Int) ≤ j := by omega
      have hix := rows_ix hlt
      obtain ⟨R, hR⟩ : ∃ z, rowA (j + 1) = z := ⟨_, rfl⟩
      obtain ⟨kd, hkd⟩ : ∃ z, ((j + 1 : Nat) : Int) = z := ⟨_, rfl⟩
      obtain ⟨wd, hwd⟩ : ∃ z, bs (word (j + 1)) = z := ⟨_, rfl⟩
      have HS : Hid ((Tryz.prog.info? 61).map (·.size) = some (rowA (j + 1)).size) := hid (row_sz (j + 1))
      have HO : Hid ((rowA (j + 1)).all (·.oneCell') = true) := hid (row_one (j + 1))
      have HZ : Hid (zrow.size = (rowA (j + 1)).size) := hid rfl
      have hc := row_c0 (j + 1)
      rw [hR] at hix HS HO hc HZ
      rw [hkd] at hc
      have HV := hid hR
      have HKD := hid hkd
      have HWD := hid hwd
      have X4 := hid (box_below X2.out HB.out)
      have hgr : g < wr.heap.size := X4.out.lt
      have X5 : Hid (Box (wr.alloc (.cells #[.int .i64 0, .string ⟨#[]⟩, .nilFunc, .nilFunc, .nilFunc, .nilFunc] 61)) wr.heap.size 61 zrow) := hid (Box.new wr _ _)
      have K5 : Hid (Below u.heap.size u (wr.alloc (.cells #[.int .i64 0, .string ⟨#[]⟩, .nilFunc, .nilFunc, .nilFunc, .nilFunc] 61))) := hid (HB.out.alloc HB.out.size _)
      have hu5 := HB.out.size
      clear hR hkd hwd
      by_cases hk : kd = k
      · have HK := hid hk
        have hcmp : (kd == k) = true := by simp [hk]
        go_wp2_with (first
          | (refine stG HS.out HO.out (by rfl) _ _ (by rfl) _ (by rfl) (by rfl) 61 zrow X5 HZ.out ?_
             intro w8 X8 hw8
             have y0 : w8.cell? ⟨wr.heap.size, 0, none⟩ = some (.int .i64 kd) := (X8.out.cell 0).trans hc
             have K8 := turn_up K5 hw8 hu5)
          | (refine ldG Tryz.underlying61 rfl HS.out (by rfl) _ (by rfl) _ (by rfl) 61 X8 ?_)
          | (refine stG HS.out HO.out (by rfl) _ _ (by rfl) _ (by rfl) (by rfl) 61 zrow (hid (box_below X2.out K8.out)) HZ.out ?_
             intro w9 X9 hw9))
        refine bodyPost_ret (v := .tuple #[.agg R, .bool true]) (results_cellG2 rfl Tryz.underlying61 rfl HS.out (by rfl) (by rfl) X9.out) rfl ?_
        refine ⟨.inl ⟨j + 1, by omega, by omega, by rw [← HK.out, ← HKD.out], by rw [HV.out]⟩, hid ?_⟩
        rw [hgb]
        exact K3.out.trans (turn_lo K8 hw9 (by omega) (by omega))
      · have hcmp : (kd == k) = false := by simp [hk]
        have HN2 : Hid (∀ q : Nat, q < j + 1 → k ≠ ((q + 1 : Nat) : Int) ∨ True → k ≠ ((q + 1 : Nat) : Int)) := hid fun q hq h => by
          rcases Nat.lt_or_ge q j with h1 | h1
          · exact HN.out q h1 h
          · obtain rfl : q = j := by omega
            exact fun e => hk (by rw [← HKD.out, e])
        clear hk
        go_wp2_with (first
          | (refine stG HS.out HO.out (by rfl) _ _ (by rfl) _ (by rfl) (by rfl) 61 zrow X5 HZ.out ?_
             intro w8 X8 hw8
             have y0 : w8.cell? ⟨wr.heap.size, 0, none⟩ = some (.int .i64 kd) := (X8.out.cell 0).trans hc
             have K8 := turn_up K5 hw8 hu5))
        go_roundw
        case rel => exact ⟨j + 1, by omega, by go_num, HN2, K8⟩
        case measure => simp [intOf] <;> omega
    · obtain rfl : j = 16 := by omega
      have X4 := hid (box_below X2.out HB.out)
      have hgr : g < wr.heap.size := X4.out.lt
      have HZ : Hid ((Tryz.prog.info? 61).map (·.size) = some (#[Value.int .i64 0, .string ⟨#[]⟩, .nilFunc, .nilFunc, .nilFunc, .nilFunc] : Array Value).size) := hid (row_sz 1)
      go_wp2_with (first
        | (refine stG HZ.out zrow_one (by rfl) _ _ (by rfl) _ (by rfl) (by rfl) 61 zrow X4 (by rfl) ?_
           intro w9 X9 hw9))
      refine bodyPost_ret (v := .tuple #[.agg zrow, .bool false]) (results_cellG2 rfl Tryz.underlying61 rfl HZ.out (by rfl) (by rfl) X9.out) rfl ?_
      refine ⟨.inr ⟨fun h => by
        have := HN.out (k.toNat - 1) (by omega) (.inr trivial)
        omega, rfl⟩, hid ?_⟩
      rw [hw9.out, hgb]
      refine K3.out.trans ((HB.out.mono (by omega)).trans ?_)
      exact ⟨rfl, rfl, rfl, Nat.le_of_eq (size_setRow _ _ _).symm, fun b hb => setRow_other _ _ b _ (by omega)⟩
set_option maxRecDepth 100000 in
set_option maxHeartbeats 4000000 in
theorem named_any (w : World) (s : List UInt8) : Calls Tryz.prog 74 #[.agg rowsA, .string (bs s)] w fun e w' => ((∃ j : Nat, 1 ≤ j ∧ j ≤ 16 ∧ word j = s ∧ e = .returned (.tuple #[.agg (rowA j), .bool true])) ∨ (∀ j : Nat, 1 ≤ j → j ≤ 16 → word j ≠ s) ∧ e = .returned (.tuple #[.agg zrow, .bool false])) ∧ Hid (Below w.heap.size w w') := by
  go_enter Tryz.func74, Tryz.ntmps74
  go_upto_region 1 with (first
    | (refine bxG rows_sz (by rfl) _ (by rfl) (by rfl) ?_
       intro w1 X1 hw1))
  have K1 : Hid (Below w.heap.size w w1) := hid (by rw [hw1.out]; exact (Below.refl _ w).alloc (Nat.le_refl _) _)
  have hz1 : w1.heap.size = w.heap.size + 1 := by rw [hw1.out]; simp
  clear hw1
  obtain ⟨u, hu⟩ : ∃ z, z = w1.alloc (.cells #[.int .i64 0, .string ⟨#[]⟩, .nilFunc, .nilFunc, .nilFunc, .nilFunc] 61) := ⟨_, rfl⟩
  obtain ⟨g, hg⟩ : ∃ z, w1.heap.size = z := ⟨_, rfl⟩
  obtain ⟨gb, hgb⟩ : ∃ z, w.heap.size = z := ⟨_, rfl⟩
  have X2 : Hid (Box u g 61 zrow) := hid (by rw [hu, ← hg]; exact Box.new w1 _ _)
  have K2 : Hid (Below g w1 u) := hid (by rw [hu, ← hg]; exact (Below.refl _ w1).alloc (Nat.le_refl _) _)
  rw [hgb] at X1
  have X3 : Hid (Box u gb 63 rowsA) := hid (X1.out.same (K2.out.block gb (by omega)))
  have K3 : Hid (Below gb w u) := hid (by rw [← hgb]; exact K1.out.trans (K2.out.mono (by omega)))
  rw [← hu]
  simp only [hg]
  rw [hgb]
  have hgg : gb < g := by omega
  have hgu : g < u.heap.size := X2.out.lt
  clear hu hg hz1 X1 K1 K2
  go_wp2_with (first
    | (refine ldG Tryz.underlying63 rfl rows_sz (by rfl) _ (by rfl) _ (by rfl) 63 X3 ?_))
  go_loopw [9] (fun i wr => ∃ j : Nat, j ≤ 16 ∧ i = .int .i64 (j : Int) ∧ Hid (∀ q : Nat, q < j → True → word (q + 1) ≠ s) ∧ Hid (Below u.heap.size u wr)) (fun i _ => 16 - (intOf i).toNat)
  case atStart => exact ⟨0, by omega, rfl, hid (fun _ h _ => absurd h (Nat.not_lt_zero _)), hid (Below.refl _ _)⟩
  case round =>
    obtain ⟨j, hj, rfl, HN, HB⟩ := hrel
    by_cases hlt : j < 16
    · have hij : (j : Int) < 16 := by omega
      have hij0 : (0 : Int) ≤ j := by omega
      have hix := rows_ix hlt
      obtain ⟨R, hR⟩ : ∃ z, rowA (j + 1) = z := ⟨_, rfl⟩
      obtain ⟨kd, hkd⟩ : ∃ z, ((j + 1 : Nat) : Int) = z := ⟨_, rfl⟩
      obtain ⟨wd, hwd⟩ : ∃ z, bs (word (j + 1)) = z := ⟨_, rfl⟩
      have HS : Hid ((Tryz.prog.info? 61).map (·.size) = some (rowA (j + 1)).size) := hid (row_sz (j + 1))
      have HO : Hid ((rowA (j + 1)).all (·.oneCell') = true) := hid (row_one (j + 1))
      have HZ : Hid (zrow.size = (rowA (j + 1)).size) := hid rfl
      have hc := row_c1 (j + 1)
      rw [hR] at hix HS HO hc HZ
      rw [hwd] at hc
      have HV := hid hR
      have HKD := hid hkd
      have HWD := hid hwd
      have X4 := hid (box_below X2.out HB.out)
      have hgr : g < wr.heap.size := X4.out.lt
      have X5 : Hid (Box (wr.alloc (.cells #[.int .i64 0, .string ⟨#[]⟩, .nilFunc, .nilFunc, .nilFunc, .nilFunc] 61)) wr.heap.size 61 zrow) := hid (Box.new wr _ _)
      have K5 : Hid (Below u.heap.size u (wr.alloc (.cells #[.int .i64 0, .string ⟨#[]⟩, .nilFunc, .nilFunc, .nilFunc, .nilFunc] 61))) := hid (HB.out.alloc HB.out.size _)
      have hu5 := HB.out.size
      clear hR hkd hwd
      by_cases hk : word (j + 1) = s
      · have HK := hid hk
        have hcmp : (wd.toList == (bs s).toList) = true := by rw [← HWD.out, str_eqb, hk]; simp
        go_wp2_with (first
          | (refine stG HS.out HO.out (by rfl) _ _ (by rfl) _ (by rfl) (by rfl) 61 zrow X5 HZ.out ?_
             intro w8 X8 hw8
             have y0 : w8.cell? ⟨wr.heap.size, 1, none⟩ = some (.string wd) := (X8.out.cell 1).trans hc
             have K8 := turn_up K5 hw8 hu5)
          | (refine ldG Tryz.underlying61 rfl HS.out (by rfl) _ (by rfl) _ (by rfl) 61 X8 ?_)
          | (refine stG HS.out HO.out (by rfl) _ _ (by rfl) _ (by rfl) (by rfl) 61 zrow (hid (box_below X2.out K8.out)) HZ.out ?_
             intro w9 X9 hw9))
        refine bodyPost_ret (v := .tuple #[.agg R, .bool true]) (results_cellG2 rfl Tryz.underlying61 rfl HS.out (by rfl) (by rfl) X9.out) rfl ?_
        refine ⟨.inl ⟨j + 1, by omega, by omega, HK.out, by rw [HV.out]⟩, hid ?_⟩
        rw [hgb]
        exact K3.out.trans (turn_lo K8 hw9 (by omega) (by omega))
      · have hcmp : (wd.toList == (bs s).toList) = false := by rw [← HWD.out, str_eqb]; simp [hk]
        have HN2 : Hid (∀ q : Nat, q < j + 1 → True → word (q + 1) ≠ s) := hid fun q hq h => by
          rcases Nat.lt_or_ge q j with h1 | h1
          · exact HN.out q h1 h
          · obtain rfl : q = j := by omega
            exact fun e => hk e
        clear hk
        go_wp2_with (first
          | (refine stG HS.out HO.out (by rfl) _ _ (by rfl) _ (by rfl) (by rfl) 61 zrow X5 HZ.out ?_
             intro w8 X8 hw8
             have y0 : w8.cell? ⟨wr.heap.size, 1, none⟩ = some (.string wd) := (X8.out.cell 1).trans hc
             have K8 := turn_up K5 hw8 hu5))
        go_roundw
        case rel => exact ⟨j + 1, by omega, by go_num, HN2, K8⟩
        case measure => simp [intOf] <;> omega
    · obtain rfl : j = 16 := by omega
      have X4 := hid (box_below X2.out HB.out)
      have hgr : g < wr.heap.size := X4.out.lt
      have HZ : Hid ((Tryz.prog.info? 61).map (·.size) = some (#[Value.int .i64 0, .string ⟨#[]⟩, .nilFunc, .nilFunc, .nilFunc, .nilFunc] : Array Value).size) := hid (row_sz 1)
      go_wp2_with (first
        | (refine stG HZ.out zrow_one (by rfl) _ _ (by rfl) _ (by rfl) (by rfl) 61 zrow X4 (by rfl) ?_
           intro w9 X9 hw9))
      refine bodyPost_ret (v := .tuple #[.agg zrow, .bool false]) (results_cellG2 rfl Tryz.underlying61 rfl HZ.out (by rfl) (by rfl) X9.out) rfl ?_
      refine ⟨.inr ⟨fun q h1 h2 e => HN.out (q - 1) (by omega) trivial (by rw [show q - 1 + 1 = q by omega]; exact e), rfl⟩, hid ?_⟩
      rw [hw9.out, hgb]
      refine K3.out.trans ((HB.out.mono (by omega)).trans ?_)
      exact ⟨rfl, rfl, rfl, Nat.le_of_eq (size_setRow _ _ _).symm, fun b hb => setRow_other _ _ b _ (by omega)⟩
end L19
end Go.Proofs.YteeienmigoebmaaGreatDoor
