import Derived.Test.YtdplngplljejhaaDoorQG
namespace Go.Proofs.YtdplngplljejhaaDoor
open Go.RowKit

theorem index_row0 (w : World) : (Instr.index 107 (.agg rowsV) (.int .i64 ((0 : Nat) : Int))).run Tryd.prog w = .ok (.agg Rw.pty.cells) w := by kernel_rfl
theorem index_row1 (w : World) : (Instr.index 107 (.agg rowsV) (.int .i64 ((1 : Nat) : Int))).run Tryd.prog w = .ok (.agg Rw.env.cells) w := by kernel_rfl
theorem index_row2 (w : World) : (Instr.index 107 (.agg rowsV) (.int .i64 ((2 : Nat) : Int))).run Tryd.prog w = .ok (.agg Rw.shell.cells) w := by kernel_rfl
theorem index_row3 (w : World) : (Instr.index 107 (.agg rowsV) (.int .i64 ((3 : Nat) : Int))).run Tryd.prog w = .ok (.agg Rw.exec.cells) w := by kernel_rfl
theorem index_row4 (w : World) : (Instr.index 107 (.agg rowsV) (.int .i64 ((4 : Nat) : Int))).run Tryd.prog w = .ok (.agg Rw.subsystem.cells) w := by kernel_rfl
theorem index_row5 (w : World) : (Instr.index 107 (.agg rowsV) (.int .i64 ((5 : Nat) : Int))).run Tryd.prog w = .ok (.agg Rw.change.cells) w := by kernel_rfl
theorem index_row6 (w : World) : (Instr.index 107 (.agg rowsV) (.int .i64 ((6 : Nat) : Int))).run Tryd.prog w = .ok (.agg Rw.xon.cells) w := by kernel_rfl
theorem index_row7 (w : World) : (Instr.index 107 (.agg rowsV) (.int .i64 ((7 : Nat) : Int))).run Tryd.prog w = .ok (.agg Rw.signal.cells) w := by kernel_rfl
theorem index_row8 (w : World) : (Instr.index 107 (.agg rowsV) (.int .i64 ((8 : Nat) : Int))).run Tryd.prog w = .ok (.agg Rw.status.cells) w := by kernel_rfl
theorem index_row9 (w : World) : (Instr.index 107 (.agg rowsV) (.int .i64 ((9 : Nat) : Int))).run Tryd.prog w = .ok (.agg Rw.ends.cells) w := by kernel_rfl
theorem index_row (k : Nat) (h : k < Rw.all.length) (w : World) : (Instr.index 107 (.agg rowsV) (.int .i64 k)).run Tryd.prog w = .ok (.agg Rw.all[k].cells) w := by
  have h10 : k < 10 := h
  have : k = 0 ∨ k = 1 ∨ k = 2 ∨ k = 3 ∨ k = 4 ∨ k = 5 ∨ k = 6 ∨ k = 7 ∨ k = 8 ∨ k = 9 := by omega
  rcases this with rfl | rfl | rfl | rfl | rfl | rfl | rfl | rfl | rfl | rfl
  · exact index_row0 w
  · exact index_row1 w
  · exact index_row2 w
  · exact index_row3 w
  · exact index_row4 w
  · exact index_row5 w
  · exact index_row6 w
  · exact index_row7 w
  · exact index_row8 w
  · exact index_row9 w
theorem toL_ne {a b : ByteArray} (h : ¬ a = b) : (a.toList == b.toList) = false := by
  simp only [beq_eq_false_iff_ne, ne_eq, ByteArray.toList_eq]
  intro e
  exact h (ByteArray.ext (Array.ext' e))
theorem toL_eq {a b : ByteArray} (h : a = b) : (a.toList == b.toList) = true := by rw [h]; simp
theorem wpList_index_at {P : Program} {ops : Array Oper} {rest : List Oper} {o : Oper} {a : Act} {w : World} {Q : Exit → Act → World → Prop} (hg : o.guard = none) (t : TypeId) (x y : Operand) (ho : o.op = .index t x y) (v : Value)
    (hc : (Instr.index t (a.eval x) (a.eval y)).run P w = .ok v w) (h : wpList P ops Q rest (a.put o.dst v) w) : wpList P ops Q (o :: rest) a w :=
  wpList_plain hg fun _ hK => by
    unfold Oper.wp execOp
    simp only [ho, Sem.run_bind, hc, Result.andThen_ok]
    exact hK _ _ h

def RowR (x : Option Rw) (w : World) (e : Ending) (w' : World) : Prop :=
  Below w.heap.size w w' ∧ match x with
  | none => e = .returned (.tuple #[.agg #[.int .i64 0, .string ⟨#[]⟩, .nilFunc, .nilFunc], .bool false])
  | some k => e = .returned (.tuple #[.agg #[.int .i64 k.kind, .string k.name, .func (.func k.wfn) #[] #[], .func (.func k.rfn) #[] #[]], .bool true])
theorem bel_four {w w' : World} {n : Nat} (h : Below w.heap.size w w') (hn : w.heap.size ≤ n) (a b c d : Value) :
    Below w.heap.size w ((((w'.setCell ⟨n, 0, none⟩ a).setCell ⟨n, 1, none⟩ b).setCell ⟨n, 2, none⟩ c).setCell ⟨n, 3, none⟩ d) :=
  (((h.setCell hn _).setCell hn _).setCell hn _).setCell hn _

theorem box_below' {w w' : World} {g B : Nat} {t : TypeId} {cs : Array Value} (h : Box w g t cs) (hb : Below B w w') (hB : B = w.heap.size := by rfl) : Box w' g t cs := h.same (hb.block _ (by have := h.lt; omega))
set_option maxHeartbeats 2000000 in
set_option maxRecDepth 100000 in
theorem rowOf_any (kd : Int) (w : World) (_hlo : -9223372036854775808 ≤ kd) (_hhi : kd ≤ 9223372036854775807) :
    Calls Tryd.prog 33 #[.int .i64 kd] w (RowR (rowK kd Rw.all) w) := by
  have h1 : ∀ (w : World) (a : Addr) (m : Mode) (f : Fn) (xs ys : Array Value), (store a (.func f xs ys) m).run Tryd.prog w = stored Tryd.prog w a (.func f xs ys) m := fun w a m f xs ys => run_store Tryd.prog w a _ m rfl
  have h2 : ∀ (w : World) (a : Addr) (m : Mode), (store a .nilFunc m).run Tryd.prog w = stored Tryd.prog w a .nilFunc m := fun w a m => run_store Tryd.prog w a _ m rfl
  go_enter Tryd.func33, Tryd.ntmps33
  go_wp2_with (
    go_at_call 34
    refine (rows10_any _).mono ?_
    rintro e w1 ⟨rfl, hB⟩
    have HX1 : Hid (Box w1 w.heap.size 60 #[.int .i64 0, .string ⟨#[]⟩, .nilFunc, .nilFunc]) := hid ((Box.new w 60 _).same (hB.block _ (by simp)))
    have HB : Hid (Below w.heap.size w w1) := hid (((Below.refl _ _).alloc (Nat.le_refl _) _).trans (hB.mono (by simp)))
    clear hB)
  go_loopw [7] (fun i wr => ∃ k : Nat, k ≤ 10 ∧ i = .int .i64 k ∧ Below w1.heap.size w1 wr ∧ Hid (rowK kd Rw.all = rowK kd (Rw.all.drop k))) (fun i _ => 10 - (intOf i).toNat)
  case atStart => exact ⟨0, by omega, rfl, Below.refl _ _, hid rfl⟩
  case round =>
    obtain ⟨k, hk, rfl, hbw, HP⟩ := hrel
    have HXR := hid (box_below' HX1.out hbw)
    by_cases hlt : k < 10
    · have hdrop : Rw.all.drop k = Rw.all[k]'(by exact hlt) :: Rw.all.drop (k + 1) := List.drop_eq_getElem_cons hlt
      have HD : Hid (rowK kd Rw.all = rowK kd (Rw.all[k]'(by exact hlt) :: Rw.all.drop (k + 1))) := by rw [← hdrop]; exact HP
      have HIX := hid (index_row k hlt)
      generalize hx : Rw.all[k]'(by exact hlt) = x at HD HIX
      clear hdrop hx
      have HBA := hid (fun o => ((hbw.alloc hbw.size o : Below w1.heap.size w1 (wr.alloc o))))
      have HXA := hid (fun o => box_al HXR.out o)
      have d0 : ∀ o, (wr.alloc o).cell? ⟨w.heap.size, 0, none⟩ = some (.int .i64 0) := fun o => (HXA.out o).cell 0
      have d1 : ∀ o, (wr.alloc o).cell? ⟨w.heap.size, 1, none⟩ = some (.string ⟨#[]⟩) := fun o => (HXA.out o).cell 1
      have d2 : ∀ o, (wr.alloc o).cell? ⟨w.heap.size, 2, none⟩ = some .nilFunc := fun o => (HXA.out o).cell 2
      have d3 : ∀ o, (wr.alloc o).cell? ⟨w.heap.size, 3, none⟩ = some .nilFunc := fun o => (HXA.out o).cell 3
      have f0 : ∀ o, (wr.alloc o).frozen? ⟨w.heap.size, 0, none⟩ = false := fun o => (HXA.out o).frozen 0
      have f1 : ∀ o, (wr.alloc o).frozen? ⟨w.heap.size, 1, none⟩ = false := fun o => (HXA.out o).frozen 1
      have f2 : ∀ o, (wr.alloc o).frozen? ⟨w.heap.size, 2, none⟩ = false := fun o => (HXA.out o).frozen 2
      have f3 : ∀ o, (wr.alloc o).frozen? ⟨w.heap.size, 3, none⟩ = false := fun o => (HXA.out o).frozen 3
      by_cases he : x.kind = kd
      · have HE : Hid (rowK kd Rw.all = some x) := by show _ = _; rw [HD.out]; simp [rowK, he]
        have he' : (x.kind == kd) = true := by simpa using he
        clear he
        go_wp2_with (refine wpList_index_at rfl 107 _ _ rfl (.agg #[.int .i64 x.kind, .string x.name, .func (.func x.wfn) #[] #[], .func (.func x.rfn) #[] #[]]) (HIX.out _) ?_)
        refine bodyPost_ret (v := .tuple #[.agg #[.int .i64 x.kind, .string x.name, .func (.func x.wfn) #[] #[], .func (.func x.rfn) #[] #[]], .bool true]) (by simp [results, Tryd.results33, go_sem, d0, d1, d2, d3]) rfl ?_
        rw [HE.out]
        exact ⟨bel_four (HB.out.trans ((HBA.out _).mono HB.out.size)) (Nat.le_refl _) _ _ _ _, rfl⟩
      · have HN : Hid (rowK kd Rw.all = rowK kd (Rw.all.drop (k + 1))) := by show _ = _; rw [HD.out]; simp [rowK, he]
        have hne : (x.kind == kd) = false := by simpa using he
        clear he
        go_wp2_with (refine wpList_index_at rfl 107 _ _ rfl (.agg #[.int .i64 x.kind, .string x.name, .func (.func x.wfn) #[] #[], .func (.func x.rfn) #[] #[]]) (HIX.out _) ?_)
        go_roundw
        case rel => exact ⟨k + 1, by omega, by go_num, HBA.out _, HN⟩
        case measure => simp [intOf]; omega
    · have HN : Hid (rowK kd Rw.all = none) := by
        show _ = _
        rw [HP.out, List.drop_of_length_le (by show 10 ≤ k; omega)]
        rfl
      have d0 : wr.cell? ⟨w.heap.size, 0, none⟩ = some (.int .i64 0) := HXR.out.cell 0
      have d1 : wr.cell? ⟨w.heap.size, 1, none⟩ = some (.string ⟨#[]⟩) := HXR.out.cell 1
      have d2 : wr.cell? ⟨w.heap.size, 2, none⟩ = some .nilFunc := HXR.out.cell 2
      have d3 : wr.cell? ⟨w.heap.size, 3, none⟩ = some .nilFunc := HXR.out.cell 3
      have f0 : wr.frozen? ⟨w.heap.size, 0, none⟩ = false := HXR.out.frozen 0
      have f1 : wr.frozen? ⟨w.heap.size, 1, none⟩ = false := HXR.out.frozen 1
      have f2 : wr.frozen? ⟨w.heap.size, 2, none⟩ = false := HXR.out.frozen 2
      have f3 : wr.frozen? ⟨w.heap.size, 3, none⟩ = false := HXR.out.frozen 3
      go_wp2
      refine bodyPost_ret (v := .tuple #[.agg #[.int .i64 0, .string ⟨#[]⟩, .nilFunc, .nilFunc], .bool false]) (by simp [results, Tryd.results33, go_sem, d0, d1, d2, d3]) rfl ?_
      rw [HN.out]
      exact ⟨bel_four (HB.out.trans (hbw.mono HB.out.size)) (Nat.le_refl _) _ _ _ _, rfl⟩
set_option maxHeartbeats 2000000 in
set_option maxRecDepth 100000 in
theorem rowNamed_any (nm : ByteArray) (w : World) (_hs : nm.size ≤ maxLen) :
    Calls Tryd.prog 19 #[.string nm] w (RowR (rowN nm Rw.all) w) := by
  have h1 : ∀ (w : World) (a : Addr) (m : Mode) (f : Fn) (xs ys : Array Value), (store a (.func f xs ys) m).run Tryd.prog w = stored Tryd.prog w a (.func f xs ys) m := fun w a m f xs ys => run_store Tryd.prog w a _ m rfl
  have h2 : ∀ (w : World) (a : Addr) (m : Mode), (store a .nilFunc m).run Tryd.prog w = stored Tryd.prog w a .nilFunc m := fun w a m => run_store Tryd.prog w a _ m rfl
  go_enter Tryd.func19, Tryd.ntmps19
  go_wp2_with (
    go_at_call 34
    refine (rows10_any _).mono ?_
    rintro e w1 ⟨rfl, hB⟩
    have HX1 : Hid (Box w1 w.heap.size 60 #[.int .i64 0, .string ⟨#[]⟩, .nilFunc, .nilFunc]) := hid ((Box.new w 60 _).same (hB.block _ (by simp)))
    have HB : Hid (Below w.heap.size w w1) := hid (((Below.refl _ _).alloc (Nat.le_refl _) _).trans (hB.mono (by simp)))
    clear hB)
  go_loopw [7] (fun i wr => ∃ k : Nat, k ≤ 10 ∧ i = .int .i64 k ∧ Below w1.heap.size w1 wr ∧ Hid (rowN nm Rw.all = rowN nm (Rw.all.drop k))) (fun i _ => 10 - (intOf i).toNat)
  case atStart => exact ⟨0, by omega, rfl, Below.refl _ _, hid rfl⟩
  case round =>
    obtain ⟨k, hk, rfl, hbw, HP⟩ := hrel
    have HXR := hid (box_below' HX1.out hbw)
    by_cases hlt : k < 10
    · have hdrop : Rw.all.drop k = Rw.all[k]'(by exact hlt) :: Rw.all.drop (k + 1) := List.drop_eq_getElem_cons hlt
      have HD : Hid (rowN nm Rw.all = rowN nm (Rw.all[k]'(by exact hlt) :: Rw.all.drop (k + 1))) := by rw [← hdrop]; exact HP
      have HIX := hid (index_row k hlt)
      generalize hx : Rw.all[k]'(by exact hlt) = x at HD HIX
      clear hdrop hx
      have HBA := hid (fun o => ((hbw.alloc hbw.size o : Below w1.heap.size w1 (wr.alloc o))))
      have HXA := hid (fun o => box_al HXR.out o)
      have d0 : ∀ o, (wr.alloc o).cell? ⟨w.heap.size, 0, none⟩ = some (.int .i64 0) := fun o => (HXA.out o).cell 0
      have d1 : ∀ o, (wr.alloc o).cell? ⟨w.heap.size, 1, none⟩ = some (.string ⟨#[]⟩) := fun o => (HXA.out o).cell 1
      have d2 : ∀ o, (wr.alloc o).cell? ⟨w.heap.size, 2, none⟩ = some .nilFunc := fun o => (HXA.out o).cell 2
      have d3 : ∀ o, (wr.alloc o).cell? ⟨w.heap.size, 3, none⟩ = some .nilFunc := fun o => (HXA.out o).cell 3
      have f0 : ∀ o, (wr.alloc o).frozen? ⟨w.heap.size, 0, none⟩ = false := fun o => (HXA.out o).frozen 0
      have f1 : ∀ o, (wr.alloc o).frozen? ⟨w.heap.size, 1, none⟩ = false := fun o => (HXA.out o).frozen 1
      have f2 : ∀ o, (wr.alloc o).frozen? ⟨w.heap.size, 2, none⟩ = false := fun o => (HXA.out o).frozen 2
      have f3 : ∀ o, (wr.alloc o).frozen? ⟨w.heap.size, 3, none⟩ = false := fun o => (HXA.out o).frozen 3
      by_cases he : x.name = nm
      · have HE : Hid (rowN nm Rw.all = some x) := by show _ = _; rw [HD.out]; simp [rowN, he]
        have he2 := toL_eq he
        clear he
        go_wp2_with (refine wpList_index_at rfl 107 _ _ rfl (.agg #[.int .i64 x.kind, .string x.name, .func (.func x.wfn) #[] #[], .func (.func x.rfn) #[] #[]]) (HIX.out _) ?_)
        refine bodyPost_ret (v := .tuple #[.agg #[.int .i64 x.kind, .string x.name, .func (.func x.wfn) #[] #[], .func (.func x.rfn) #[] #[]], .bool true]) (by simp [results, Tryd.results19, go_sem, d0, d1, d2, d3]) rfl ?_
        rw [HE.out]
        exact ⟨bel_four (HB.out.trans ((HBA.out _).mono HB.out.size)) (Nat.le_refl _) _ _ _ _, rfl⟩
      · have HN : Hid (rowN nm Rw.all = rowN nm (Rw.all.drop (k + 1))) := by show _ = _; rw [HD.out]; simp [rowN, he]
        have hne := toL_ne he
        clear he
        go_wp2_with (refine wpList_index_at rfl 107 _ _ rfl (.agg #[.int .i64 x.kind, .string x.name, .func (.func x.wfn) #[] #[], .func (.func x.rfn) #[] #[]]) (HIX.out _) ?_)
        go_roundw
        case rel => exact ⟨k + 1, by omega, by go_num, HBA.out _, HN⟩
        case measure => simp [intOf]; omega
    · have HN : Hid (rowN nm Rw.all = none) := by
        show _ = _
        rw [HP.out, List.drop_of_length_le (by show 10 ≤ k; omega)]
        rfl
      have d0 : wr.cell? ⟨w.heap.size, 0, none⟩ = some (.int .i64 0) := HXR.out.cell 0
      have d1 : wr.cell? ⟨w.heap.size, 1, none⟩ = some (.string ⟨#[]⟩) := HXR.out.cell 1
      have d2 : wr.cell? ⟨w.heap.size, 2, none⟩ = some .nilFunc := HXR.out.cell 2
      have d3 : wr.cell? ⟨w.heap.size, 3, none⟩ = some .nilFunc := HXR.out.cell 3
      have f0 : wr.frozen? ⟨w.heap.size, 0, none⟩ = false := HXR.out.frozen 0
      have f1 : wr.frozen? ⟨w.heap.size, 1, none⟩ = false := HXR.out.frozen 1
      have f2 : wr.frozen? ⟨w.heap.size, 2, none⟩ = false := HXR.out.frozen 2
      have f3 : wr.frozen? ⟨w.heap.size, 3, none⟩ = false := HXR.out.frozen 3
      go_wp2
      refine bodyPost_ret (v := .tuple #[.agg #[.int .i64 0, .string ⟨#[]⟩, .nilFunc, .nilFunc], .bool false]) (by simp [results, Tryd.results19, go_sem, d0, d1, d2, d3]) rfl ?_
      rw [HN.out]
      exact ⟨bel_four (HB.out.trans (hbw.mono HB.out.size)) (Nat.le_refl _) _ _ _ _, rfl⟩
end Go.Proofs.YtdplngplljejhaaDoor
