import Derived.Test.YteeienmigoebmaaGreatDoorMC
import Derived.Deep.WholeRow
import Derived.DeepKeys
namespace Go.Proofs.YteeienmigoebmaaGreatDoor
open Go.RowKit

/-- A terminal's setting. -/
structure Tm where
  c : List UInt8
  f : Nat
  i : Nat
  o : Nat
  m : Int
  s : Int
def i64ok (x : Int) : Prop := -9223372036854775808 ≤ x ∧ x ≤ 9223372036854775807
structure Tm.Ok (t : Tm) : Prop where
  len : t.c.length = 19
  f : t.f < 18446744073709551616
  i : t.i < 4294967296
  o : t.o < 4294967296
  m : i64ok t.m
  s : i64ok t.s
/-- Its cells. -/
def Tm.cl (t : Tm) : List Value := bv t.c ++ [.int .u64 (t.f : Int), .int .u32 (t.i : Int), .int .u32 (t.o : Int), .int .i64 t.m, .int .i64 t.s]
def Tm.cs (t : Tm) : Array Value := t.cl.toArray
section
variable {t : Tm}
theorem cl_len (h : t.c.length = 19) : t.cl.length = 24 := by simp [Tm.cl, bv, h]
theorem cs_size (h : t.c.length = 19) : t.cs.size = 24 := by simp [Tm.cs, cl_len h]
theorem cs_char (h : t.c.length = 19) (k : Nat) (hk : k < 19) : t.cs[k]? = some (.int .u8 ((t.c[k]'(by omega)).toNat : Int)) := by
  have h1 : k < (bv t.c).length := by simp [bv, h, hk]
  simp only [Tm.cs, Tm.cl, List.getElem?_toArray]
  rw [List.getElem?_append_left h1]
  simp [bv, h, hk]
theorem cs_at (h : t.c.length = 19) (k : Nat) : t.cs[19 + k]? = [Value.int .u64 (t.f : Int), .int .u32 (t.i : Int), .int .u32 (t.o : Int), .int .i64 t.m, .int .i64 t.s][k]? := by
  have h1 : (bv t.c).length = 19 := by simp [bv, h]
  simp only [Tm.cs, Tm.cl, List.getElem?_toArray]
  rw [List.getElem?_append_right (by omega), h1]
  congr 1
  omega
theorem cs_f (h : t.c.length = 19) : t.cs[19]? = some (.int .u64 (t.f : Int)) := cs_at h 0
theorem cs_i (h : t.c.length = 19) : t.cs[20]? = some (.int .u32 (t.i : Int)) := cs_at h 1
theorem cs_o (h : t.c.length = 19) : t.cs[21]? = some (.int .u32 (t.o : Int)) := cs_at h 2
theorem cs_m (h : t.c.length = 19) : t.cs[22]? = some (.int .i64 t.m) := cs_at h 3
theorem cs_s (h : t.c.length = 19) : t.cs[23]? = some (.int .i64 t.s) := cs_at h 4
theorem cs_one (t : Tm) : t.cs.all (·.oneCell') = true := by
  refine all_oneCell fun v hv => ?_
  simp only [Tm.cs, Tm.cl, List.mem_toArray, List.mem_append] at hv
  rcases hv with hv | hv
  · exact bv_one _ v hv
  · simp at hv
    rcases hv with rfl | rfl | rfl | rfl | rfl <;> rfl
where all_oneCell {cs : Array Value} (h : ∀ v ∈ cs, v.oneCell' = true) : cs.all (·.oneCell') = true := Array.all_eq_true_iff_forall_mem.2 h
theorem cs_setf (h : t.c.length = 19) (n : Nat) : t.cs.setIfInBounds 19 (.int .u64 (n : Int)) = ({ t with f := n } : Tm).cs := by
  have h1 : (bv t.c).length = 19 := by simp [bv, h]
  simp only [Tm.cs, Tm.cl, List.setIfInBounds_toArray]
  rw [List.set_append_right _ _ (by omega), h1]
  rfl
theorem cs_seti (h : t.c.length = 19) (n : Nat) : t.cs.setIfInBounds 20 (.int .u32 (n : Int)) = ({ t with i := n } : Tm).cs := by
  have h1 : (bv t.c).length = 19 := by simp [bv, h]
  simp only [Tm.cs, Tm.cl, List.setIfInBounds_toArray]
  rw [List.set_append_right _ _ (by omega), h1]
  rfl
theorem cs_seto (h : t.c.length = 19) (n : Nat) : t.cs.setIfInBounds 21 (.int .u32 (n : Int)) = ({ t with o := n } : Tm).cs := by
  have h1 : (bv t.c).length = 19 := by simp [bv, h]
  simp only [Tm.cs, Tm.cl, List.setIfInBounds_toArray]
  rw [List.set_append_right _ _ (by omega), h1]
  rfl
theorem cs_setc (h : t.c.length = 19) (k : Nat) (hk : k < 19) (b : UInt8) : t.cs.setIfInBounds k (.int .u8 (b.toNat : Int)) = ({ t with c := t.c.set k b } : Tm).cs := by
  have h1 : (bv t.c).length = 19 := by simp [bv, h]
  simp only [Tm.cs, Tm.cl, List.setIfInBounds_toArray]
  rw [List.set_append_left _ _ (by omega)]
  simp [bv, List.map_set]
end
/-- The setting of nothing. -/
def Tm.zero : Tm := ⟨List.replicate 19 0, 0, 0, 0, 0, 0⟩
theorem zero_ok : Tm.zero.Ok := ⟨rfl, by decide, by decide, by decide, ⟨by decide, by decide⟩, ⟨by decide, by decide⟩⟩
def eqT (t u : Tm) : Bool := decide (t.c = u.c) && decide (t.f = u.f) && decide (t.i = u.i) && decide (t.o = u.o) && decide (t.m = u.m) && decide (t.s = u.s)
theorem eqT_iff (t u : Tm) : eqT t u = true ↔ t = u := by
  cases t; cases u
  simp [eqT, and_assoc]
theorem eqT_self (t : Tm) : eqT t t = true := (eqT_iff t t).2 rfl

theorem run_part_cell {P : Program} (w : World) (e : TypeId) (k : IntKind) (cs : Array Value) (off : Nat) (v : Value) (hu : P.underlying e = some (.int k)) (hc : cs[off]? = some v) :
    (part e cs off).run P w = .ok v w := by
  have hagg : (isAgg e).run P w = .ok false w := by
    unfold isAgg
    rw [Sem.run_bind, run_underlying hu w]
    rfl
  simp [part, Sem.run_bind, hagg, hc]
theorem run_items (w : World) (d : Nat) (a b : List UInt8) : ∀ is : List Nat, (∀ i ∈ is, i < a.length ∧ i < b.length) →
    ∃ r : Bool, (Op.eqItems (d + 1) 5 1 (bv a).toArray (bv b).toArray is).run Tryz.prog w = .ok r w ∧ (r = true ↔ ∀ i ∈ is, a[i]? = b[i]?)
  | [], _ => ⟨true, by simp [Op.eqItems], by simp⟩
  | i :: is, h => by
    obtain ⟨r, hr, hiff⟩ := run_items w d a b is fun j hj => h j (by simp [hj])
    obtain ⟨h1, h2⟩ := h i (by simp)
    have p1 : (part 5 (bv a).toArray (i * 1)).run Tryz.prog w = .ok (.int .u8 (a[i].toNat : Int)) w := run_part_cell w 5 .u8 _ _ _ Tryz.underlying5 (by simp [bv, h1])
    have p2 : (part 5 (bv b).toArray (i * 1)).run Tryz.prog w = .ok (.int .u8 (b[i].toNat : Int)) w := run_part_cell w 5 .u8 _ _ _ Tryz.underlying5 (by simp [bv, h2])
    have p3 := run_equalIn_int (P := Tryz.prog) w d 5 .u8 .u8 (a[i].toNat : Int) (b[i].toNat : Int) Tryz.underlying5
    simp only [Op.eqItems, Sem.run_bind, p1, p2, p3, Result.andThen_ok]
    by_cases he : a[i] = b[i]
    · refine ⟨r, by simp [he, hr], ?_⟩
      rw [hiff]
      simp [List.getElem?_eq_getElem h1, List.getElem?_eq_getElem h2, he]
    · have hne : ((a[i].toNat : Int) == (b[i].toNat : Int)) = false := by
        simp
        intro e
        exact he (UInt8.toNat_inj.1 (by omega))
      refine ⟨false, by simp [hne], ?_⟩
      simp [List.getElem?_eq_getElem h1, List.getElem?_eq_getElem h2, he]
set_option maxRecDepth 100000 in
theorem run_chars (w : World) (d : Nat) (a b : List UInt8) (ha : a.length = 19) (hb : b.length = 19) :
    (Op.equalIn (d + 1 + 1) 128 (.agg (bv a).toArray) (.agg (bv b).toArray)).run Tryz.prog w = .ok (decide (a = b)) w := by
  obtain ⟨i5, hi5, h5⟩ : ∃ i, Tryz.prog.info? 5 = some i ∧ i.size = 1 := by
    have h := Tryz.info5
    cases hq : Tryz.prog.info? 5 with
    | none => simp [hq] at h
    | some i => simp [hq] at h; exact ⟨i, rfl, h.2.1⟩
  have hc : Tryz.prog.cellsOf 5 = 1 := by kernel_rfl
  rw [run_equalIn_array w (d + 1) _ _ Tryz.underlying128 hi5, hc]
  obtain ⟨r, hr, hiff⟩ := run_items w d a b (List.range 19) (fun i hi => by simp at hi; omega)
  rw [hr]
  congr 1
  have e : (∀ i ∈ List.range 19, a[i]? = b[i]?) ↔ a = b := by
    constructor
    · intro h
      apply List.ext_getElem?
      intro i
      by_cases hi : i < 19
      · exact h i (by simp [hi])
      · rw [List.getElem?_eq_none (by omega), List.getElem?_eq_none (by omega)]
    · rintro rfl i _
      rfl
  rw [e] at hiff
  cases r
  · symm; simpa using hiff
  · symm; simpa using hiff
theorem Tryz.size22 : (Tryz.prog.info? 128).map (·.size) = some 19 := by kernel_rfl
theorem Tryz.size26 : (Tryz.prog.info? 132).map (·.size) = some 24 := by kernel_rfl
theorem Tryz.fields26 : (Tryz.prog.fieldsOf 132).toList.map (fun f => (decide (f.name ≠ "_"), f.type, f.offset)) = [(true, 128, 0), (true, 129, 19), (true, 130, 20), (true, 130, 21), (true, 3, 22), (true, 3, 23)] := by kernel_rfl
theorem fields_eq (d : Nat) (xs ys : Array Value) : ∀ (fs gs : List Field), fs.map (fun f => (decide (f.name ≠ "_"), f.type, f.offset)) = gs.map (fun f => (decide (f.name ≠ "_"), f.type, f.offset)) → Op.eqFields d xs ys fs = Op.eqFields d xs ys gs
  | [], [], _ => rfl
  | [], _ :: _, h => by simp at h
  | _ :: _, [], h => by simp at h
  | f :: fs, g :: gs, h => by
    simp only [List.map_cons, List.cons.injEq, Prod.mk.injEq] at h
    obtain ⟨⟨h1, h2, h3⟩, h4⟩ := h
    have h5 : (f.name ≠ "_") = (g.name ≠ "_") := propext (decide_eq_decide.1 h1)
    simp only [Op.eqFields, h5, h2, h3, fields_eq d xs ys fs gs h4]
/-- Six fields that a name each has. -/
def six : List Field := [⟨"a", 128, 0, false, "", "", 0⟩, ⟨"a", 129, 19, false, "", "", 0⟩, ⟨"a", 130, 20, false, "", "", 0⟩, ⟨"a", 130, 21, false, "", "", 0⟩, ⟨"a", 3, 22, false, "", "", 0⟩, ⟨"a", 3, 23, false, "", "", 0⟩]
theorem step_field {P : Program} {w : World} {d : Nat} {xs ys : Array Value} {f : Field} {fs : List Field} {a b : Value} {r r' : Bool} (hn : f.name ≠ "_") (pa : (part f.type xs f.offset).run P w = .ok a w) (pb : (part f.type ys f.offset).run P w = .ok b w)
    (he : (Op.equalIn d f.type a b).run P w = .ok r w) (hr : (Op.eqFields d xs ys fs).run P w = .ok r' w) : (Op.eqFields d xs ys (f :: fs)).run P w = .ok (r && r') w := by
  rw [Op.eqFields, if_pos hn]
  simp only [Sem.run_bind, pa, pb, he, Result.andThen_ok]
  cases r
  · rfl
  · exact hr
theorem no_fields {P : Program} {w : World} {d : Nat} {xs ys : Array Value} : (Op.eqFields d xs ys []).run P w = .ok true w := by simp [Op.eqFields]
theorem cs_chars {t : Tm} (h : t.c.length = 19) : t.cs.extract 0 (0 + 19) = (bv t.c).toArray := by
  have h1 : (bv t.c).length = 19 := by simp [bv, h]
  simp only [Tm.cs, Tm.cl, List.extract_toArray, List.extract_eq_take_drop, List.drop_zero]
  rw [List.take_append_of_le_length (by omega), List.take_of_length_le (by omega)]
theorem beq_nat (a b : Nat) : (((a : Int) == (b : Int)) : Bool) = decide (a = b) := by
  by_cases h : a = b
  · subst h; simp
  · have : ¬ (a : Int) = b := by omega
    simp [h, this]
theorem run_eq26d (w : World) (d : Nat) (t u : Tm) (ht : t.c.length = 19) (hu : u.c.length = 19) : (Op.equalIn (d + 1 + 1 + 1) 132 (.agg t.cs) (.agg u.cs)).run Tryz.prog w = .ok (eqT t u) w := by
  have hst : Tryz.prog.stoodInHeld 132 = false := by kernel_rfl
  have hfo : Tryz.prog.underlying 132 = some (.struct (Tryz.prog.fieldsOf 132)) := by simp [Program.fieldsOf, Tryz.underlying132]
  rw [run_equalIn_struct w (d + 1 + 1) 132 _ _ hfo hst, fields_eq (d + 1 + 1) _ _ _ six (by rw [Tryz.fields26]; rfl)]
  have a0 : (part 128 t.cs 0).run Tryz.prog w = .ok (.agg (bv t.c).toArray) w := by rw [run_part_agg w 128 _ 19 _ 0 Tryz.underlying128 rfl Tryz.size22, cs_chars ht]
  have b0 : (part 128 u.cs 0).run Tryz.prog w = .ok (.agg (bv u.c).toArray) w := by rw [run_part_agg w 128 _ 19 _ 0 Tryz.underlying128 rfl Tryz.size22, cs_chars hu]
  have a1 := run_part_cell w 129 .u64 t.cs 19 _ Tryz.underlying129 (cs_f ht)
  have b1 := run_part_cell w 129 .u64 u.cs 19 _ Tryz.underlying129 (cs_f hu)
  have a2 := run_part_cell w 130 .u32 t.cs 20 _ Tryz.underlying130 (cs_i ht)
  have b2 := run_part_cell w 130 .u32 u.cs 20 _ Tryz.underlying130 (cs_i hu)
  have a3 := run_part_cell w 130 .u32 t.cs 21 _ Tryz.underlying130 (cs_o ht)
  have b3 := run_part_cell w 130 .u32 u.cs 21 _ Tryz.underlying130 (cs_o hu)
  have a4 := run_part_cell w 3 .i64 t.cs 22 _ Tryz.underlying3 (cs_m ht)
  have b4 := run_part_cell w 3 .i64 u.cs 22 _ Tryz.underlying3 (cs_m hu)
  have a5 := run_part_cell w 3 .i64 t.cs 23 _ Tryz.underlying3 (cs_s ht)
  have b5 := run_part_cell w 3 .i64 u.cs 23 _ Tryz.underlying3 (cs_s hu)
  have e0 := run_chars w d t.c u.c ht hu
  have e1 := run_equalIn_int (P := Tryz.prog) w (d + 1) 129 .u64 .u64 (t.f : Int) u.f Tryz.underlying129
  have e2 := run_equalIn_int (P := Tryz.prog) w (d + 1) 130 .u32 .u32 (t.i : Int) u.i Tryz.underlying130
  have e3 := run_equalIn_int (P := Tryz.prog) w (d + 1) 130 .u32 .u32 (t.o : Int) u.o Tryz.underlying130
  have e4 := run_equalIn_int (P := Tryz.prog) w (d + 1) 3 .i64 .i64 t.m u.m Tryz.underlying3
  have e5 := run_equalIn_int (P := Tryz.prog) w (d + 1) 3 .i64 .i64 t.s u.s Tryz.underlying3
  have nm : ("a" : String) ≠ "_" := by decide
  have hh := step_field (f := ⟨"a", 128, 0, false, "", "", 0⟩) nm a0 b0 e0 (step_field (f := ⟨"a", 129, 19, false, "", "", 0⟩) nm a1 b1 e1 (step_field (f := ⟨"a", 130, 20, false, "", "", 0⟩) nm a2 b2 e2 (step_field (f := ⟨"a", 130, 21, false, "", "", 0⟩) nm a3 b3 e3 (step_field (f := ⟨"a", 3, 22, false, "", "", 0⟩) nm a4 b4 e4 (step_field (f := ⟨"a", 3, 23, false, "", "", 0⟩) nm a5 b5 e5 no_fields)))))
  rw [six, hh]
  have h4 : ∀ x y : Int, (x == y) = decide (x = y) := fun x y => rfl
  rw [beq_nat, beq_nat, beq_nat, h4, h4]
  unfold eqT
  cases decide (t.c = u.c) <;> cases decide (t.f = u.f) <;> cases decide (t.i = u.i) <;> cases decide (t.o = u.o) <;> cases decide (t.m = u.m) <;> cases decide (t.s = u.s) <;> rfl
theorem run_eq26 (w : World) (t u : Tm) (ht : t.c.length = 19) (hu : u.c.length = 19) (n : Nat) (hn : n = 9997 + 1 + 1 + 1) : (Op.equalIn n 132 (.agg t.cs) (.agg u.cs)).run Tryz.prog w = .ok (eqT t u) w := by
  rw [hn]
  generalize 9997 = d
  exact run_eq26d w d t u ht hu
theorem run_eql26 (w : World) (t u : Tm) (ht : t.c.length = 19) (hu : u.c.length = 19) : (binOp .eql 132 (.agg t.cs) (.agg u.cs)).run Tryz.prog w = .ok (.bool (eqT t u)) w := by
  rw [run_eql_struct, run_eq26 w t u ht hu _ (by decide)]
  rfl
theorem run_neq26 (w : World) (t u : Tm) (ht : t.c.length = 19) (hu : u.c.length = 19) : (binOp .neq 132 (.agg t.cs) (.agg u.cs)).run Tryz.prog w = .ok (.bool (!eqT t u)) w := by
  rw [run_neq_struct, run_eq26 w t u ht hu _ (by decide)]
  rfl
end Go.Proofs.YteeienmigoebmaaGreatDoor
