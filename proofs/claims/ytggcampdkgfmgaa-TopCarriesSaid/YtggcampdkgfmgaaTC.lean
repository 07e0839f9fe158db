import Derived.Test.YtggcampdkgfmgaaTB
namespace Go.Proofs.Ytggcampdkgfmgaa
open Go.RowKit

/-! Layer 17: sizes. -/
def Sz.cs (z : Sz) : Array Value := #[.int .u32 (z.a : Int), .int .u32 (z.b : Int), .int .u32 (z.c : Int), .int .u32 (z.e : Int)]
theorem Try.fieldsSz : (Try.prog.fieldsOf 56).toList.map (fun f => (decide (f.name ≠ "_"), f.type, f.offset)) = [(true, 24, 0), (true, 24, 1), (true, 24, 2), (true, 24, 3)] := by kernel_rfl
theorem run_eqZ (w : World) (d : Nat) (z u : Sz) : (Op.equalIn (d + 1 + 1) 56 (.agg z.cs) (.agg u.cs)).run Try.prog w = .ok (decide (z = u)) w := by
  have hst : Try.prog.stoodInHeld 56 = false := by kernel_rfl
  have hfo : Try.prog.underlying 56 = some (.struct (Try.prog.fieldsOf 56)) := by simp [Program.fieldsOf, Try.underlying56]
  rw [run_equalIn_struct w (d + 1) 56 _ _ hfo hst, fields_eq (d + 1) _ _ _ [⟨"a", 24, 0, false, "", "", 0⟩, ⟨"a", 24, 1, false, "", "", 0⟩, ⟨"a", 24, 2, false, "", "", 0⟩, ⟨"a", 24, 3, false, "", "", 0⟩] (by rw [Try.fieldsSz]; rfl)]
  have nm : ("a" : String) ≠ "_" := by decide
  have a0 := run_part_cell w 24 .u32 z.cs 0 _ Try.underlying24 rfl
  have b0 := run_part_cell w 24 .u32 u.cs 0 _ Try.underlying24 rfl
  have a1 := run_part_cell w 24 .u32 z.cs 1 _ Try.underlying24 rfl
  have b1 := run_part_cell w 24 .u32 u.cs 1 _ Try.underlying24 rfl
  have a2 := run_part_cell w 24 .u32 z.cs 2 _ Try.underlying24 rfl
  have b2 := run_part_cell w 24 .u32 u.cs 2 _ Try.underlying24 rfl
  have a3 := run_part_cell w 24 .u32 z.cs 3 _ Try.underlying24 rfl
  have b3 := run_part_cell w 24 .u32 u.cs 3 _ Try.underlying24 rfl
  have e0 := run_equalIn_int (P := Try.prog) w d 24 .u32 .u32 (z.a : Int) u.a Try.underlying24
  have e1 := run_equalIn_int (P := Try.prog) w d 24 .u32 .u32 (z.b : Int) u.b Try.underlying24
  have e2 := run_equalIn_int (P := Try.prog) w d 24 .u32 .u32 (z.c : Int) u.c Try.underlying24
  have e3 := run_equalIn_int (P := Try.prog) w d 24 .u32 .u32 (z.e : Int) u.e Try.underlying24
  have hh := step_field (f := ⟨"a", 24, 0, false, "", "", 0⟩) nm a0 b0 e0 (step_field (f := ⟨"a", 24, 1, false, "", "", 0⟩) nm a1 b1 e1 (step_field (f := ⟨"a", 24, 2, false, "", "", 0⟩) nm a2 b2 e2 (step_field (f := ⟨"a", 24, 3, false, "", "", 0⟩) nm a3 b3 e3 no_fields)))
  rw [hh, beq_nat, beq_nat, beq_nat, beq_nat]
  have e : decide (z = u) = (decide (z.a = u.a) && (decide (z.b = u.b) && (decide (z.c = u.c) && (decide (z.e = u.e) && true)))) := by
    cases z; cases u
    simp [and_assoc]
  rw [e]
theorem run_eqlZ (w : World) (z u : Sz) : (binOp .eql 56 (.agg z.cs) (.agg u.cs)).run Try.prog w = .ok (.bool (decide (z = u))) w := by
  rw [run_eql_struct, show (10000 : Nat) = 9998 + 1 + 1 from rfl]
  generalize 9998 = d
  rw [run_eqZ w d z u]
  rfl
theorem run_neqZ (w : World) (z u : Sz) : (binOp .neq 56 (.agg z.cs) (.agg u.cs)).run Try.prog w = .ok (.bool (!decide (z = u))) w := by
  rw [run_neq_struct, show (10000 : Nat) = 9998 + 1 + 1 from rfl]
  generalize 9998 = d
  rw [run_eqZ w d z u]
  rfl
/-- Events have been answered, a terminal is left. -/
def RetPe (w0 : World) (g p : Nat) (S0 : Nat → Prop) (r : Ps × List (Int × Int)) (e : Ending) (w' : World) : Prop := ∃ A n c S', e = .returned (.slice A n c) ∧ Hid (r.2.length = n) ∧ Hid (Lies w' w'.heap.size A (evV r.2)) ∧ Hid (Py w0 g p S0 w' S' r.1) ∧ Hid (r.2 ≠ [] → ∀ a, A = some a → w0.heap.size ≤ a.block ∧ ¬ GS g S' a.block)
theorem ev_fresh {w0 u w' : World} {g p : Nat} {S0 S : Nat → Prop} {P : Ps} {T : TypeId} {A : Option Addr} {n c : Nat} {xs : List Value} (H : Hid (Py w0 g p S0 u S P)) (O : Hid (w'.ownsRow u.heap.size T 2 (.slice A n c) n xs)) : ∀ a, A = some a → w0.heap.size ≤ a.block ∧ ¬ GS g S a.block := fun a ha => by
  subst ha
  have h1 := (O.out.lt a.block rfl).1
  have h2 := H.out.but.size
  have h3 := H.out.at_.lt
  refine ⟨by omega, ?_⟩
  rintro (h | h)
  · have := H.out.at_.at_.top _ h; omega
  · omega
def sizeP (P : Ps) (z : Sz) : Ps × List (Int × Int) := if z = P.z then (P, []) else ({ P with z := z }, evs P.gp [28])
section
variable {w0 w : World} {g p : Nat} {S0 S : Nat → Prop} {P : Ps}
theorem Py.size4 (H : Hid (Py w0 g p S0 w S P)) (z : Sz) : Hid (Py w0 g p S0 ((((w.setCell ⟨g, 1, none⟩ (.int .u32 (z.a : Int))).setCell ⟨g, 2, none⟩ (.int .u32 (z.b : Int))).setCell ⟨g, 3, none⟩ (.int .u32 (z.c : Int))).setCell ⟨g, 4, none⟩ (.int .u32 (z.e : Int))) S { P with z := z }) :=
  Py.store (P' := { P with z := z }) (Py.store (P' := { P with z := ⟨z.a, z.b, z.c, P.z.e⟩ }) (Py.store (P' := { P with z := ⟨z.a, z.b, P.z.c, P.z.e⟩ }) (Py.store (P' := { P with z := ⟨z.a, P.z.b, P.z.c, P.z.e⟩ }) H 1 _ rfl rfl) 2 _ rfl rfl) 3 _ rfl rfl) 4 _ rfl rfl
end
end Go.Proofs.Ytggcampdkgfmgaa
