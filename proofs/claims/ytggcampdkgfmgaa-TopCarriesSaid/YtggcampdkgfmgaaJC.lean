import Derived.Test.YtggcampdkgfmgaaJB
import Derived.BigQuiet
import Derived.Deep.QuietTactic
namespace Go.Proofs.Ytggcampdkgfmgaa.L9
open Go.RowKit

/-- A byte without its highest bit. -/
def lowB (c : UInt8) : UInt8 := UInt8.ofNat (c.toNat % 128)
/-- Is it a letter from A to Z? -/
def grB (c : UInt8) : Bool := decide (65 ≤ c.toNat) && decide (c.toNat ≤ 90)
def s1 (t : Tm) (c : UInt8) : UInt8 := if hasN t.f 33 = true then lowB c else c
def s2 (t : Tm) (c : UInt8) : UInt8 := if (grB c && hasN t.f 37 && hasN t.f 59) = true then UInt8.ofNat (c.toNat + 32) else c
/-- A byte as it comes in. -/
def stripB (t : Tm) (c : UInt8) : UInt8 := s2 t (s1 t c)
/-- A byte with the ends of lines turned; false: it is left out. -/
def turnB (t : Tm) (c : UInt8) : UInt8 × Bool :=
  if c = 13 ∧ hasN t.f 35 = true then (0, false) else if c = 13 ∧ hasN t.f 36 = true then (10, true) else if c = 10 ∧ hasN t.f 34 = true then (13, true) else (c, true)
/-- A byte as it is read. -/
def markB (t : Tm) (c : UInt8) : List UInt8 := if c = 255 ∧ hasN t.f 31 = true ∧ hasN t.f 33 = false then [c, c] else [c]
def turnL (t : Tm) (c : UInt8) : List UInt8 := if (turnB t c).2 = true then [(turnB t c).1] else []
def stripL (t : Tm) (c : UInt8) : List UInt8 := [stripB t c]
def mapR1 (t : Tm) (c : UInt8) : List UInt8 := if (turnB t (stripB t c)).2 = true then markB t (turnB t (stripB t c)).1 else []
/-- Bytes as they are read. -/
def mapB (t : Tm) (bs : List UInt8) : List UInt8 := bs.flatMap (mapR1 t)
theorem map_three (t : Tm) (bs : List UInt8) : ((bs.flatMap (stripL t)).flatMap (turnL t)).flatMap (markB t) = mapB t bs := by
  unfold mapB
  induction bs with
  | nil => rfl
  | cons c l ih =>
    rw [List.flatMap_cons, List.flatMap_cons, ← ih]
    simp only [stripL, List.flatMap_append, List.flatMap_cons, List.cons_append, List.nil_append]
    congr 1
    unfold turnL mapR1
    split <;> simp
theorem flat_len {f : UInt8 → List UInt8} {k : Nat} (h : ∀ c, (f c).length ≤ k) (bs : List UInt8) : (bs.flatMap f).length ≤ k * bs.length := by
  induction bs with
  | nil => simp
  | cons c l ih =>
    have := h c
    simp only [List.flatMap_cons, List.length_append, List.length_cons, Nat.mul_add, Nat.mul_one]
    omega
theorem stripL_len (t : Tm) (c : UInt8) : (stripL t c).length ≤ 2 := by simp [stripL]
theorem turnL_len1 (t : Tm) (c : UInt8) : (turnL t c).length ≤ 1 := by unfold turnL; split <;> simp
theorem turnL_len (t : Tm) (c : UInt8) : (turnL t c).length ≤ 2 := by have := turnL_len1 t c; omega
theorem markB_len (t : Tm) (c : UInt8) : (markB t c).length ≤ 2 := by unfold markB; split <;> simp
theorem mapR1_len (t : Tm) (c : UInt8) : (mapR1 t c).length ≤ 2 := by
  unfold mapR1
  split
  · exact markB_len _ _
  · simp
theorem map_len (t : Tm) (bs : List UInt8) : (mapB t bs).length ≤ 2 * bs.length := flat_len (mapR1_len t) bs
theorem low_all : (List.range 256).all (fun n => decide (bits .andNot .u8 (n : Int) 128 = ((n % 128 : Nat) : Int))) = true := by kernel_rfl
theorem low_v (c : UInt8) : bits .andNot .u8 (c.toNat : Int) 128 = ((lowB c).toNat : Int) := by
  have h := List.all_eq_true.1 low_all c.toNat (List.mem_range.2 c.toNat_lt)
  have h2 := of_decide_eq_true h
  rw [h2]
  unfold lowB
  have := c.toNat_lt
  simp
  omega
theorem low_r (c : UInt8) : (c.toNat : Int).tmod 128 = ((lowB c).toNat : Int) := by
  rw [Int.tmod_eq_emod_of_nonneg (by omega)]
  unfold lowB
  have := c.toNat_lt
  simp
  omega
theorem u8_lt (c : UInt8) : (c.toNat : Int) < 256 := by have := c.toNat_lt; omega
theorem small_v {c : UInt8} (h : grB c = true) : ((UInt8.ofNat (c.toNat + 32)).toNat : Int) = (c.toNat : Int) + 32 := by
  simp [grB] at h
  simp
  omega
theorem u8_ne {c d : UInt8} (h : ¬ c = d) : ((c.toNat : Int) == (d.toNat : Int)) = false := by
  simp only [beq_eq_false_iff_ne, ne_eq]
  intro e
  exact h (UInt8.toNat_inj.1 (by omega))
theorem call_b {f : Nat} {w : World} {args : Array Value} {b b' : Bool} (h : Calls Try.prog f args w fun e w' => e = .returned (.bool b) ∧ Hid (Below w.heap.size w w')) (hb : b = b') : Calls Try.prog f args w fun e w' => e = .returned (.bool b') ∧ Hid (Below w.heap.size w w') := by
  subst hb
  exact h

theorem turn13 (t : Tm) : turnB t 13 = if hasN t.f 35 = true then (0, false) else if hasN t.f 36 = true then (10, true) else (13, true) := by
  unfold turnB
  cases hasN t.f 35 <;> cases hasN t.f 36 <;> cases hasN t.f 34 <;> rfl
theorem turn10 (t : Tm) : turnB t 10 = if hasN t.f 34 = true then (13, true) else (10, true) := by
  unfold turnB
  cases hasN t.f 34 <;> rfl
theorem turn_no (t : Tm) {c : UInt8} (h13 : ¬ c = 13) (h10 : ¬ c = 10) : turnB t c = (c, true) := by simp [turnB, h13, h10]
theorem fin_s2 {t : Tm} (d : UInt8) {a b e : Bool} (hg : grB d = a) (h37 : hasN t.f 37 = b) (h59 : hasN t.f 59 = e) {v : Int} (hv : (a = true → (65 : Int) ≤ (d.toNat : Int) ∧ (d.toNat : Int) ≤ 90) → 0 ≤ (d.toNat : Int) → (d.toNat : Int) < 256 → v = if (a && b && e) = true then (d.toNat : Int) + 32 else (d.toNat : Int)) : Ending.returned (.int .u8 v) = .returned (.int .u8 ((s2 t d).toNat : Int)) := by
  have hv := hv (fun h => by subst hg; simp [grB] at h; omega) (by omega) (u8_lt d)
  subst hg h37 h59 hv
  unfold s2
  split
  · rename_i h
    have h1 : grB d = true := by
      cases hq : grB d
      · simp [hq] at h
      · rfl
    rw [small_v h1]
  · rfl
theorem fin_s2r {t : Tm} (d : UInt8) {b e : Bool} (h37 : hasN t.f 37 = b) (h59 : hasN t.f 59 = e) {v : Int} (hv : 0 ≤ (d.toNat : Int) → (d.toNat : Int) < 256 → v = if b = true ∧ e = true ∧ (65 : Int) ≤ (d.toNat : Int) ∧ (d.toNat : Int) ≤ 90 then (d.toNat : Int) + 32 else (d.toNat : Int)) : Ending.returned (.int .u8 v) = .returned (.int .u8 ((s2 t d).toNat : Int)) := by
  refine fin_s2 d rfl h37 h59 fun _ h1 h2 => ?_
  have hv := hv h1 h2
  subst hv
  have hg : grB d = decide ((65 : Int) ≤ (d.toNat : Int) ∧ (d.toNat : Int) ≤ 90) := by
    unfold grB
    rw [← Bool.decide_and]
    exact decide_eq_decide.2 (by omega)
  rw [hg]
  cases b <;> cases e <;> simp
end Go.Proofs.Ytggcampdkgfmgaa.L9
namespace Go.Proofs.Ytggcampdkgfmgaa.L9
open Go.RowKit

end Go.Proofs.Ytggcampdkgfmgaa.L9
namespace Go.Proofs.Ytggcampdkgfmgaa.L9
open Go.RowKit

theorem mark_two {t : Tm} {c : UInt8} (hc : c = 255) (h1 : hasN t.f 31 = true) (h3 : hasN t.f 33 = false) : markB t c = [255, 255] := by simp [markB, hc, h1, h3]
theorem mark_one {t : Tm} {c : UInt8} (h : ¬ (c = 255 ∧ hasN t.f 31 = true ∧ hasN t.f 33 = false)) : markB t c = [c] := by simp only [markB, h, if_false]
end Go.Proofs.Ytggcampdkgfmgaa.L9
namespace Go.Proofs.Ytggcampdkgfmgaa.L9
open Go.RowKit

theorem flat_snoc (f : UInt8 → List UInt8) (bs : List UInt8) (j : Nat) (x : UInt8) (h : bs[j]? = some x) : (bs.take (j + 1)).flatMap f = (bs.take j).flatMap f ++ f x := by
  rw [List.take_add_one, h, List.flatMap_append]
  simp
theorem flat_take {f : UInt8 → List UInt8} (hf : ∀ c, (f c).length ≤ 2) (bs : List UInt8) (j : Nat) : ((bs.take j).flatMap f).length ≤ 2 * bs.length := by
  have h := flat_len hf (bs.take j)
  have : (bs.take j).length ≤ bs.length := by rw [List.length_take]; omega
  omega
end Go.Proofs.Ytggcampdkgfmgaa.L9
namespace Go.Proofs.Ytggcampdkgfmgaa.L9
open Go.RowKit

section
variable {dst : Option Tmp} {x y : Operand} {ty r : TypeId} {pos : String} {after : Array Edge} {gd : Option (Nat × Bool)} {a : Act}
end
/-- What the bytes are behind so many steps. -/
def st (t : Tm) (bs : List UInt8) : Nat → List UInt8
  | 0 => bs
  | 1 => bs.flatMap (stripL t)
  | 2 => (bs.flatMap (stripL t)).flatMap (turnL t)
  | _ => ((bs.flatMap (stripL t)).flatMap (turnL t)).flatMap (markB t)
theorem st1 (t : Tm) (bs : List UInt8) : (st t bs 0).flatMap (stripL t) = st t bs 1 := rfl
theorem st2 (t : Tm) (bs : List UInt8) : (st t bs 1).flatMap (turnL t) = st t bs 2 := rfl
theorem st3 (t : Tm) (bs : List UInt8) : (st t bs 2).flatMap (markB t) = st t bs 3 := rfl
theorem st_len (t : Tm) (bs : List UInt8) (h : bs.length ≤ 20000) (j : Nat) (hj : j < 3) : (st t bs j).length ≤ 80000 := by
  rcases (by omega : j = 0 ∨ j = 1 ∨ j = 2) with rfl | rfl | rfl
  · show bs.length ≤ _
    omega
  · have := flat_len (stripL_len t) bs
    show (bs.flatMap (stripL t)).length ≤ _
    omega
  · have h1 := flat_len (stripL_len t) bs
    have h2 := flat_len (turnL_len t) (bs.flatMap (stripL t))
    show ((bs.flatMap (stripL t)).flatMap (turnL t)).length ≤ _
    omega
theorem st_end (t : Tm) (bs : List UInt8) : st t bs 3 = mapB t bs := map_three t bs
theorem run_index_one {P : Program} (w : World) (t e : TypeId) (len : Nat) (d : TypeDesc) (cs : Array Value) (k : IntKind) (i : Nat) (v : Value) (ht : P.underlying t = some (.array len e)) (hu : P.underlying e = some d) (hd : (match d with | .struct _ | .array _ _ => true | _ => false) = false) (hi : (P.info? e).map (·.size) = some 1) (hlt : i < len) (hv : cs[i]? = some v) :
    (Instr.index t (.agg cs) (.int k (i : Int))).run P w = .ok v w := by
  have hsz : (sizeOf e).run P w = .ok 1 w := by
    cases hq : P.info? e with
    | none => simp [hq] at hi
    | some i0 => simp [sizeOf, typeInfo, hq] at hi ⊢; exact hi
  have h2 : ((i : Int) < len) := by omega
  have hagg : (isAgg e).run P w = .ok false w := by
    unfold isAgg
    rw [Sem.run_bind, run_underlying hu w]
    cases d <;> simp_all
  have hp : (part e cs i).run P w = .ok v w := by simp [part, Sem.run_bind, hagg, hv]
  simp [Instr.index, asIntOf, run_underlying ht, hsz, hp]
  intro h
  omega
attribute [local go_sem ↓] wq_ld26
attribute [local go_sem] isP_v blkV_v aggV_v
end Go.Proofs.Ytggcampdkgfmgaa.L9
