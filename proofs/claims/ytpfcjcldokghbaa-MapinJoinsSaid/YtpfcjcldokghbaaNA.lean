import Derived.Test.YtpfcjcldokghbaaMP
namespace Go.Proofs.Ytpfcjcldokghbaa
open Go.RowKit

/-- A byte without its highest bit. -/
def lowB (c : UInt8) : UInt8 := UInt8.ofNat (c.toNat % 128)
/-- Is it a letter from A to Z? -/
def grB (c : UInt8) : Bool := decide (65 ≤ c.toNat) && decide (c.toNat ≤ 90)
def s1 (t : Tm) (c : UInt8) : UInt8 := if hasN t.f 33 = true then lowB c else c
def s2 (t : Tm) (c : UInt8) : UInt8 := if (grB c && hasN t.f 37 && hasN t.f 59) = true then UInt8.ofNat (c.toNat + 32) else c
/-- A byte as it comes in. -/
def stripB (t : Tm) (c : UInt8) : UInt8 := s2 t (s1 t c)
/-- A byte with the ends of lines turned; false: it is left out. -/
def turnB (t : Tm) (c : UInt8) : UInt8 × Bool :=
  if c = 13 ∧ hasN t.f 35 = true then (0, false) else if c = 13 ∧ hasN t.f 36 = true then (10, true) else if c = 10 ∧ hasN t.f 34 = true then (13, true) else (c, true)
/-- A byte as it is read. -/
def markB (t : Tm) (c : UInt8) : List UInt8 := if c = 255 ∧ hasN t.f 31 = true ∧ hasN t.f 33 = false then [c, c] else [c]
def turnL (t : Tm) (c : UInt8) : List UInt8 := if (turnB t c).2 = true then [(turnB t c).1] else []
def stripL (t : Tm) (c : UInt8) : List UInt8 := [stripB t c]
def mapR1 (t : Tm) (c : UInt8) : List UInt8 := if (turnB t (stripB t c)).2 = true then markB t (turnB t (stripB t c)).1 else []
/-- Bytes as they are read. -/
def mapB (t : Tm) (bs : List UInt8) : List UInt8 := bs.flatMap (mapR1 t)
theorem map_three (t : Tm) (bs : List UInt8) : ((bs.flatMap (stripL t)).flatMap (turnL t)).flatMap (markB t) = mapB t bs := by
  unfold mapB
  induction bs with
  | nil => rfl
  | cons c l ih =>
    rw [List.flatMap_cons, List.flatMap_cons, ← ih]
    simp only [stripL, List.flatMap_append, List.flatMap_cons, List.cons_append, List.nil_append]
    congr 1
    unfold turnL mapR1
    split <;> simp
theorem flat_len {f : UInt8 → List UInt8} {k : Nat} (h : ∀ c, (f c).length ≤ k) (bs : List UInt8) : (bs.flatMap f).length ≤ k * bs.length := by
  induction bs with
  | nil => simp
  | cons c l ih =>
    have := h c
    simp only [List.flatMap_cons, List.length_append, List.length_cons, Nat.mul_add, Nat.mul_one]
    omega
theorem stripL_len (t : Tm) (c : UInt8) : (stripL t c).length ≤ 2 := by simp [stripL]
theorem turnL_len1 (t : Tm) (c : UInt8) : (turnL t c).length ≤ 1 := by unfold turnL; split <;> simp
theorem turnL_len (t : Tm) (c : UInt8) : (turnL t c).length ≤ 2 := by have := turnL_len1 t c; omega
theorem markB_len (t : Tm) (c : UInt8) : (markB t c).length ≤ 2 := by unfold markB; split <;> simp
theorem mapR1_len (t : Tm) (c : UInt8) : (mapR1 t c).length ≤ 2 := by
  unfold mapR1
  split
  · exact markB_len _ _
  · simp
theorem map_len (t : Tm) (bs : List UInt8) : (mapB t bs).length ≤ 2 * bs.length := flat_len (mapR1_len t) bs
theorem low_all : (List.range 256).all (fun n => decide (bits .andNot .u8 (n : Int) 128 = ((n % 128 : Nat) : Int))) = true := by kernel_rfl
theorem low_v (c : UInt8) : bits .andNot .u8 (c.toNat : Int) 128 = ((lowB c).toNat : Int) := by
  have h := List.all_eq_true.1 low_all c.toNat (List.mem_range.2 c.toNat_lt)
  have h2 := of_decide_eq_true h
  rw [h2]
  unfold lowB
  have := c.toNat_lt
  simp
  omega
theorem low_r (c : UInt8) : (c.toNat : Int).tmod 128 = ((lowB c).toNat : Int) := by
  rw [Int.tmod_eq_emod_of_nonneg (by omega)]
  unfold lowB
  have := c.toNat_lt
  simp
  omega
theorem u8_lt (c : UInt8) : (c.toNat : Int) < 256 := by have := c.toNat_lt; omega
theorem small_v {c : UInt8} (h : grB c = true) : ((UInt8.ofNat (c.toNat + 32)).toNat : Int) = (c.toNat : Int) + 32 := by
  simp [grB] at h
  simp
  omega
theorem u8_ne {c d : UInt8} (h : ¬ c = d) : ((c.toNat : Int) == (d.toNat : Int)) = false := by
  simp only [beq_eq_false_iff_ne, ne_eq]
  intro e
  exact h (UInt8.toNat_inj.1 (by omega))
theorem call_b {f : Nat} {w : World} {args : Array Value} {b b' : Bool} (h : Calls Try.prog f args w fun e w' => e = .returned (.bool b) ∧ Hid (Below w.heap.size w w')) (hb : b = b') : Calls Try.prog f args w fun e w' => e = .returned (.bool b') ∧ Hid (Below w.heap.size w w') := by
  subst hb
  exact h

theorem isGreat_any (w : World) (c : UInt8) : Calls Try.prog 21 #[.int .u8 (c.toNat : Int)] w fun e w' => e = .returned (.bool (grB c)) ∧ w' = w := by
  have hg : grB c = (decide ((65 : Int) ≤ (c.toNat : Int)) && decide ((c.toNat : Int) ≤ 90)) := by
    unfold grB
    congr 1 <;> exact decide_eq_decide.2 (by omega)
  rw [hg]
  generalize (c.toNat : Int) = C
  by_cases h1 : (65 : Int) ≤ C
  · by_cases h2 : C ≤ 90
    · go_enter Try.func21, Try.ntmps21
      go_wp2
      go_ret
      exact ⟨by simp [h1, h2], rfl⟩
    · go_enter Try.func21, Try.ntmps21
      go_wp2
      go_ret
      exact ⟨by simp [h2], rfl⟩
  · go_enter Try.func21, Try.ntmps21
    go_wp2
    go_ret
    exact ⟨by rw [decide_eq_false (show ¬ (65 : Int) ≤ C by omega)]; rfl, rfl⟩
theorem great_b (w : World) {c : UInt8} {C : Int} {b : Bool} (hC : (c.toNat : Int) = C) (hb : grB c = b) : Calls Try.prog 21 #[.int .u8 C] w fun e w' => e = .returned (.bool b) ∧ w' = w := by
  subst hC
  subst hb
  exact isGreat_any w c
theorem turn13 (t : Tm) : turnB t 13 = if hasN t.f 35 = true then (0, false) else if hasN t.f 36 = true then (10, true) else (13, true) := by
  unfold turnB
  cases hasN t.f 35 <;> cases hasN t.f 36 <;> cases hasN t.f 34 <;> rfl
theorem turn10 (t : Tm) : turnB t 10 = if hasN t.f 34 = true then (13, true) else (10, true) := by
  unfold turnB
  cases hasN t.f 34 <;> rfl
theorem turn_no (t : Tm) {c : UInt8} (h13 : ¬ c = 13) (h10 : ¬ c = 10) : turnB t c = (c, true) := by simp [turnB, h13, h10]
theorem fin_s2 {t : Tm} (d : UInt8) {a b e : Bool} (hg : grB d = a) (h37 : hasN t.f 37 = b) (h59 : hasN t.f 59 = e) {v : Int} (hv : (a = true → (65 : Int) ≤ (d.toNat : Int) ∧ (d.toNat : Int) ≤ 90) → 0 ≤ (d.toNat : Int) → (d.toNat : Int) < 256 → v = if (a && b && e) = true then (d.toNat : Int) + 32 else (d.toNat : Int)) : Ending.returned (.int .u8 v) = .returned (.int .u8 ((s2 t d).toNat : Int)) := by
  have hv := hv (fun h => by subst hg; simp [grB] at h; omega) (by omega) (u8_lt d)
  subst hg h37 h59 hv
  unfold s2
  split
  · rename_i h
    have h1 : grB d = true := by
      cases hq : grB d
      · simp [hq] at h
      · rfl
    rw [small_v h1]
  · rfl
theorem fin_s2r {t : Tm} (d : UInt8) {b e : Bool} (h37 : hasN t.f 37 = b) (h59 : hasN t.f 59 = e) {v : Int} (hv : 0 ≤ (d.toNat : Int) → (d.toNat : Int) < 256 → v = if b = true ∧ e = true ∧ (65 : Int) ≤ (d.toNat : Int) ∧ (d.toNat : Int) ≤ 90 then (d.toNat : Int) + 32 else (d.toNat : Int)) : Ending.returned (.int .u8 v) = .returned (.int .u8 ((s2 t d).toNat : Int)) := by
  refine fin_s2 d rfl h37 h59 fun _ h1 h2 => ?_
  have hv := hv h1 h2
  subst hv
  have hg : grB d = decide ((65 : Int) ≤ (d.toNat : Int) ∧ (d.toNat : Int) ≤ 90) := by
    unfold grB
    rw [← Bool.decide_and]
    exact decide_eq_decide.2 (by omega)
  rw [hg]
  cases b <;> cases e <;> simp
end Go.Proofs.Ytpfcjcldokghbaa
