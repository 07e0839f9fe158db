import Derived.Test.YtjncahcigbdbgaaBA
namespace Go.Proofs.Ytjncahcigbdbgaa
open Go.RowKit

/-! Layer 11's maths: how a byte is shown, the column behind it, what takes characters off the screen. No function of the program stands here. -/
/-- Is a byte shown as ^ and a sign, where e says whether such signs are asked? -/
def hatB (e : Bool) (c : UInt8) : Bool := e && (decide (c.toNat < 32) && decide (c.toNat ≠ 9) && decide (c.toNat ≠ 10) || decide (c.toNat = 127))
def showB (e : Bool) (c : UInt8) : List UInt8 := if hatB e c then [94, c ^^^ 64] else [c]
def lineB (e : Bool) (l : List UInt8) : List UInt8 := (l.map (showB e)).flatten
theorem showB_off (c : UInt8) : showB false c = [c] := by simp [showB, hatB]
theorem showB_len (e : Bool) (c : UInt8) : 1 ≤ (showB e c).length ∧ (showB e c).length ≤ 2 := by
  unfold showB
  split <;> simp
theorem lineB_nil (e : Bool) : lineB e [] = [] := rfl
theorem lineB_snoc (e : Bool) (l : List UInt8) (c : UInt8) : lineB e (l ++ [c]) = lineB e l ++ showB e c := by simp [lineB]
theorem lineB_off (l : List UInt8) : lineB false l = l := by
  induction l with
  | nil => rfl
  | cons c l ih => simp only [lineB, List.map_cons, List.flatten_cons, showB_off]; simp only [lineB] at ih; rw [ih]; rfl
theorem lineB_len (e : Bool) (l : List UInt8) : l.length ≤ (lineB e l).length ∧ (lineB e l).length ≤ 2 * l.length := by
  induction l with
  | nil => exact ⟨Nat.le_refl _, Nat.le_refl _⟩
  | cons c l ih =>
    have h := showB_len e c
    simp only [lineB, List.map_cons, List.flatten_cons, List.length_append, List.length_cons] at ih ⊢
    omega
theorem lineB_take (e : Bool) (l : List UInt8) (k : Nat) (h : k < l.length) : lineB e (l.take (k + 1)) = lineB e (l.take k) ++ showB e l[k] := by
  rw [List.take_succ_eq_append_getElem h, lineB_snoc]
/-- The two ways in which the sign is written. -/
theorem sign_all : ∀ n : Nat, n < 256 → hatB true (UInt8.ofNat n) = true → ((UInt8.ofNat n) ^^^ 64).toNat = (if n = 127 then 63 else n + 64) := by decide +kernel
theorem sign_b (c : UInt8) (h : hatB true c = true) : (c ^^^ 64).toNat = (if c.toNat = 127 then 63 else c.toNat + 64) := by
  have := sign_all c.toNat c.toNat_lt (by simpa using h)
  simpa using this
/-- What is shown with signs has none but 9 and 10 of those below 32, and no 127. -/
def Shown (c : UInt8) : Prop := (c.toNat < 32 → c.toNat = 9 ∨ c.toNat = 10) ∧ c.toNat ≠ 127
theorem showB_shown (c : UInt8) : ∀ d ∈ showB true c, Shown d := by
  intro d hd
  unfold showB at hd
  split at hd
  · rename_i h
    simp only [List.mem_cons, List.not_mem_nil, or_false] at hd
    rcases hd with rfl | rfl
    · exact ⟨by decide, by decide⟩
    · have hs := sign_b c h
      have hc : c.toNat < 32 ∨ c.toNat = 127 := by
        simp [hatB] at h
        omega
      unfold Shown
      rw [hs]
      split <;> omega
  · rename_i h
    simp only [List.mem_singleton] at hd
    subst hd
    simp [hatB] at h
    unfold Shown
    omega
theorem lineB_shown (l : List UInt8) : ∀ d ∈ lineB true l, Shown d := by
  intro d hd
  simp only [lineB, List.mem_flatten, List.mem_map] at hd
  obtain ⟨_, ⟨c, _, rfl⟩, hd⟩ := hd
  exact showB_shown c d hd

/-- The column behind a byte; e: signs are asked; u: the bytes that go on with a character take none. -/
def stepN (e u : Bool) (col : Nat) (c : UInt8) : Nat :=
  if c.toNat = 9 then (col / 8 + 1) * 8 else if hatB e c then col + 2 else if c.toNat < 32 ∨ c.toNat = 127 then col else if u = true ∧ 128 ≤ c.toNat ∧ c.toNat ≤ 191 then col else col + 1
theorem stepN_le (e u : Bool) (col : Nat) (c : UInt8) : col ≤ stepN e u col c ∧ stepN e u col c ≤ col + 8 := by
  unfold stepN
  split
  · omega
  · split
    · omega
    · split
      · omega
      · split <;> omega
theorem stepN_tab (e u : Bool) (col : Nat) : stepN e u col 9 % 8 = 0 ∧ col < stepN e u col 9 := by
  have : stepN e u col 9 = (col / 8 + 1) * 8 := by unfold stepN; rw [if_pos (by decide)]
  rw [this]
  omega
def colsN (e u : Bool) (col : Nat) (l : List UInt8) : Nat := l.foldl (stepN e u) col
theorem colsN_nil (e u : Bool) (col : Nat) : colsN e u col [] = col := rfl
theorem colsN_append (e u : Bool) (col : Nat) (l r : List UInt8) : colsN e u col (l ++ r) = colsN e u (colsN e u col l) r := by simp [colsN]
theorem colsN_snoc (e u : Bool) (col : Nat) (l : List UInt8) (c : UInt8) : colsN e u col (l ++ [c]) = stepN e u (colsN e u col l) c := by simp [colsN]
theorem colsN_take (e u : Bool) (col : Nat) (l : List UInt8) (k : Nat) (h : k < l.length) : colsN e u col (l.take (k + 1)) = stepN e u (colsN e u col (l.take k)) l[k] := by
  rw [List.take_succ_eq_append_getElem h, colsN_snoc]
theorem colsN_le (e u : Bool) (l : List UInt8) : ∀ col, col ≤ colsN e u col l ∧ colsN e u col l ≤ col + 8 * l.length := by
  induction l with
  | nil => intro col; exact ⟨Nat.le_refl _, Nat.le_refl _⟩
  | cons c l ih =>
    intro col
    have h1 := stepN_le e u col c
    have h2 := ih (stepN e u col c)
    simp only [colsN, List.foldl_cons, List.length_cons] at h2 ⊢
    omega
/-- A column from which on nothing is promised counts as 0. -/
def nrm (col : Int) : Nat := if col < 0 ∨ 65535 < col then 0 else col.toNat
theorem nrm_nat {n : Nat} (h : n ≤ 65535) : nrm (n : Int) = n := by
  unfold nrm
  rw [if_neg (by omega)]
  omega
theorem nrm_le (col : Int) : nrm col ≤ 65535 := by
  unfold nrm
  split <;> omega
theorem nrm_near {col : Int} (h : col < 0 ∨ 65535 < col ∨ col < 30000) : nrm col < 30000 := by
  unfold nrm
  split <;> omega
/-- n times the three bytes. -/
def offB : Nat → List UInt8
  | 0 => []
  | n + 1 => offB n ++ [8, 32, 8]
theorem offB_len (n : Nat) : (offB n).length = 3 * n := by
  induction n with
  | zero => rfl
  | succ n ih => simp [offB, ih]; omega
theorem offB_add (n m : Nat) : offB (n + m) = offB n ++ offB m := by
  induction m with
  | zero => simp [offB]
  | succ m ih => show offB (n + m) ++ _ = _; rw [ih]; simp [offB]
def rubB (e u : Bool) (col : Nat) (rest gone : List UInt8) : List UInt8 := offB (colsN e u col (rest ++ gone) - colsN e u col rest)
theorem rubB_len (e u : Bool) (col : Nat) (rest gone : List UInt8) : (rubB e u col rest gone).length ≤ 24 * gone.length := by
  unfold rubB
  rw [offB_len, colsN_append]
  have := (colsN_le e u gone (colsN e u col rest)).2
  omega
/-- In two parts, the later one first, or at once. -/
theorem rubB_parts (e u : Bool) (col : Nat) (l : List UInt8) (a b : Nat) (hab : a ≤ b) (_hb : b ≤ l.length) :
    rubB e u col (l.take b) (l.drop b) ++ rubB e u col (l.take a) ((l.take b).drop a) = rubB e u col (l.take a) (l.drop a) := by
  have h1 : l.take a ++ (l.take b).drop a = l.take b := by
    have : (l.take b).take a = l.take a := by rw [List.take_take, Nat.min_eq_left hab]
    rw [← this]
    exact List.take_append_drop a (l.take b)
  unfold rubB
  rw [List.take_append_drop, List.take_append_drop, h1, ← offB_add]
  congr 1
  have h2 : colsN e u col (l.take a) ≤ colsN e u col (l.take b) := by
    rw [← h1, colsN_append]
    exact (colsN_le e u _ _).1
  have h3 : colsN e u col (l.take b) ≤ colsN e u col l := by
    conv => rhs; rw [← List.take_append_drop b l]
    rw [colsN_append]
    exact (colsN_le e u _ _).1
  omega
theorem colsN_parts (e u : Bool) (col : Nat) (l : List UInt8) (a : Nat) : colsN e u (colsN e u col (l.take a)) (l.drop a) = colsN e u col l := by
  rw [← colsN_append, List.take_append_drop]
/-- The places of the two parts. -/
theorem places (n i k : Nat) : i % (n + 1) ≤ n ∧ i % (n + 1) + k % (n - i % (n + 1) + 1) ≤ n := by
  have h1 : i % (n + 1) < n + 1 := Nat.mod_lt _ (by omega)
  have h2 : k % (n - i % (n + 1) + 1) < n - i % (n + 1) + 1 := Nat.mod_lt _ (by omega)
  omega
end Go.Proofs.Ytjncahcigbdbgaa
