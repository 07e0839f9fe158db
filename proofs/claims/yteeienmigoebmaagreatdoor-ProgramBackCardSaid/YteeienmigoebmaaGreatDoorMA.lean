import Derived.Test.YteeienmigoebmaaGreatDoorBA
namespace Go.Proofs.YteeienmigoebmaaGreatDoor
open Go.RowKit

/-- Is an opcode a flag? -/
def flagB (op : Int) : Bool := (decide (30 ≤ op) && decide (op ≤ 42)) || (decide (50 ≤ op) && decide (op ≤ 62)) || (decide (70 ≤ op) && decide (op ≤ 75)) || (decide (90 ≤ op) && decide (op ≤ 93))
/-- Where its bit stands. -/
def kb (op : Int) : Nat := (op - 30).toNat
theorem flag_rng {op : Int} (h : flagB op = true) : 30 ≤ op ∧ op ≤ 93 := by
  simp [flagB] at h
  omega
theorem kb_lt {op : Int} (h : flagB op = true) : kb op < 64 := by
  have := flag_rng h
  unfold kb
  omega
theorem kb_inj {a b : Int} (ha : flagB a = true) (hb : flagB b = true) (h : kb a = kb b) : a = b := by
  have := flag_rng ha
  have := flag_rng hb
  unfold kb at h
  omega
def top : Nat := 18446744073709551615
/-- A number's flags with one on, or off. -/
def setN (f : Nat) (op : Int) (on : Bool) : Nat := if flagB op = true then (if on = true then f ||| 2 ^ kb op else f &&& (top - 2 ^ kb op)) else f
def hasN (f : Nat) (op : Int) : Bool := flagB op && f.testBit (kb op)
theorem pow_lt {k : Nat} (h : k < 64) : 2 ^ k < 18446744073709551616 := by
  have : 2 ^ k < 2 ^ 64 := Nat.pow_lt_pow_right (by decide) h
  simpa using this
theorem testBit_not {k i : Nat} (hk : k < 64) : (top - 2 ^ k).testBit i = (decide (i < 64) && !decide (k = i)) := by
  have h := Nat.testBit_two_pow_sub_succ (x := 2 ^ k) (n := 64) (by simpa using pow_lt hk) i
  have e : 2 ^ 64 - (2 ^ k + 1) = top - 2 ^ k := by unfold top; omega
  rw [e] at h
  rw [h, Nat.testBit_two_pow]
theorem big_bit {f i : Nat} (hf : f < 18446744073709551616) (hi : 64 ≤ i) : f.testBit i = false := by
  apply Nat.testBit_lt_two_pow
  have : 2 ^ 64 ≤ 2 ^ i := Nat.pow_le_pow_right (by decide) hi
  have e : (2 : Nat) ^ 64 = 18446744073709551616 := by decide
  omega
theorem setN_bit {f : Nat} (hf : f < 18446744073709551616) (op : Int) (on : Bool) (i : Nat) : (setN f op on).testBit i = if flagB op = true ∧ kb op = i then on else f.testBit i := by
  unfold setN
  by_cases hg : flagB op = true
  · have hk := kb_lt hg
    cases on
    · simp only [hg, if_true, Bool.false_eq_true, if_false, true_and, Nat.testBit_and, testBit_not hk]
      by_cases he : kb op = i
      · simp [he]
      · by_cases hi : i < 64
        · simp [he, hi]
        · simp [he, hi, big_bit hf (Nat.le_of_not_lt hi)]
    · simp only [hg, if_true, true_and, Nat.testBit_or, Nat.testBit_two_pow]
      by_cases he : kb op = i
      · simp [he]
      · simp [he]
  · simp [hg]
theorem setN_lt {f : Nat} (hf : f < 18446744073709551616) (op : Int) (on : Bool) : setN f op on < 18446744073709551616 := by
  unfold setN
  by_cases hg : flagB op = true
  · have hk := kb_lt hg
    cases on
    · simp only [hg, if_true, Bool.false_eq_true, if_false]
      exact Nat.lt_of_le_of_lt Nat.and_le_left hf
    · simp only [hg, if_true]
      have := Nat.or_lt_two_pow (n := 64) (by simpa using hf) (by simpa using pow_lt hk)
      simpa using this
  · simpa [hg] using hf
theorem bits_eq {a b : Nat} (ha : a < 18446744073709551616) (hb : b < 18446744073709551616) (h : ∀ i, i < 64 → a.testBit i = b.testBit i) : a = b := by
  apply Nat.eq_of_testBit_eq
  intro i
  by_cases hi : i < 64
  · exact h i hi
  · rw [big_bit ha (Nat.le_of_not_lt hi), big_bit hb (Nat.le_of_not_lt hi)]
theorem setN_has {f : Nat} (hf : f < 18446744073709551616) (op : Int) (on : Bool) (p : Int) : hasN (setN f op on) p = if flagB op = true ∧ op = p then on else hasN f p := by
  unfold hasN
  by_cases hp : flagB p = true
  · rw [setN_bit hf]
    by_cases hg : flagB op = true
    · by_cases he : op = p
      · subst he; simp [hg]
      · have : kb op ≠ kb p := fun e => he (kb_inj hg hp e)
        simp [hp, he, this]
    · simp [hp, hg]
  · by_cases hg : flagB op = true
    · have he : op ≠ p := by rintro rfl; exact hp hg
      simp [hp, he]
    · simp [hp, hg]
/-- What the document's Set does: the bit's number is added, or taken away. -/
theorem add_bit {f k : Nat} (hk : k < 64) (hf : f < 18446744073709551616) (h : f.testBit k = false) : f + 2 ^ k = f ||| 2 ^ k := by
  have h0 : BitVec.ofNat 64 f &&& BitVec.ofNat 64 (2 ^ k) = 0#64 := by
    apply BitVec.eq_of_getLsbD_eq
    intro i hi
    simp only [BitVec.getLsbD_and, BitVec.getLsbD_ofNat, Nat.testBit_two_pow]
    by_cases he : k = i
    · subst he; simp [h]
    · simp [he]
  have h1 := BitVec.add_eq_or_of_and_eq_zero _ _ h0
  have h2 := congrArg BitVec.toNat h1
  have hp := pow_lt hk
  simp only [BitVec.toNat_add, BitVec.toNat_or, BitVec.toNat_ofNat] at h2
  have e : (2 : Nat) ^ 64 = 18446744073709551616 := by decide
  rw [e, Nat.mod_eq_of_lt hf, Nat.mod_eq_of_lt hp] at h2
  have hor : f ||| 2 ^ k < 18446744073709551616 := by
    have := Nat.or_lt_two_pow (n := 64) (by simpa using hf) (by simpa using hp)
    simpa using this
  have hlt : f + 2 ^ k < 18446744073709551616 := by
    by_cases hlt : f + 2 ^ k < 18446744073709551616
    · exact hlt
    · exfalso
      have hle : f ||| 2 ^ k ≥ f := Nat.left_le_or
      have : (f + 2 ^ k) % 18446744073709551616 = f + 2 ^ k - 18446744073709551616 := by omega
      omega
  rw [Nat.mod_eq_of_lt hlt] at h2
  exact h2
theorem sub_bit {f k : Nat} (hk : k < 64) (hf : f < 18446744073709551616) (h : f.testBit k = true) : f - 2 ^ k = f &&& (top - 2 ^ k) ∧ 2 ^ k ≤ f := by
  have hlt : f &&& (top - 2 ^ k) < 18446744073709551616 := Nat.lt_of_le_of_lt Nat.and_le_left hf
  have hb : (f &&& (top - 2 ^ k)).testBit k = false := by
    rw [Nat.testBit_and, testBit_not hk]; simp
  have h1 := add_bit hk hlt hb
  have h2 : (f &&& (top - 2 ^ k)) ||| 2 ^ k = f := by
    have hor : (f &&& (top - 2 ^ k)) ||| 2 ^ k < 18446744073709551616 := by
      have := Nat.or_lt_two_pow (n := 64) (by simpa using hlt) (by simpa using pow_lt hk)
      simpa using this
    refine bits_eq hor hf fun i hi => ?_
    simp only [Nat.testBit_or, Nat.testBit_and, testBit_not hk, Nat.testBit_two_pow]
    by_cases he : k = i
    · subst he; simp [h]
    · simp [he, hi]
  rw [h2] at h1
  omega
theorem setN_add {f : Nat} {op : Int} (hf : f < 18446744073709551616) (hg : flagB op = true) (h : hasN f op = false) : f + 2 ^ kb op = setN f op true ∧ f + 2 ^ kb op < 18446744073709551616 := by
  have h' : f.testBit (kb op) = false := by simpa [hasN, hg] using h
  have e : setN f op true = f + 2 ^ kb op := by simp [setN, hg, add_bit (kb_lt hg) hf h']
  exact ⟨e.symm, e ▸ setN_lt hf op true⟩
theorem setN_sub {f : Nat} {op : Int} (hf : f < 18446744073709551616) (hg : flagB op = true) (h : hasN f op = true) : f - 2 ^ kb op = setN f op false ∧ 2 ^ kb op ≤ f := by
  have h' : f.testBit (kb op) = true := by simpa [hasN, hg] using h
  have e := sub_bit (kb_lt hg) hf h'
  exact ⟨by simp [setN, hg, e.1], e.2⟩
theorem setN_same {f : Nat} {op : Int} {on : Bool} (hf : f < 18446744073709551616) (h : hasN f op = on) : setN f op on = f := by
  refine bits_eq (setN_lt hf op on) hf fun i hi => ?_
  rw [setN_bit hf]
  split
  · rename_i hh
    obtain ⟨hg, rfl⟩ := hh
    simpa [hasN, hg] using h.symm
  · rfl
theorem setN_no {f : Nat} {op : Int} {on : Bool} (hg : flagB op = false) : setN f op on = f := by simp [setN, hg]
/-- Has, as the program asks it, and as the document does. -/
theorem has_and (f : Nat) (k : Nat) : (f &&& 2 ^ k = 0) ↔ f.testBit k = false := by
  constructor
  · intro h
    have h1 := congrArg (fun x => x.testBit k) h
    simpa [Nat.testBit_and, Nat.testBit_two_pow] using h1
  · intro h
    apply Nat.eq_of_testBit_eq
    intro i
    rw [Nat.testBit_and, Nat.testBit_two_pow, Nat.zero_testBit]
    by_cases he : k = i
    · subst he; simp [h]
    · simp [he]
theorem has_div (f k : Nat) : (f / 2 ^ k % 2 = 1) ↔ f.testBit k = true := by
  rw [Nat.testBit_eq_decide_div_mod_eq]; simp
/-- The flags, as the iterator yields them. -/
def flagsL : List Int := [30, 31, 32, 33, 34, 35, 36, 37, 38, 39, 40, 41, 42, 50, 51, 52, 53, 54, 55, 56, 57, 58, 59, 60, 61, 62, 70, 71, 72, 73, 74, 75, 90, 91, 92, 93]
theorem mem_flags (op : Int) : op ∈ flagsL ↔ flagB op = true := by
  constructor
  · intro h
    have : ∀ x ∈ flagsL, flagB x = true := by decide
    exact this op h
  · intro h
    simp [flagB] at h
    simp [flagsL]
    omega
def maskL (l : List Int) : Nat := l.foldl (fun a op => a ||| 2 ^ kb op) 0
theorem maskL_snoc (l : List Int) (op : Int) : maskL (l ++ [op]) = maskL l ||| 2 ^ kb op := by simp [maskL]
def mask : Nat := maskL flagsL
theorem mask_bit (i : Nat) (hi : i < 64) : mask.testBit i = flagB ((i : Int) + 30) := by
  have : ∀ j : Fin 64, mask.testBit j.1 = flagB ((j.1 : Int) + 30) := by decide
  exact this ⟨i, hi⟩
theorem maskL_lt (l : List Int) (h : ∀ x ∈ l, flagB x = true) : maskL l < 18446744073709551616 := by
  have : ∀ (l : List Int) (a : Nat), a < 18446744073709551616 → (∀ x ∈ l, flagB x = true) → l.foldl (fun a op => a ||| 2 ^ kb op) a < 18446744073709551616 := by
    intro l
    induction l with
    | nil => intro a ha _; exact ha
    | cons x l ih =>
      intro a ha hl
      refine ih _ ?_ (fun y hy => hl y (by simp [hy]))
      have := Nat.or_lt_two_pow (n := 64) (by simpa using ha) (by simpa using pow_lt (kb_lt (hl x (by simp))))
      simpa using this
  exact this l 0 (by decide) h
theorem mask_lt : mask < 18446744073709551616 := maskL_lt flagsL fun x hx => (mem_flags x).1 hx
/-- What is left of flags when those below an opcode are off. -/
def restN (f : Nat) : Nat → Nat
  | 0 => f
  | n + 1 => setN (restN f n) (30 + n) false
theorem restN_lt {f : Nat} (hf : f < 18446744073709551616) : ∀ n, restN f n < 18446744073709551616
  | 0 => hf
  | n + 1 => setN_lt (restN_lt hf n) _ _
theorem restN_bit {f : Nat} (hf : f < 18446744073709551616) (i : Nat) (hi : i < 64) : ∀ n, (restN f n).testBit i = (f.testBit i && !(flagB ((i : Int) + 30) && decide (i < n)))
  | 0 => by simp [restN]
  | n + 1 => by
    show (setN (restN f n) (30 + n) false).testBit i = _
    rw [setN_bit (restN_lt hf n), restN_bit hf i hi n]
    by_cases he : i = n
    · subst he
      have e : (i : Int) + 30 = 30 + i := by omega
      by_cases hg : flagB (30 + (i : Int)) = true
      · have : kb (30 + (i : Int)) = i := by unfold kb; omega
        simp [hg, this, e]
      · simp [hg, e]
    · have h1 : ¬ (flagB (30 + (n : Int)) = true ∧ kb (30 + (n : Int)) = i) := fun h => by
        have := h.2
        unfold kb at this
        omega
      have h2 : decide (i < n + 1) = decide (i < n) := by
        apply decide_eq_decide.2; omega
      simp only [h1, if_false, h2]
theorem right_eq {f : Nat} (hf : f < 18446744073709551616) : (f &&& (top - mask) = 0) ↔ restN f 64 = 0 := by
  have hm := mask_lt
  have htm : ∀ i, i < 64 → (top - mask).testBit i = !flagB ((i : Int) + 30) := by
    intro i hi
    have h := Nat.testBit_two_pow_sub_succ (x := mask) (n := 64) (by simpa using hm) i
    have e : 2 ^ 64 - (mask + 1) = top - mask := by unfold top; omega
    rw [e] at h
    rw [h, mask_bit i hi]
    simp [hi]
  have key : f &&& (top - mask) = restN f 64 := by
    refine bits_eq (Nat.lt_of_le_of_lt Nat.and_le_left hf) (restN_lt hf 64) fun i hi => ?_
    rw [Nat.testBit_and, htm i hi, restN_bit hf i hi]
    simp [hi]
  rw [key]
/-- No other bits are on. -/
def okF (f : Nat) : Prop := f &&& (top - mask) = 0
instance (f : Nat) : Decidable (okF f) := inferInstanceAs (Decidable (_ = _))
theorem okF_iff {f : Nat} (hf : f < 18446744073709551616) : okF f ↔ ∀ i, i < 64 → f.testBit i = true → flagB ((i : Int) + 30) = true := by
  unfold okF
  rw [right_eq hf]
  constructor
  · intro h i hi hb
    have h1 := restN_bit hf i hi 64
    rw [h] at h1
    simp [hb, hi] at h1
    exact h1
  · intro h
    refine bits_eq (restN_lt hf 64) (by decide) fun i hi => ?_
    rw [restN_bit hf i hi]
    cases hb : f.testBit i
    · simp
    · simp [h i hi hb, hi]
theorem okF_set {f : Nat} (hf : f < 18446744073709551616) (op : Int) (on : Bool) : okF (setN f op on) ↔ okF f := by
  rw [okF_iff (setN_lt hf op on), okF_iff hf]
  have hk : ∀ i, i < 64 → flagB op = true ∧ kb op = i → flagB ((i : Int) + 30) = true := by
    rintro i hi ⟨hg, rfl⟩
    have := flag_rng hg
    have e : ((kb op : Nat) : Int) + 30 = op := by unfold kb; omega
    rw [e]; exact hg
  constructor
  · intro h i hi hb
    by_cases hh : flagB op = true ∧ kb op = i
    · exact hk i hi hh
    · exact h i hi (by rw [setN_bit hf, if_neg hh]; exact hb)
  · intro h i hi hb
    by_cases hh : flagB op = true ∧ kb op = i
    · exact hk i hi hh
    · rw [setN_bit hf, if_neg hh] at hb
      exact h i hi hb
end Go.Proofs.YteeienmigoebmaaGreatDoor
