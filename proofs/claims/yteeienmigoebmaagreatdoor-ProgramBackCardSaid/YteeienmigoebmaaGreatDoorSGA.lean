import Derived.Test.YteeienmigoebmaaGreatDoorWW
namespace Go.Proofs.YteeienmigoebmaaGreatDoor.L18
open Go.RowKit

/-! Layer 18 (sigset): the maths. -/
theorem pow_lt {k : Nat} (h : k < 64) : 2 ^ k < 18446744073709551616 := by
  have : 2 ^ k < 2 ^ 64 := Nat.pow_lt_pow_right (by decide) h
  simpa using this
theorem big_bit {f i : Nat} (hf : f < 18446744073709551616) (hi : 64 ≤ i) : f.testBit i = false := by
  apply Nat.testBit_lt_two_pow
  have : 2 ^ 64 ≤ 2 ^ i := Nat.pow_le_pow_right (by decide) hi
  have e : (2 : Nat) ^ 64 = 18446744073709551616 := by decide
  omega
theorem bits_eq {a b : Nat} (ha : a < 18446744073709551616) (hb : b < 18446744073709551616) (h : ∀ i, i < 64 → a.testBit i = b.testBit i) : a = b := by
  apply Nat.eq_of_testBit_eq
  intro i
  by_cases hi : i < 64
  · exact h i hi
  · rw [big_bit ha (Nat.le_of_not_lt hi), big_bit hb (Nat.le_of_not_lt hi)]
theorem testBit_not {k i : Nat} (hk : k < 64) : (18446744073709551615 - 2 ^ k).testBit i = (decide (i < 64) && !decide (k = i)) := by
  have h := Nat.testBit_two_pow_sub_succ (x := 2 ^ k) (n := 64) (by simpa using pow_lt hk) i
  have e : 2 ^ 64 - (2 ^ k + 1) = 18446744073709551615 - 2 ^ k := by omega
  rw [e] at h
  rw [h, Nat.testBit_two_pow]
theorem add_bit {f k : Nat} (hk : k < 64) (hf : f < 18446744073709551616) (h : f.testBit k = false) : f + 2 ^ k = f ||| 2 ^ k := by
  have h0 : BitVec.ofNat 64 f &&& BitVec.ofNat 64 (2 ^ k) = 0#64 := by
    apply BitVec.eq_of_getLsbD_eq
    intro i hi
    simp only [BitVec.getLsbD_and, BitVec.getLsbD_ofNat, Nat.testBit_two_pow]
    by_cases he : k = i
    · subst he; simp [h]
    · simp [he]
  have h1 := BitVec.add_eq_or_of_and_eq_zero _ _ h0
  have h2 := congrArg BitVec.toNat h1
  have hp := pow_lt hk
  simp only [BitVec.toNat_add, BitVec.toNat_or, BitVec.toNat_ofNat] at h2
  have e : (2 : Nat) ^ 64 = 18446744073709551616 := by decide
  rw [e, Nat.mod_eq_of_lt hf, Nat.mod_eq_of_lt hp] at h2
  have hor : f ||| 2 ^ k < 18446744073709551616 := by
    have := Nat.or_lt_two_pow (n := 64) (by simpa using hf) (by simpa using hp)
    simpa using this
  have hlt : f + 2 ^ k < 18446744073709551616 := by
    by_cases hlt : f + 2 ^ k < 18446744073709551616
    · exact hlt
    · exfalso
      have hle : f ||| 2 ^ k ≥ f := Nat.left_le_or
      have : (f + 2 ^ k) % 18446744073709551616 = f + 2 ^ k - 18446744073709551616 := by omega
      omega
  rw [Nat.mod_eq_of_lt hlt] at h2
  exact h2
theorem sub_bit {f k : Nat} (hk : k < 64) (hf : f < 18446744073709551616) (h : f.testBit k = true) : f - 2 ^ k = f &&& (18446744073709551615 - 2 ^ k) ∧ 2 ^ k ≤ f := by
  have hlt : f &&& (18446744073709551615 - 2 ^ k) < 18446744073709551616 := Nat.lt_of_le_of_lt Nat.and_le_left hf
  have hb : (f &&& (18446744073709551615 - 2 ^ k)).testBit k = false := by
    rw [Nat.testBit_and, testBit_not hk]; simp
  have h1 := add_bit hk hlt hb
  have h2 : (f &&& (18446744073709551615 - 2 ^ k)) ||| 2 ^ k = f := by
    have hor : (f &&& (18446744073709551615 - 2 ^ k)) ||| 2 ^ k < 18446744073709551616 := by
      have := Nat.or_lt_two_pow (n := 64) (by simpa using hlt) (by simpa using pow_lt hk)
      simpa using this
    refine bits_eq hor hf fun i hi => ?_
    simp only [Nat.testBit_or, Nat.testBit_and, testBit_not hk, Nat.testBit_two_pow]
    by_cases he : k = i
    · subst he; simp [h]
    · simp [he, hi]
  rw [h2] at h1
  omega
theorem has_and (f : Nat) (k : Nat) : (f &&& 2 ^ k = 0) ↔ f.testBit k = false := by
  constructor
  · intro h
    have h1 := congrArg (fun x => x.testBit k) h
    simpa [Nat.testBit_and, Nat.testBit_two_pow] using h1
  · intro h
    apply Nat.eq_of_testBit_eq
    intro i
    rw [Nat.testBit_and, Nat.testBit_two_pow, Nat.zero_testBit]
    by_cases he : k = i
    · subst he; simp [h]
    · simp [he]
theorem has_div (f k : Nat) : (f / 2 ^ k % 2 = 1) ↔ f.testBit k = true := by
  rw [Nat.testBit_eq_decide_div_mod_eq]; simp

/-- What there is to say of each number: its name, what it does, whether a client may name it. -/
def tab : List (List UInt8 × Int × Bool) := [([], 0, false), ([72, 85, 80], 1, true), ([73, 78, 84], 1, true), ([81, 85, 73, 84], 2, true), ([73, 76, 76], 2, true), ([84, 82, 65, 80], 2, false), ([65, 66, 82, 84], 2, true), ([66, 85, 83], 2, false), ([70, 80, 69], 2, true), ([75, 73, 76, 76], 1, true), ([85, 83, 82, 49], 1, true), ([83, 69, 71, 86], 2, true), ([85, 83, 82, 50], 1, true), ([80, 73, 80, 69], 1, true), ([65, 76, 82, 77], 1, true), ([84, 69, 82, 77], 1, true), ([], 0, false), ([67, 72, 76, 68], 3, false), ([67, 79, 78, 84], 5, false), ([83, 84, 79, 80], 4, false), ([84, 83, 84, 80], 4, false), ([84, 84, 73, 78], 4, false), ([84, 84, 79, 85], 4, false), ([], 0, false), ([], 0, false), ([], 0, false), ([], 0, false), ([], 0, false), ([87, 73, 78, 67, 72], 3, false)]
def row (k : Nat) : List UInt8 × Int × Bool := tab.getD k ([], 0, false)
def bs (l : List UInt8) : ByteArray := ⟨l.toArray⟩
/-- Is a number a signal? -/
def known (g : Int) : Bool := !(row g.toNat).1.isEmpty
def nmS (g : Int) : ByteArray := bs (row g.toNat).1
def efS (g : Int) : Int := (row g.toNat).2.1
def wiS (g : Int) : Bool := (row g.toNat).2.2
/-- All signals. -/
def sigL : List Int := [1, 2, 3, 4, 5, 6, 7, 8, 9, 10, 11, 12, 13, 14, 15, 17, 18, 19, 20, 21, 22, 28]
theorem row_out {k : Nat} (h : 29 ≤ k) : row k = ([], 0, false) := by
  unfold row
  rw [List.getD_eq_getElem?_getD, List.getElem?_eq_none (by exact h)]
  rfl
theorem known_rng {g : Int} (h : known g = true) : 1 ≤ g ∧ g ≤ 28 := by
  constructor
  · by_cases h0 : 1 ≤ g
    · exact h0
    · exfalso
      have : g.toNat = 0 := by omega
      rw [known, this] at h
      exact absurd h (by decide)
  · by_cases h0 : g ≤ 28
    · exact h0
    · exfalso
      rw [known, row_out (by omega)] at h
      exact absurd h (by decide)
theorem mem_sigL (g : Int) : g ∈ sigL ↔ known g = true := by
  constructor
  · intro h
    have : ∀ x ∈ sigL, known x = true := by decide
    exact this g h
  · intro h
    have hr := known_rng h
    have : ∀ k : Fin 29, known ((k.1 : Nat) : Int) = true → ((k.1 : Nat) : Int) ∈ sigL := by decide
    have h2 := this ⟨g.toNat, by omega⟩
    have e : ((g.toNat : Nat) : Int) = g := by omega
    simp only [e] at h2
    exact h2 h
theorem known_lt {g : Int} (h : known g = true) : g.toNat < 64 := by
  have := known_rng h
  omega
theorem bs_inj {a b : List UInt8} (h : bs a = bs b) : a = b := by
  have := congrArg ByteArray.data h
  simpa [bs] using this
theorem bs_nil (l : List UInt8) : decide (bs l = ⟨#[]⟩) = l.isEmpty := by
  cases l with
  | nil => rfl
  | cons x r =>
    have : bs (x :: r) ≠ ⟨#[]⟩ := fun h => by
      have := congrArg (fun b => b.data.toList) h
      simp [bs] at this
    simp only [List.isEmpty_cons]
    exact decide_eq_false this
/-- Names differ. -/
theorem name_inj {a b : Int} (ha : known a = true) (hb : known b = true) (h : nmS a = nmS b) : a = b := by
  have h := bs_inj h
  have h1 := known_rng ha
  have h2 := known_rng hb
  have : ∀ j k : Fin 29, (row j.1).1.isEmpty = false → (row j.1).1 = (row k.1).1 → j = k := by decide
  have := this ⟨a.toNat, by omega⟩ ⟨b.toNat, by omega⟩ (by simpa [known] using ha) h
  have := congrArg Fin.val this
  simp at this
  omega

/-! Sets. -/
def hasS (s : Nat) (g : Int) : Bool := known g && s.testBit g.toNat
def addS (s : Nat) (g : Int) : Nat := if known g = true then s ||| 2 ^ g.toNat else s
def delS (s : Nat) (g : Int) : Nat := if known g = true then s &&& (18446744073709551615 - 2 ^ g.toNat) else s
def listS (s : Nat) : List Int := sigL.filter (hasS s)
def ofS (l : List Int) : Nat := l.foldl addS 0
def blockS (s : Nat) : Nat := delS (delS (ofS (listS s)) 9) 19
abbrev U64 (s : Nat) : Prop := s < 18446744073709551616
theorem addS_lt {s : Nat} (h : U64 s) (g : Int) : U64 (addS s g) := by
  unfold addS
  split
  · have := Nat.or_lt_two_pow (n := 64) (by simpa using h) (by simpa using pow_lt (known_lt (by assumption)))
    simpa using this
  · exact h
theorem delS_lt {s : Nat} (h : U64 s) (g : Int) : U64 (delS s g) := by
  unfold delS
  split
  · exact Nat.lt_of_le_of_lt Nat.and_le_left h
  · exact h
theorem fold_lt (f : Nat → Int → Nat) (hf : ∀ s g, U64 s → U64 (f s g)) : ∀ (l : List Int) (s : Nat), U64 s → U64 (l.foldl f s)
  | [], _, h => h
  | g :: l, s, h => fold_lt f hf l (f s g) (hf s g h)
theorem ofS_lt (l : List Int) : U64 (ofS l) := fold_lt addS (fun _ g h => addS_lt h g) l 0 (by decide)
theorem blockS_lt (s : Nat) : U64 (blockS s) := delS_lt (delS_lt (ofS_lt _) _) _
theorem known_toNat {a b : Int} (ha : known a = true) (hb : known b = true) : a.toNat = b.toNat ↔ a = b := by
  have := known_rng ha
  have := known_rng hb
  omega
theorem has_add (s : Nat) (g h : Int) : hasS (addS s g) h = (hasS s h || (known g && decide (g = h))) := by
  unfold hasS addS
  by_cases hg : known g = true
  · by_cases hh : known h = true
    · simp only [hg, if_true, hh, Bool.true_and, Nat.testBit_or, Nat.testBit_two_pow]
      have e : decide (g.toNat = h.toNat) = decide (g = h) := decide_eq_decide.2 (known_toNat hg hh)
      rw [e]
    · have : g ≠ h := by rintro rfl; exact hh hg
      simp [hh, this]
  · simp [hg]
theorem has_del (s : Nat) (g h : Int) : hasS (delS s g) h = (hasS s h && !(known g && decide (g = h))) := by
  unfold hasS delS
  by_cases hg : known g = true
  · by_cases hh : known h = true
    · simp only [hg, if_true, hh, Bool.true_and, Nat.testBit_and, testBit_not (known_lt hg)]
      have e : decide (g.toNat = h.toNat) = decide (g = h) := decide_eq_decide.2 (known_toNat hg hh)
      have := known_lt hh
      simp [this, e]
    · simp [hh]
  · simp [hg]
theorem has_fold_add : ∀ (l : List Int) (s : Nat) (h : Int), hasS (l.foldl addS s) h = (hasS s h || (known h && l.contains h))
  | [], s, h => by simp
  | g :: l, s, h => by
    rw [List.foldl_cons, has_fold_add l, has_add]
    by_cases e : g = h
    · subst e; cases known g <;> simp
    · have e2 : decide (h = g) = false := decide_eq_false (fun x => e x.symm)
      simp [e, e2]
theorem has_fold_del : ∀ (l : List Int) (s : Nat) (h : Int), hasS (l.foldl delS s) h = (hasS s h && !l.contains h)
  | [], s, h => by simp
  | g :: l, s, h => by
    rw [List.foldl_cons, has_fold_del l, has_del]
    by_cases e : g = h
    · subst e
      by_cases hk : known g = true
      · simp [hk]
      · have : hasS s g = false := by simp [hasS, hk]
        simp [this]
    · have e2 : decide (h = g) = false := decide_eq_false (fun x => e x.symm)
      simp [e, e2]
theorem has_known {s : Nat} {g : Int} (h : hasS s g = true) : known g = true := by
  unfold hasS at h
  simp at h
  exact h.1
theorem mem_listS (s : Nat) (g : Int) : g ∈ listS s ↔ hasS s g = true := by
  unfold listS
  rw [List.mem_filter, mem_sigL]
  exact ⟨fun h => h.2, fun h => ⟨has_known h, h⟩⟩
theorem con_listS (s : Nat) (g : Int) : (listS s).contains g = hasS s g := by
  rw [Bool.eq_iff_iff, List.contains_iff_mem, mem_listS]
theorem has_of_list (s : Nat) (h : Int) : hasS (ofS (listS s)) h = hasS s h := by
  unfold ofS
  rw [has_fold_add, con_listS]
  cases hk : known h
  · simp [hasS, hk]
  · simp [hasS, hk]
theorem list_congr {s t : Nat} (h : ∀ g, hasS s g = hasS t g) : listS s = listS t := by
  unfold listS
  congr 1
  funext g
  exact h g
theorem list_of_list (s : Nat) : listS (ofS (listS s)) = listS s := list_congr (has_of_list s)
theorem has_block (s : Nat) (h : Int) : hasS (blockS s) h = (hasS s h && !(decide (h = 9) || decide (h = 19))) := by
  unfold blockS
  have k9 : known 9 = true := by decide
  have k19 : known 19 = true := by decide
  rw [has_del, has_del, has_of_list, k9, k19]
  have e1 : decide ((9 : Int) = h) = decide (h = 9) := decide_eq_decide.2 ⟨Eq.symm, Eq.symm⟩
  have e2 : decide ((19 : Int) = h) = decide (h = 19) := decide_eq_decide.2 ⟨Eq.symm, Eq.symm⟩
  rw [e1, e2]
  cases hasS s h <;> cases decide (h = 9) <;> cases decide (h = 19) <;> rfl
/-- The first of some signals that a mask lets through: the document's, and the program's. -/
def pickS (p m : Nat) : Option Int := ([9, 19, 18] ++ listS p).find? (fun g => hasS p g && !hasS (blockS m) g)
def freeS (p m : Nat) : Nat := (listS (blockS m)).foldl delS p
def pickP (p m : Nat) : Option Int := ([9, 19, 18] ++ listS (freeS p m)).find? (hasS (freeS p m))
theorem freeS_lt {p : Nat} (h : U64 p) (m : Nat) : U64 (freeS p m) := fold_lt delS (fun _ g h => delS_lt h g) _ _ h
theorem has_free (p m : Nat) (g : Int) : hasS (freeS p m) g = (hasS p g && !hasS (blockS m) g) := by
  unfold freeS
  rw [has_fold_del, con_listS]
theorem find_filter {α : Type} (p q : α → Bool) : ∀ l : List α, (l.filter p).find? q = l.find? (fun x => p x && q x)
  | [] => rfl
  | x :: l => by
    by_cases h : p x = true
    · rw [List.filter_cons_of_pos h, List.find?_cons, List.find?_cons, h, find_filter p q l]
      simp
    · simp only [Bool.not_eq_true] at h
      rw [List.filter_cons_of_neg (by simp [h]), List.find?_cons, h, find_filter p q l]
      simp
theorem find_congr {α : Type} {p q : α → Bool} (h : ∀ x, p x = q x) (l : List α) : l.find? p = l.find? q := by
  have : p = q := funext h
  rw [this]
theorem pick_eq (p m : Nat) : pickP p m = pickS p m := by
  unfold pickP pickS
  have e : hasS (freeS p m) = fun g => hasS p g && !hasS (blockS m) g := funext (has_free p m)
  rw [List.find?_append, List.find?_append, e]
  congr 1
  unfold listS
  rw [find_filter, find_filter, e]
  refine find_congr (fun x => ?_) _
  show (hasS p x && !hasS (blockS m) x && (hasS p x && !hasS (blockS m) x)) = (hasS p x && (hasS p x && !hasS (blockS m) x))
  cases hasS p x <;> cases hasS (blockS m) x <;> rfl
theorem pick_has {p m : Nat} {g : Int} (h : pickS p m = some g) : hasS p g = true ∧ (g ≠ 9 → g ≠ 19 → hasS m g = false) := by
  have := List.find?_some h
  simp only [Bool.and_eq_true, Bool.not_eq_true'] at this
  refine ⟨this.1, fun h1 h2 => ?_⟩
  have h3 := this.2
  rw [has_block] at h3
  simpa [h1, h2] using h3
theorem pick_del {p m : Nat} {g : Int} (hp : pickS p m = some g) : ∀ k, pickS (delS p g) m = some k → k ≠ g := by
  rintro k hk rfl
  have h1 := (pick_has hk).1
  have h2 := has_known (pick_has hp).1
  rw [has_del, h2] at h1
  simp at h1
/-! Names. -/
def numS (n : ByteArray) : Option Int := sigL.find? (fun g => decide (nmS g = n))
def iK (k : Nat) : Int := k
theorem num_range (n : ByteArray) : ((List.range 29).find? fun k => known (iK k) && decide (nmS (iK k) = n)).map iK = numS n := by
  have e : sigL = ((List.range 29).filter fun k => known (iK k)).map iK := by decide
  unfold numS
  rw [e, List.find?_map, find_filter]
  rfl
theorem num_name {g : Int} (h : known g = true) : numS (nmS g) = some g := by
  unfold numS
  cases hq : sigL.find? (fun x => decide (nmS x = nmS g)) with
  | none =>
    have := List.find?_eq_none.1 hq g ((mem_sigL g).2 h)
    exact absurd (decide_eq_true rfl) this
  | some x =>
    have h1 := List.find?_some hq
    have h2 := (mem_sigL x).1 (List.mem_of_find?_eq_some hq)
    rw [name_inj h2 h (of_decide_eq_true h1)]
theorem num_none : numS ⟨#[]⟩ = none := by
  unfold numS
  rw [List.find?_eq_none]
  intro x hx
  have hk := (mem_sigL x).1 hx
  rw [nmS, bs_nil]
  simpa [known] using hk
theorem nmS_none {g : Int} (h : known g = false) : nmS g = ⟨#[]⟩ := by
  have : (row g.toNat).1 = [] := by simpa [known] using h
  rw [nmS, this]
  rfl
theorem wiS_none {g : Int} (h : known g = false) : wiS g = false := by
  have h1 : ∀ k : Fin 29, (row k.1).1.isEmpty = true → (row k.1).2.2 = false := by decide
  have h2 : (row g.toNat).1.isEmpty = true := by simpa [known] using h
  by_cases hk : g.toNat < 29
  · exact h1 ⟨g.toNat, hk⟩ h2
  · rw [wiS, row_out (by omega)]
/-! Lists rise, and a set with one more has one more. -/
theorem listS_sorted (s : Nat) : (listS s).Pairwise (· < ·) := by
  unfold listS
  have : sigL.Pairwise (· < ·) := by decide
  exact this.filter _
theorem listS_len (s : Nat) : (listS s).length ≤ 22 := by
  unfold listS
  exact Nat.le_trans (List.length_filter_le _ _) (by decide)
theorem list_range (s : Nat) : ((List.range 29).filter fun k => hasS s (iK k)).map iK = listS s := by
  have e : sigL = ((List.range 29).filter fun k => known (iK k)).map iK := by decide
  unfold listS
  rw [e, List.filter_map, List.filter_filter]
  congr 2
  funext k
  simp only [Function.comp]
  cases hk : known (iK k)
  · simp [hasS, hk]
  · simp
theorem filter_or_len (p : Int → Bool) (g : Int) (hp : p g = false) : ∀ l : List Int, l.Nodup → (l.filter (fun x => p x || decide (g = x))).length = (l.filter p).length + (if g ∈ l then 1 else 0)
  | [], _ => by simp
  | x :: l, hn => by
    have hx : x ∉ l := (List.nodup_cons.1 hn).1
    have ih := filter_or_len p g hp l (List.nodup_cons.1 hn).2
    by_cases e : g = x
    · subst e
      rw [if_neg hx] at ih
      rw [List.filter_cons_of_pos (by simp), List.filter_cons_of_neg (by simp [hp])]
      simp [ih]
    · by_cases hq : p x = true
      · rw [List.filter_cons_of_pos (by simp [hq]), List.filter_cons_of_pos hq]
        simp only [List.length_cons, ih, List.mem_cons, e, false_or]
        omega
      · rw [List.filter_cons_of_neg (by simp [hq, e]), List.filter_cons_of_neg hq]
        simp only [ih, List.mem_cons, e, false_or]
theorem len_add (s : Nat) (g : Int) : (listS (addS s g)).length = (listS s).length + (if known g && !hasS s g then 1 else 0) := by
  by_cases hk : known g = true
  · cases hh : hasS s g
    · have e : listS (addS s g) = sigL.filter (fun x => hasS s x || decide (g = x)) := by
        unfold listS
        congr 1
        funext x
        rw [has_add, hk]
        simp
      rw [e, filter_or_len (hasS s) g hh sigL (by decide), if_pos ((mem_sigL g).2 hk)]
      simp [hk, listS]
    · have e : listS (addS s g) = listS s := list_congr fun x => by
        rw [has_add, hk]
        by_cases e : g = x
        · subst e; simp [hh]
        · simp [e]
      rw [e]
      simp
  · have : addS s g = s := by simp [addS, hk]
    rw [this]
    simp [hk]
end Go.Proofs.YteeienmigoebmaaGreatDoor.L18
