import Derived.Test.YtggcampdkgfmgaaJB
import Derived.Deep.RegionHeld3
namespace Go.Proofs.Ytggcampdkgfmgaa.L10
open Go.RowKit

/-- A byte that goes on with a character in UTF-8. -/
def contB (c : UInt8) : Bool := decide (128 ≤ c.toNat) && decide (c.toNat ≤ 191)
/-- How many bytes the last character has; the line comes from its end on. -/
def lastR (u : Bool) : Nat → List UInt8 → Nat
  | 0, _ => 0
  | _ + 1, [] => 0
  | k + 1, c :: r => if (u && contB c) = true then lastR u k r + 1 else 1
def lastN (u : Bool) (l : List UInt8) : Nat := lastR u 4 l.reverse
theorem lastR_le (u : Bool) : ∀ (k : Nat) (r : List UInt8), lastR u k r ≤ k ∧ lastR u k r ≤ r.length
  | 0, _ => ⟨Nat.le_refl _, Nat.zero_le _⟩
  | k + 1, [] => ⟨Nat.zero_le _, Nat.le_refl _⟩
  | k + 1, c :: r => by
    have h := lastR_le u k r
    simp only [lastR, List.length_cons]
    split <;> omega
theorem lastR_pos (u : Bool) {k : Nat} {r : List UInt8} (hk : 0 < k) (hr : r ≠ []) : 1 ≤ lastR u k r := by
  match k, r, hk, hr with
  | k + 1, c :: r, _, _ =>
    simp only [lastR]
    split <;> omega
theorem lastN_le (u : Bool) (l : List UInt8) : lastN u l ≤ 4 ∧ lastN u l ≤ l.length := by
  have h := lastR_le u 4 l.reverse
  rwa [List.length_reverse] at h
theorem lastN_pos (u : Bool) {l : List UInt8} (h : l ≠ []) : 1 ≤ lastN u l := lastR_pos u (by omega) (by simpa using h)
theorem lastN_nil (u : Bool) : lastN u [] = 0 := rfl
theorem lastN_one {l : List UInt8} (h : l ≠ []) : lastN false l = 1 := by
  unfold lastN
  have h2 : l.reverse ≠ [] := by simpa using h
  match hr : l.reverse, h2 with
  | c :: r, _ => simp [lastR]
/-- A line without its last character, and that. -/
def eraA (u : Bool) (l : List UInt8) : List UInt8 := l.take (l.length - lastN u l)
def eraB (u : Bool) (l : List UInt8) : List UInt8 := l.drop (l.length - lastN u l)
theorem era_join (u : Bool) (l : List UInt8) : eraA u l ++ eraB u l = l := List.take_append_drop _ _
theorem eraA_len (u : Bool) (l : List UInt8) : (eraA u l).length = l.length - lastN u l := by
  unfold eraA
  rw [List.length_take]
  omega
theorem eraB_len (u : Bool) (l : List UInt8) : (eraB u l).length = lastN u l := by
  unfold eraB
  rw [List.length_drop]
  have := lastN_le u l
  omega
theorem eraA_lt (u : Bool) {l : List UInt8} (h : l ≠ []) : (eraA u l).length < l.length := by
  rw [eraA_len]
  have := lastN_pos u h
  have := lastN_le u l
  omega
theorem era_nil (u : Bool) : eraA u [] = [] ∧ eraB u [] = [] := ⟨rfl, rfl⟩
/-- A line's characters. -/
def unitsK (u : Bool) : Nat → List UInt8 → List (List UInt8)
  | 0, _ => []
  | k + 1, l => if l = [] then [] else unitsK u k (eraA u l) ++ [eraB u l]
def units (u : Bool) (l : List UInt8) : List (List UInt8) := unitsK u l.length l
theorem unitsK_more (u : Bool) : ∀ (k : Nat) (l : List UInt8), l.length ≤ k → unitsK u k l = units u l := by
  intro k
  induction k using Nat.strongRecOn with
  | _ k ih =>
    intro l hl
    by_cases h : l = []
    · subst h
      cases k <;> simp [unitsK, units]
    · have hp : 0 < l.length := List.length_pos_iff.2 h
      have ha := eraA_lt u h
      obtain ⟨j, rfl⟩ : ∃ j, k = j + 1 := ⟨k - 1, by omega⟩
      obtain ⟨m, hm⟩ : ∃ m, l.length = m + 1 := ⟨l.length - 1, by omega⟩
      unfold units
      rw [hm]
      simp only [unitsK, if_neg h]
      rw [ih j (by omega) _ (by omega), ih m (by omega) _ (by omega)]
theorem units_nil (u : Bool) : units u [] = [] := rfl
theorem units_step (u : Bool) {l : List UInt8} (h : l ≠ []) : units u l = units u (eraA u l) ++ [eraB u l] := by
  have hp : 0 < l.length := List.length_pos_iff.2 h
  have ha := eraA_lt u h
  obtain ⟨m, hm⟩ : ∃ m, l.length = m + 1 := ⟨l.length - 1, by omega⟩
  conv => lhs; unfold units
  rw [hm]
  simp only [unitsK, if_neg h]
  rw [unitsK_more u m _ (by omega)]
/-- What holds of nothing, and of a line where it holds of the line without its last character. -/
theorem line_ind (u : Bool) {P : List UInt8 → Prop} (h0 : P []) (h1 : ∀ l, l ≠ [] → P (eraA u l) → P l) (l : List UInt8) : P l := by
  obtain ⟨n, hn⟩ : ∃ n, l.length = n := ⟨_, rfl⟩
  induction n using Nat.strongRecOn generalizing l with
  | _ n ih =>
    by_cases h : l = []
    · subst h; exact h0
    · have := eraA_lt u h
      exact h1 l h (ih _ (by omega) _ rfl)
theorem units_flat (u : Bool) (l : List UInt8) : (units u l).flatten = l := by
  refine line_ind u (P := fun l => (units u l).flatten = l) rfl (fun l h ih => ?_) l
  rw [units_step u h, List.flatten_append, ih]
  simp [era_join]
theorem units_each (u : Bool) (l : List UInt8) : ∀ x ∈ units u l, 1 ≤ x.length ∧ x.length ≤ 4 := by
  refine line_ind u (P := fun l => ∀ x ∈ units u l, 1 ≤ x.length ∧ x.length ≤ 4) (fun x hx => by cases hx) (fun l h ih x hx => ?_) l
  rw [units_step u h, List.mem_append] at hx
  rcases hx with hx | hx
  · exact ih x hx
  · rw [List.mem_singleton.1 hx, eraB_len]
    exact ⟨lastN_pos u h, (lastN_le u l).1⟩
theorem units_len (u : Bool) (l : List UInt8) : (units u l).length ≤ l.length := by
  refine line_ind u (P := fun l => (units u l).length ≤ l.length) (Nat.le_refl _) (fun l h ih => ?_) l
  have := eraA_lt u h
  rw [units_step u h, List.length_append]
  simp
  omega
/-- The first characters are the characters of what they are. -/
theorem units_take (u : Bool) (l : List UInt8) : ∀ n, units u ((units u l).take n).flatten = (units u l).take n := by
  refine line_ind u (P := fun l => ∀ n, units u ((units u l).take n).flatten = (units u l).take n) (fun n => by simp [units_nil]) (fun l h ih n => ?_) l
  by_cases hn : n < (units u l).length
  · rw [units_step u h, List.length_append] at hn
    simp at hn
    rw [units_step u h, List.take_append_of_le_length (by omega)]
    exact ih n
  · rw [List.take_of_length_le (by omega), units_flat]
theorem era_one (l : List UInt8) (z : UInt8) : eraA false (l ++ [z]) = l ∧ eraB false (l ++ [z]) = [z] := by
  unfold eraA eraB
  rw [lastN_one (by simp), List.length_append]
  simp
theorem units_one (l : List UInt8) : units false l = l.map fun c => [c] := by
  refine line_ind false (P := fun l => units false l = l.map fun c => [c]) rfl (fun l h ih => ?_) l
  obtain ⟨ys, z, rfl⟩ : ∃ ys z, l = ys ++ [z] := by
    rcases List.eq_nil_or_concat l with h0 | ⟨ys, x, h0⟩
    · exact absurd h0 h
    · exact ⟨ys, x, by simpa using h0⟩
  rw [units_step false h, ih, (era_one ys z).1, (era_one ys z).2, List.map_append]
  rfl
/-- A character of a text in UTF-8. -/
def chunkP (x : List UInt8) : Prop := ∃ c r, x = c :: r ∧ contB c = false ∧ r.length ≤ 3 ∧ ∀ y ∈ r, contB y = true
theorem lastR_chunk : ∀ (r : List UInt8) (k : Nat) (c : UInt8) (s : List UInt8), (∀ y ∈ r, contB y = true) → contB c = false → r.length < k → lastR true k (r ++ c :: s) = r.length + 1
  | [], k + 1, c, s, _, hc, _ => by simp [lastR, hc]
  | y :: r, k + 1, c, s, hr, hc, hk => by
    have hy := hr y (by simp)
    have ih := lastR_chunk r k c s (fun z hz => hr z (by simp [hz])) hc (by simp at hk; omega)
    simp [lastR, hy, ih]
theorem lastN_chunk {x : List UInt8} (hx : chunkP x) (s : List UInt8) : lastN true (s ++ x) = x.length := by
  obtain ⟨c, r, rfl, hc, hr, hy⟩ := hx
  unfold lastN
  rw [List.reverse_append, List.reverse_cons, List.append_assoc]
  have := lastR_chunk r.reverse 4 c s.reverse (fun y h => hy y (by simpa using h)) hc (by simp; omega)
  simpa using this
theorem units_text : ∀ (n : Nat) (xs : List (List UInt8)), xs.length = n → (∀ x ∈ xs, chunkP x) → units true xs.flatten = xs := by
  intro n
  induction n with
  | zero =>
    intro xs hn _
    have : xs = [] := List.eq_nil_of_length_eq_zero hn
    subst this
    rfl
  | succ n ih =>
    intro xs hn h
    obtain ⟨ys, x, rfl⟩ : ∃ ys x, xs = ys ++ [x] := by
      rcases List.eq_nil_or_concat xs with h0 | ⟨ys, x, h0⟩
      · subst h0; simp at hn
      · exact ⟨ys, x, by simpa using h0⟩
    have hx := h x (by simp)
    have hl := lastN_chunk hx ys.flatten
    have hf : (ys ++ [x]).flatten = ys.flatten ++ x := by simp
    have hne : ys.flatten ++ x ≠ [] := by
      obtain ⟨c, r, rfl, _⟩ := hx
      simp
    rw [hf, units_step true hne]
    have e1 : eraA true (ys.flatten ++ x) = ys.flatten := by
      unfold eraA
      rw [hl, List.length_append, Nat.add_sub_cancel, List.take_left']
      rfl
    have e2 : eraB true (ys.flatten ++ x) = x := by
      unfold eraB
      rw [hl, List.length_append, Nat.add_sub_cancel, List.drop_left']
      rfl
    rw [e1, e2, ih ys (by simpa using hn) (fun y hy => h y (by simp [hy]))]
/-- Is a character a blank? -/
def blankU (x : List UInt8) : Bool := x == [32] || x == [9]
def wordR (r : List (List UInt8)) : List (List UInt8) := (r.dropWhile blankU).dropWhile fun x => !blankU x
/-- The characters that are left of a line without its last word. -/
def restU (u : Bool) (l : List UInt8) : List (List UInt8) := (wordR (units u l).reverse).reverse
def restL (u : Bool) (l : List UInt8) : List UInt8 := (restU u l).flatten
def goneL (u : Bool) (l : List UInt8) : List UInt8 := l.drop (restL u l).length
theorem wordR_suffix (r : List (List UInt8)) : wordR r <:+ r := (List.dropWhile_suffix _).trans (List.dropWhile_suffix _)
theorem restU_prefix (u : Bool) (l : List UInt8) : restU u l <+: units u l := by
  have h := wordR_suffix (units u l).reverse
  have := List.reverse_prefix.2 h
  rwa [List.reverse_reverse] at this
theorem restU_take (u : Bool) (l : List UInt8) : restU u l = (units u l).take (restU u l).length := List.prefix_iff_eq_take.1 (restU_prefix u l)
theorem restL_units (u : Bool) (l : List UInt8) : units u (restL u l) = restU u l := by
  unfold restL
  rw [restU_take, units_take]
theorem restL_prefix (u : Bool) (l : List UInt8) : restL u l <+: l := by
  obtain ⟨z, hz⟩ := restU_prefix u l
  refine ⟨z.flatten, ?_⟩
  unfold restL
  rw [← List.flatten_append, hz, units_flat]
theorem restL_take (u : Bool) (l : List UInt8) : restL u l = l.take (restL u l).length := List.prefix_iff_eq_take.1 (restL_prefix u l)
theorem word_join (u : Bool) (l : List UInt8) : restL u l ++ goneL u l = l := by
  unfold goneL
  conv => lhs; lhs; rw [restL_take]
  exact List.take_append_drop _ _
theorem wordR_lt {r : List (List UInt8)} (h : r ≠ []) : (wordR r).length < r.length := by
  match r, h with
  | x :: r, _ =>
    unfold wordR
    cases hx : blankU x
    · rw [List.dropWhile_cons_of_neg (by simp [hx]), List.dropWhile_cons_of_pos (by simp [hx])]
      have := (List.dropWhile_suffix (l := r) fun x => !blankU x).length_le
      simp
      omega
    · rw [List.dropWhile_cons_of_pos hx]
      have h1 := (List.dropWhile_suffix (l := r.dropWhile blankU) fun x => !blankU x).length_le
      have h2 := (List.dropWhile_suffix (l := r) blankU).length_le
      simp
      omega
theorem units_ne (u : Bool) {l : List UInt8} (h : l ≠ []) : units u l ≠ [] := by
  rw [units_step u h]
  simp
theorem flat_pos {xs : List (List UInt8)} (h : xs ≠ []) (he : ∀ x ∈ xs, 1 ≤ x.length) : 1 ≤ xs.flatten.length := by
  match xs, h with
  | x :: xs, _ =>
    have := he x (by simp)
    simp
    omega
theorem restL_lt (u : Bool) {l : List UInt8} (h : l ≠ []) : (restL u l).length < l.length := by
  have h1 : (restU u l).length < (units u l).length := by
    have := wordR_lt (r := (units u l).reverse) (by simpa using units_ne u h)
    unfold restU
    rw [List.length_reverse]
    simpa using this
  obtain ⟨z, hz⟩ := restU_prefix u l
  have hz1 : z ≠ [] := by
    rintro rfl
    rw [List.append_nil] at hz
    rw [hz] at h1
    omega
  have h2 : 1 ≤ z.flatten.length := flat_pos hz1 fun x hx => (units_each u l x (by rw [← hz]; simp [hx])).1
  have h3 : (restL u l).length + z.flatten.length = l.length := by
    unfold restL
    rw [← List.length_append, ← List.flatten_append, hz, units_flat]
  omega
theorem goneL_ne (u : Bool) {l : List UInt8} (h : l ≠ []) : goneL u l ≠ [] := by
  have h1 := restL_lt u h
  intro e
  have := congrArg List.length e
  unfold goneL at this
  rw [List.length_drop] at this
  simp at this
  omega
theorem head_drop {α : Type} (p : α → Bool) : ∀ (l : List α) {y : α} {t : List α}, l.dropWhile p = y :: t → p y = false
  | [], _, _, h => by simp at h
  | x :: l, y, t, h => by
    cases hx : p x
    · rw [List.dropWhile_cons_of_neg (by simp [hx])] at h
      injection h with h1 _
      rw [← h1, hx]
    · rw [List.dropWhile_cons_of_pos hx] at h
      exact head_drop p l h
def blankB (c : UInt8) : Bool := c == 32 || c == 9
/-- What is left is nothing, or ends with a blank. -/
theorem restL_end (u : Bool) (l : List UInt8) : restL u l = [] ∨ ∃ a c, restL u l = a ++ [c] ∧ blankB c = true := by
  unfold restL restU
  cases hw : wordR (units u l).reverse with
  | nil => exact Or.inl rfl
  | cons y t =>
    have hy : (!blankU y) = false := head_drop (fun x => !blankU x) _ (show List.dropWhile (fun x => !blankU x) _ = y :: t from hw)
    right
    have hb : blankU y = true := by simpa using hy
    unfold blankU at hb
    simp only [Bool.or_eq_true, beq_iff_eq] at hb
    rcases hb with rfl | rfl
    · exact ⟨t.reverse.flatten, 32, by simp, rfl⟩
    · exact ⟨t.reverse.flatten, 9, by simp, rfl⟩
/-- Erased character by character a line comes to what Word leaves of it. -/
theorem erase_to (u : Bool) (l : List UInt8) (n : Nat) (hn : n < (units u l).length) : eraA u ((units u l).take (n + 1)).flatten = ((units u l).take n).flatten := by
  obtain ⟨y, hy⟩ : ∃ y, (units u l)[n]? = some y := ⟨_, List.getElem?_eq_getElem hn⟩
  have e : (units u l).take (n + 1) = (units u l).take n ++ [y] := by rw [List.take_add_one, hy]; rfl
  have hm : y ∈ units u l := List.mem_of_getElem? hy
  have hy1 := (units_each u l y hm).1
  have hne : ((units u l).take (n + 1)).flatten ≠ [] := by
    rw [e]
    intro h
    have h8 := congrArg List.length h
    rw [List.flatten_append, List.length_append] at h8
    have h9 : ([y] : List (List UInt8)).flatten.length = y.length := by simp
    simp only [List.length_nil] at h8
    omega
  have h1 := units_take u l (n + 1)
  have h2 := units_step u hne
  rw [h1, e] at h2
  have h3 := List.append_inj' h2 (by simp)
  have h4 := units_flat u (eraA u ((units u l).take n ++ [y]).flatten)
  rw [e, ← h4, ← h3.1]
theorem drop_single (p : List UInt8 → Bool) (q : UInt8 → Bool) (hpq : ∀ c, p [c] = q c) : ∀ l : List UInt8, (l.map fun c => [c]).dropWhile p = (l.dropWhile q).map fun c => [c]
  | [] => rfl
  | c :: l => by
    rw [List.map_cons]
    cases h : q c
    · rw [List.dropWhile_cons_of_neg (by rw [hpq, h]; decide), List.dropWhile_cons_of_neg (by rw [h]; decide), List.map_cons]
    · rw [List.dropWhile_cons_of_pos (by rw [hpq, h]), List.dropWhile_cons_of_pos h, drop_single p q hpq l]
theorem blank_one (c : UInt8) : blankU [c] = blankB c := by
  unfold blankU blankB
  rw [Bool.eq_iff_iff]
  simp
theorem flat_single : ∀ l : List UInt8, (l.map fun c => [c]).flatten = l
  | [] => rfl
  | c :: l => by rw [List.map_cons, List.flatten_cons, flat_single l]; rfl
theorem rest_bytes (l : List UInt8) : restL false l = ((l.reverse.dropWhile blankB).dropWhile fun c => !blankB c).reverse := by
  unfold restL restU wordR
  rw [units_one, ← List.map_reverse, drop_single blankU blankB blank_one, drop_single (fun x => !blankU x) (fun c => !blankB c) (fun c => by rw [blank_one]), ← List.map_reverse, flat_single]
theorem gone_bytes (l : List UInt8) : (goneL false l).reverse = l.reverse.takeWhile blankB ++ (l.reverse.dropWhile blankB).takeWhile fun c => !blankB c := by
  have h1 := congrArg List.reverse (word_join false l)
  rw [List.reverse_append, rest_bytes, List.reverse_reverse] at h1
  have h2 : l.reverse.takeWhile blankB ++ ((l.reverse.dropWhile blankB).takeWhile fun c => !blankB c) ++ ((l.reverse.dropWhile blankB).dropWhile fun c => !blankB c) = l.reverse := by
    rw [List.append_assoc, List.takeWhile_append_dropWhile, List.takeWhile_append_dropWhile]
  exact List.append_cancel_right (h1.trans h2.symm)
theorem take_all {α : Type} (p : α → Bool) : ∀ (l : List α), ∀ x ∈ l.takeWhile p, p x = true
  | [], x, h => by simp at h
  | y :: l, x, h => by
    cases hy : p y
    · rw [List.takeWhile_cons_of_neg (by simp [hy])] at h
      simp at h
    · rw [List.takeWhile_cons_of_pos hy] at h
      rcases List.mem_cons.1 h with rfl | h
      · exact hy
      · exact take_all p l x h
theorem drop_all {α : Type} (p : α → Bool) : ∀ (l r : List α), (∀ x ∈ l, p x = true) → (l ++ r).dropWhile p = r.dropWhile p
  | [], _, _ => rfl
  | y :: l, r, h => by
    rw [List.cons_append, List.dropWhile_cons_of_pos (h y (by simp))]
    exact drop_all p l r fun x hx => h x (by simp [hx])
/-- Without UTF-8 what Word takes has no blank, but for those at its end. -/
theorem gone_word (l : List UInt8) : ∀ c ∈ (goneL false l).reverse.dropWhile blankB, blankB c = false := by
  rw [gone_bytes, drop_all _ _ _ (take_all blankB _)]
  intro c hc
  have h1 := (List.dropWhile_suffix (l := (l.reverse.dropWhile blankB).takeWhile fun c => !blankB c) blankB).subset hc
  have h2 := take_all (fun c => !blankB c) _ c h1
  simpa using h2
end Go.Proofs.Ytggcampdkgfmgaa.L10
namespace Go.Proofs.Ytggcampdkgfmgaa.L10
open Go.RowKit

theorem dt1 {l : List UInt8} {i : Nat} (h : i < l.length) : (l.drop i).take 1 = [l[i]] := by
  rw [List.drop_eq_getElem_cons h]
  rfl
theorem dt2 {l : List UInt8} {i : Nat} (h : i + 1 < l.length) : (l.drop i).take 2 = [l[i], l[i + 1]] := by
  rw [List.drop_eq_getElem_cons (by omega), List.drop_eq_getElem_cons h]
  rfl
theorem dt3 {l : List UInt8} {i : Nat} (h : i + 2 < l.length) : (l.drop i).take 3 = [l[i], l[i + 1], l[i + 2]] := by
  rw [List.drop_eq_getElem_cons (by omega), List.drop_eq_getElem_cons (by omega), List.drop_eq_getElem_cons (by omega)]
  rfl
theorem dt4 {l : List UInt8} {i : Nat} (h : i + 3 < l.length) : (l.drop i).take 4 = [l[i], l[i + 1], l[i + 2], l[i + 3]] := by
  rw [List.drop_eq_getElem_cons (by omega), List.drop_eq_getElem_cons (by omega), List.drop_eq_getElem_cons (by omega), List.drop_eq_getElem_cons (by omega)]
  rfl
theorem get_at (s : ByteArray) {j : Nat} (h : j < s.size) : s.get! j = s.data.toList[j]'(by simpa using h) := by
  show s.data[j]! = _
  rw [getElem!_pos s.data j h]
  simp
theorem ofN {x : UInt8} {n : Nat} (h : n = x.toNat) : UInt8.ofNat n = x := by rw [h, UInt8.ofNat_toNat]
theorem valid_low {c : Nat} (h : c < 55296) : Utf8.valid (c : Int) = true := by
  unfold Utf8.valid
  simp
  omega
theorem cont_of {x : UInt8} (h : x.toNat / 64 = 2) : contB x = true := by
  unfold contB
  simp
  omega
theorem first_of {x : UInt8} (h : x.toNat < 128 ∨ 192 ≤ x.toNat) : contB x = false := by
  unfold contB
  simp
  omega
set_option maxRecDepth 100000 in
/-- A rune that is told is what stands there in UTF-8, a character of a text. -/
theorem utf_step (s : ByteArray) (i : Nat) (hi : i < s.size) {c k : Nat} (h : Utf8.decode s i = (c, k)) (hc0 : c ≠ Utf8.runeError) :
    1 ≤ k ∧ i + k ≤ s.size ∧ (Utf8.encode (c : Int)).data.toList = (s.data.toList.drop i).take k ∧ chunkP ((s.data.toList.drop i).take k) := by
  have hl : s.data.toList.length = s.size := by simp
  obtain ⟨l, hll⟩ : ∃ l, s.data.toList = l := ⟨_, rfl⟩
  have g : ∀ j (hj : j < s.size), (s.get! j).toNat = (l[j]'(by rw [← hll, hl]; exact hj)).toNat := fun j hj => by
    rw [get_at s hj]
    congr 1
    exact (List.getElem_of_eq hll _)
  rw [hll] at hl ⊢
  have g0 := g i hi
  unfold Utf8.decode at h
  have hc := hc0
  simp only [Nat.add_zero, g0] at h
  obtain ⟨x0, h0⟩ : ∃ x, l[i]'(by omega) = x := ⟨_, rfl⟩
  rw [h0] at h
  have b0 := x0.toNat_lt
  split at h
  · rename_i q
    simp only [Prod.mk.injEq] at h
    obtain ⟨rfl, rfl⟩ := h
    refine ⟨Nat.le_refl _, hi, ?_, ?_⟩
    · rw [dt1 (by omega), h0]
      have hv := valid_low (show x0.toNat < 55296 by omega)
      generalize hz : x0.toNat = z at hv q ⊢
      unfold Utf8.encode
      simp only [hv, if_true, Int.toNat_natCast, if_pos q]
      show [UInt8.ofNat z] = [x0]
      rw [← hz, UInt8.ofNat_toNat]
    · rw [dt1 (by omega), h0]
      exact ⟨x0, [], rfl, first_of (Or.inl q), by simp, by simp⟩
  · split at h
    · rename_i q0 q
      simp only [Bool.and_eq_true, beq_iff_eq, decide_eq_true_eq] at q
      have p1 := q.2.1
      have g1 := g (i + 1) p1
      obtain ⟨x1, h1⟩ : ∃ x, l[i + 1]'(by omega) = x := ⟨_, rfl⟩
      rw [h1] at g1
      rw [g1] at h q
      split at h
      · rename_i r
        simp only [Prod.mk.injEq] at h
        obtain ⟨e1, e2⟩ := h
        subst e2
        have b1 := x1.toNat_lt
        have hcv : c < 2048 ∧ 128 ≤ c := by omega
        refine ⟨by omega, by omega, ?_, ?_⟩
        · rw [dt2 (by omega), h0, h1]
          unfold Utf8.encode
          simp only [valid_low (show c < 55296 by omega), if_true, Int.toNat_natCast, if_neg (show ¬ c < 128 by omega), if_pos hcv.1]
          show [UInt8.ofNat (192 + c / 64), UInt8.ofNat (128 + c % 64)] = [x0, x1]
          rw [ofN (x := x0) (by omega), ofN (x := x1) (by omega)]
        · rw [dt2 (by omega), h0, h1]
          exact ⟨x0, [x1], rfl, first_of (Or.inr (by omega)), by simp, by simpa using cont_of q.2.2⟩
      · simp only [Prod.mk.injEq] at h
        have e1 := h.1
        exact absurd e1.symm hc
    · split at h
      · rename_i q0 q1 q
        simp only [Bool.and_eq_true, beq_iff_eq, decide_eq_true_eq] at q
        have p1 := q.1.2.1
        have p2 := q.2.1
        have g1 := g (i + 1) p1
        have g2 := g (i + 2) p2
        obtain ⟨x1, h1⟩ : ∃ x, l[i + 1]'(by omega) = x := ⟨_, rfl⟩
        obtain ⟨x2, h2⟩ : ∃ x, l[i + 2]'(by omega) = x := ⟨_, rfl⟩
        rw [h1] at g1
        rw [h2] at g2
        rw [g1, g2] at h q
        split at h
        · rename_i r
          simp only [Bool.and_eq_true, decide_eq_true_eq] at r
          simp only [Prod.mk.injEq] at h
          obtain ⟨e1, e2⟩ := h
          subst e2
          rw [e1] at r
          have b1 := x1.toNat_lt
          have b2 := x2.toNat_lt
          have hcv : c < 65536 := by omega
          refine ⟨by omega, by omega, ?_, ?_⟩
          · rw [dt3 (by omega), h0, h1, h2]
            unfold Utf8.encode
            simp only [r.2, if_true, Int.toNat_natCast, if_neg (show ¬ c < 128 by omega), if_neg (show ¬ c < 2048 by omega), if_pos hcv]
            show [UInt8.ofNat (224 + c / 4096), UInt8.ofNat (128 + c / 64 % 64), UInt8.ofNat (128 + c % 64)] = [x0, x1, x2]
            rw [ofN (x := x0) (by omega), ofN (x := x1) (by omega), ofN (x := x2) (by omega)]
          · rw [dt3 (by omega), h0, h1, h2]
            refine ⟨x0, [x1, x2], rfl, first_of (Or.inr (by omega)), by simp, ?_⟩
            intro y hy
            simp at hy
            rcases hy with rfl | rfl
            · exact cont_of q.1.2.2
            · exact cont_of q.2.2
        · simp only [Prod.mk.injEq] at h
          have e1 := h.1
          exact absurd e1.symm hc
      · split at h
        · rename_i q0 q1 q2 q
          simp only [Bool.and_eq_true, beq_iff_eq, decide_eq_true_eq] at q
          have p1 := q.1.1.2.1
          have p2 := q.1.2.1
          have p3 := q.2.1
          have g1 := g (i + 1) p1
          have g2 := g (i + 2) p2
          have g3 := g (i + 3) p3
          obtain ⟨x1, h1⟩ : ∃ x, l[i + 1]'(by omega) = x := ⟨_, rfl⟩
          obtain ⟨x2, h2⟩ : ∃ x, l[i + 2]'(by omega) = x := ⟨_, rfl⟩
          obtain ⟨x3, h3⟩ : ∃ x, l[i + 3]'(by omega) = x := ⟨_, rfl⟩
          rw [h1] at g1
          rw [h2] at g2
          rw [h3] at g3
          rw [g1, g2, g3] at h q
          split at h
          · rename_i r
            simp only [Bool.and_eq_true, decide_eq_true_eq] at r
            simp only [Prod.mk.injEq] at h
            obtain ⟨e1, e2⟩ := h
            subst e2
            rw [e1] at r
            have b1 := x1.toNat_lt
            have b2 := x2.toNat_lt
            have b3 := x3.toNat_lt
            refine ⟨by omega, by omega, ?_, ?_⟩
            · rw [dt4 (by omega), h0, h1, h2, h3]
              unfold Utf8.encode
              simp only [r.2, if_true, Int.toNat_natCast, if_neg (show ¬ c < 128 by omega), if_neg (show ¬ c < 2048 by omega), if_neg (show ¬ c < 65536 by omega)]
              show [UInt8.ofNat (240 + c / 262144), UInt8.ofNat (128 + c / 4096 % 64), UInt8.ofNat (128 + c / 64 % 64), UInt8.ofNat (128 + c % 64)] = [x0, x1, x2, x3]
              rw [ofN (x := x0) (by omega), ofN (x := x1) (by omega), ofN (x := x2) (by omega), ofN (x := x3) (by omega)]
            · rw [dt4 (by omega), h0, h1, h2, h3]
              refine ⟨x0, [x1, x2, x3], rfl, first_of (Or.inr (by omega)), by simp, ?_⟩
              intro y hy
              simp at hy
              rcases hy with rfl | rfl | rfl
              · exact cont_of q.1.1.2.2
              · exact cont_of q.1.2.2
              · exact cont_of q.2.2
          · simp only [Prod.mk.injEq] at h
            have e1 := h.1
            exact absurd e1.symm hc
        · simp only [Prod.mk.injEq] at h
          have e1 := h.1
          exact absurd e1.symm hc
end Go.Proofs.Ytggcampdkgfmgaa.L10
namespace Go.Proofs.Ytggcampdkgfmgaa.L10
open Go.RowKit

end Go.Proofs.Ytggcampdkgfmgaa.L10
namespace Go.Proofs.Ytggcampdkgfmgaa.L10
open Go.RowKit

theorem bytes_n (w : World) (B B2 : Nat) (A A2 : Option Addr) (c c2 n n2 : Nat) (xs ys : List UInt8) (b : Bool) (hx : Hid (Lies w B A (bv xs))) (hy : Hid (Lies w B2 A2 (bv ys))) (hn : Hid (xs.length = n)) (hn2 : Hid (ys.length = n2)) (hl : n ≤ maxLen) (hl2 : n2 ≤ maxLen) (hb : Hid (decide (xs = ys) = b)) :
    Calls Try.prog 9 #[.slice A n c, .slice A2 n2 c2] w fun e w' => ∃ d, e = .returned (.bool b) ∧ w' = w.drewN d := by
  have h1 := hn.out
  have h2 := hn2.out
  subst h1; subst h2
  rw [← hb.out]
  refine (bytes_any w B B2 A A2 c c2 xs ys hx.out hy.out hl hl2).mono ?_
  rintro e w' ⟨rfl, d, rfl⟩
  exact ⟨d, rfl, rfl⟩

end Go.Proofs.Ytggcampdkgfmgaa.L10
namespace Go.Proofs.Ytggcampdkgfmgaa.L10
open Go.RowKit

/-- The first so many bytes from the end go on with a character. -/
def ContR (r : List UInt8) (k : Nat) : Prop := ∀ j, j < k → ∃ y, r[j]? = some y ∧ contB y = true
theorem lastR_stop : ∀ (K : Nat) (r : List UInt8) (k : Nat) (y : UInt8), k < K → ContR r k → r[k]? = some y → contB y = false → lastR true K r = k + 1
  | K + 1, [], k, y, _, _, h, _ => by simp at h
  | K + 1, c :: r, 0, y, _, _, h, hy => by
    simp at h
    subst h
    simp [lastR, hy]
  | K + 1, c :: r, k + 1, y, hk, hc, h, hy => by
    obtain ⟨z, hz, h2⟩ := hc 0 (by omega)
    simp at hz
    subst hz
    have ih := lastR_stop K r k y (by omega) (fun j hj => by
      obtain ⟨z, h3, h4⟩ := hc (j + 1) (by omega)
      exact ⟨z, by simpa using h3, h4⟩) (by simpa using h) hy
    simp [lastR, h2, ih]
theorem lastR_all : ∀ (K : Nat) (r : List UInt8) (m : Nat), m = min K r.length → ContR r (m - 1) → lastR true K r = m
  | 0, r, m, hm, _ => by simp [lastR, hm]
  | K + 1, [], m, hm, _ => by simp [lastR, hm]
  | K + 1, c :: r, m, hm, hc => by
    obtain ⟨k, hk⟩ : ∃ k, k = min K r.length := ⟨_, rfl⟩
    have hmk : m = k + 1 := by simp at hm; omega
    subst hmk
    by_cases h0 : k = 0
    · subst h0
      have : lastR true K r = 0 := by have := lastR_le true K r; omega
      simp [lastR, this]
    · obtain ⟨z, hz, h2⟩ := hc 0 (by omega)
      simp at hz
      subst hz
      have ih := lastR_all K r k hk (fun j hj => by
        obtain ⟨z, h3, h4⟩ := hc (j + 1) (by omega)
        exact ⟨z, by simpa using h3, h4⟩)
      simp [lastR, h2, ih]
theorem rev_at {l : List UInt8} {n j : Nat} (hn : l.length = n) (hj : j < n) : l.reverse[j]? = l[n - (j + 1)]? := by
  rw [List.getElem?_reverse (by omega), hn]
  congr 1
  omega
theorem contR_more {r : List UInt8} {k : Nat} {y : UInt8} (h : ContR r k) (hy : r[k]? = some y) (hc : contB y = true) : ContR r (k + 1) := fun j hj => by
  by_cases e : j = k
  · subst e
    exact ⟨y, hy, hc⟩
  · exact h j (by omega)
theorem lastN_stop {l : List UInt8} {n k : Nat} {y : UInt8} (hn : l.length = n) (h0 : k < 4) (h1 : k < n) (hc : ContR l.reverse k) (hy : l[n - (k + 1)]? = some y) (hd : contB y = false) : lastN true l = k + 1 :=
  lastR_stop 4 _ k y h0 hc (by rw [rev_at hn h1]; exact hy) hd
theorem lastN_all {l : List UInt8} {n m : Nat} (hn : l.length = n) (hm : m = min 4 n) (hc : ContR l.reverse (m - 1)) : lastN true l = m := lastR_all 4 _ m (by simpa [hn] using hm) hc

/-- How many bytes a character has at most. -/
def LU (u : Bool) : Int := if u then 4 else 1
end Go.Proofs.Ytggcampdkgfmgaa.L10
namespace Go.Proofs.Ytggcampdkgfmgaa.L10
open Go.RowKit

/-- A line is cut in two: what a call answers. -/
def Cut (w : World) (xs ys : List UInt8) (e : Ending) (w' : World) : Prop := ∃ A1 n1 c1 A2 n2 c2, e = .returned (.tuple #[.slice A1 n1 c1, .slice A2 n2 c2]) ∧ Hid (xs.length = n1) ∧ Hid (ys.length = n2) ∧
  Hid (w'.ownsRow w.heap.size 5 1 (.slice A1 n1 c1) n1 (bv xs)) ∧ Hid (w'.ownsRow w.heap.size 5 1 (.slice A2 n2 c2) n2 (bv ys)) ∧ Hid (Below w.heap.size w w')
end Go.Proofs.Ytggcampdkgfmgaa.L10
namespace Go.Proofs.Ytggcampdkgfmgaa.L10
open Go.RowKit

/-- Rows of bytes of the call's own, each in a cell of a list. -/
def PL (w : World) (base : Nat) (ps : List (List UInt8)) (cs : List Value) : Prop :=
  cs.length = ps.length ∧ ∀ k (h : k < ps.length), ∃ A c, cs[k]? = some (.slice A ps[k].length c) ∧ w.ownsRow base 5 1 (.slice A ps[k].length c) ps[k].length (bv ps[k])
theorem PL.nil_ (w : World) (base : Nat) : PL w base [] [] := ⟨rfl, fun k h => by simp at h⟩
theorem PL.kept {w w' : World} {base B : Nat} {T : List TypeId} {ps : List (List UInt8)} {cs : List Value} (h : PL w base ps cs) (k : Kept B T w w') (hT : 5 ∉ T) : PL w' base ps cs :=
  ⟨h.1, fun i hi => by obtain ⟨A, c, h1, h2⟩ := h.2 i hi; exact ⟨A, c, h1, k.own h2 hT⟩⟩
theorem PL.below {w w' : World} {base : Nat} {ps : List (List UInt8)} {cs : List Value} (h : PL w base ps cs) (k : Below w.heap.size w w') : PL w' base ps cs :=
  ⟨h.1, fun i hi => by obtain ⟨A, c, h1, h2⟩ := h.2 i hi; exact ⟨A, c, h1, own_keep h2 k⟩⟩
theorem PL.mono {w : World} {b b' : Nat} {ps : List (List UInt8)} {cs : List Value} (h : PL w b ps cs) (k : b' ≤ b) : PL w b' ps cs :=
  ⟨h.1, fun i hi => by obtain ⟨A, c, h1, h2⟩ := h.2 i hi; exact ⟨A, c, h1, own_mono h2 k⟩⟩
theorem PL.snoc {w : World} {base : Nat} {ps : List (List UInt8)} {cs : List Value} {p : List UInt8} {A : Option Addr} {c n : Nat} (h : PL w base ps cs) (hn : p.length = n) (ho : w.ownsRow base 5 1 (.slice A n c) n (bv p)) :
    PL w base (ps ++ [p]) (cs ++ [.slice A n c]) := by
  subst hn
  refine ⟨by simp [h.1], fun k hk => ?_⟩
  by_cases hlt : k < ps.length
  · obtain ⟨A', c', h1, h2⟩ := h.2 k hlt
    refine ⟨A', c', ?_, ?_⟩
    · rw [List.getElem?_append_left (by rw [h.1]; exact hlt), List.getElem_append_left hlt]; exact h1
    · rw [List.getElem_append_left hlt]; exact h2
  · have hk' : k = ps.length := by simp at hk; omega
    subst hk'
    refine ⟨A, c, ?_, ?_⟩
    · rw [List.getElem_append_right (Nat.le_refl _)]
      rw [List.getElem?_append_right (by rw [h.1]; exact Nat.le_refl _), h.1]
      simp
    · rw [List.getElem_append_right (Nat.le_refl _)]
      simpa using ho
theorem PL.rev {w : World} {base : Nat} {ps : List (List UInt8)} {cs : List Value} (h : PL w base ps cs) : PL w base ps.reverse cs.reverse := by
  refine ⟨by simp [h.1], fun k hk => ?_⟩
  have hk' : k < ps.length := by simpa using hk
  obtain ⟨A, c, h1, h2⟩ := h.2 (ps.length - 1 - k) (by omega)
  refine ⟨A, c, ?_, ?_⟩
  · rw [List.getElem?_reverse (by rw [h.1]; exact hk'), h.1, h1, List.getElem_reverse]
  · rw [List.getElem_reverse]
    exact h2
theorem lisV_own {w : World} {base k lc : Nat} {LA : Option Addr} {ps : List (List UInt8)} {cs : List Value} (ho : w.ownsRow base 27 1 (.slice LA k lc) k cs)
    (h : cs.length = ps.length ∧ ∀ k (h : k < ps.length), ∃ A c, cs[k]? = some (.slice A ps[k].length c) ∧ SlB w w.heap.size A c ps[k]) : LisV w w.heap.size LA ps := fun hne => by
  have hcn : cs ≠ [] := by
    intro e
    have := h.1
    rw [e] at this
    exact hne (List.eq_nil_of_length_eq_zero this.symm)
  obtain ⟨b, o, e, hb, hc⟩ := Lies.own ho hcn
  exact ⟨b, o, e, hb, fun k hk => by obtain ⟨A, c, h1, h2⟩ := h.2 k hk; exact ⟨A, c, hc k _ h1, h2⟩⟩
theorem PL.lis {w : World} {base base2 k lc : Nat} {LA : Option Addr} {ps : List (List UInt8)} {cs : List Value} (h : PL w base2 ps cs) (ho : w.ownsRow base 27 1 (.slice LA k lc) k cs) : LisV w w.heap.size LA ps :=
  lisV_own ho ⟨h.1, fun k hk => by obtain ⟨A, c, h1, h2⟩ := h.2 k hk; exact ⟨A, c, h1, own_slb (_n := 0) h2⟩⟩
/-- A call has answered a list of rows of its own. -/
def Uns (w : World) (us : List (List UInt8)) (e : Ending) (w' : World) : Prop := ∃ LA k lc cs, e = .returned (.slice LA k lc) ∧ Hid (us.length = k) ∧ Hid (w'.ownsRow w.heap.size 27 1 (.slice LA k lc) k cs) ∧ Hid (PL w' w.heap.size us cs) ∧ Hid (Below w.heap.size w w')
/-- A row is put behind a list of the call's own. -/
theorem app_list {ops : Array Oper} {rest : List Oper} {o : Oper} {a : Act} {Q : Exit → Act → World → Prop} (W : World) (hgd : o.guard = none) (s x : Operand) (ho : o.op = .call { callee := .builtin .append, args := #[s, x], argTypes := #[51, 51] })
    (B k lc : Nat) (LA : Option Addr) (cs : List Value) (ps : List (List UInt8)) (hs : a.eval s = .slice LA k lc) (hown : Hid (W.ownsRow B 27 1 (.slice LA k lc) k cs)) (hPL : Hid (PL W B ps cs)) (g : Nat) (hg : g = W.heap.size) (hx : a.eval x = .slice (some ⟨g, 0, none⟩) 1 1)
    (A : Option Addr) (n c : Nat) (p : List UInt8) (hp : Hid (W.ownsRow B 5 1 (.slice A n c) n (bv p))) (hn : Hid (p.length = n)) (hB : B ≤ W.heap.size) (hk : k ≤ 1000000)
    (h : ∀ A' c' cs' u2, Hid (u2.ownsRow B 27 1 (.slice A' (k + 1) c') (k + 1) cs') → Hid (PL u2 B (ps ++ [p]) cs') → Hid (Kept B [27] W u2) → wpList Try.prog ops Q rest (a.put o.dst (.slice A' (k + 1) c')) u2) :
    wpList Try.prog ops Q (o :: rest) a (W.alloc (.cells #[.slice A n c] 27)) := by
  subst hg
  obtain ⟨i1, hi1, hz10, hz11, hz12⟩ := info_parts Try.info22
  have ka : Kept B [27] W (W.alloc (.cells #[.slice A n c] 27)) := (Kept.refl _ _ _).alloc _
  have ho1 := own_keep hown.out ((Below.refl _ W).alloc (Nat.le_refl _) (.cells #[.slice A n c] 27))
  refine wpList_app _ hgd s x 51 ho B 27 i1 _ 1 24 Try.underlying51 hi1 hz10 hz11 hz12 rfl (by decide) LA k lc cs hs ho1 (W.heap.size + 1) (some ⟨W.heap.size, 0, none⟩) 1 1 [.slice A n c] hx rfl (lies_lit W #[.slice A n c] 27) (by intro u hu; simp at hu; subst hu; rfl) (by unfold maxLen; omega) (by omega) (by simp; omega) ?_
  intro A' c' u2 ho2 hg2
  have k2 : Kept B [27] W u2 := ka.grown hg2 (fun j hj => by obtain ⟨a, cs, b⟩ := own_box ho1 j hj; exact ⟨a, 27, cs, by simp, b⟩)
  refine h A' c' _ u2 (hid ho2) (hid ?_) (hid k2)
  exact ((hPL.out.snoc hn.out hp.out)).kept k2 (by decide)
end Go.Proofs.Ytggcampdkgfmgaa.L10
namespace Go.Proofs.Ytggcampdkgfmgaa.L10
open Go.RowKit

/-- What stands at a place while a list is being turned round. -/
def RevA (cs : List Value) (k j : Nat) (arr : Array Value) : Prop := ∀ x, x < k → arr[x]? = if x < j ∨ k ≤ x + j then cs[k - 1 - x]? else cs[x]?
theorem revA_start {cs : List Value} {k : Nat} {arr : Array Value} (h : arr.toList.take k = cs) : RevA cs k 0 arr := fun x hx => by
  rw [if_neg (by omega), ← h, List.getElem?_take, if_pos hx, Array.getElem?_toList]
theorem revA_step {cs : List Value} {k j p : Nat} {arr : Array Value} {v u : Value} (h : RevA cs k j arr) (hs : k ≤ arr.size) (hp : p + 1 + j = k) (hj : j < p) (hv : cs[j]? = some v) (hu : cs[p]? = some u) :
    RevA cs k (j + 1) ((arr.setIfInBounds j u).setIfInBounds p v) := fun x hx => by
  by_cases e1 : x = p
  · subst e1
    rw [Array.getElem?_setIfInBounds_self_of_lt (by simp; omega), if_pos (by omega), show k - 1 - x = j by omega, hv]
  · rw [Array.getElem?_setIfInBounds_ne (by omega)]
    by_cases e2 : x = j
    · subst e2
      rw [Array.getElem?_setIfInBounds_self_of_lt (by omega), if_pos (by omega), show k - 1 - x = p by omega, hu]
    · rw [Array.getElem?_setIfInBounds_ne (by omega), h x hx]
      by_cases e3 : x < j ∨ k ≤ x + j
      · rw [if_pos e3, if_pos (by omega)]
      · rw [if_neg e3, if_neg (by omega)]
theorem revA_end {cs : List Value} {k j : Nat} {arr : Array Value} (h : RevA cs k j arr) (hk : cs.length = k) (h1 : j + j ≤ k) (h2 : k ≤ j + j + 1) : arr.toList.take k = cs.reverse := by
  apply List.ext_getElem?
  intro x
  rw [List.getElem?_take]
  by_cases hx : x < k
  · rw [if_pos hx, Array.getElem?_toList, h x hx, List.getElem?_reverse (by omega), hk]
    by_cases e3 : x < j ∨ k ≤ x + j
    · rw [if_pos e3]
    · rw [if_neg e3]
      congr 1
      omega
  · rw [if_neg hx, List.getElem?_eq_none (by simp; omega)]
/-- The list lies there, being turned round. -/
structure RevS (w wr : World) (B g k j cap : Nat) (cs : List Value) : Prop where
  box : ∃ arr, Box wr g 27 arr ∧ arr.size = cap ∧ RevA cs k j arr
  kept : Kept B [27] w wr
theorem RevS.at {w wr : World} {B g k j cap : Nat} {cs : List Value} (h : RevS w wr B g k j cap cs) {x : Nat} (hx : x < k) (hn : ¬ (x < j ∨ k ≤ x + j)) : wr.cell? ⟨g, x, none⟩ = cs[x]? ∧ wr.frozen? ⟨g, x, none⟩ = false := by
  obtain ⟨arr, hb, _, hr⟩ := h.box
  exact ⟨by rw [hb.cell x, hr x hx, if_neg hn], hb.frozen x⟩
theorem RevS.step {w wr : World} {B g k j p cap : Nat} {cs : List Value} {v u : Value} (h : RevS w wr B g k j cap cs) (hB : B ≤ g) (hc : k ≤ cap) (hp : p + 1 + j = k) (hj : j < p) (hv : cs[j]? = some v) (hu : cs[p]? = some u) :
    RevS w ((wr.setCell ⟨g, j, none⟩ u).setCell ⟨g, p, none⟩ v) B g k (j + 1) cap cs := by
  obtain ⟨arr, hb, hs, hr⟩ := h.box
  refine ⟨⟨_, (hb.store j u).store p v, by simp [hs], revA_step hr (by omega) hp hj hv hu⟩, (h.kept.store hb hB (by simp) u).store (hb.store j u) hB (by simp) v⟩
theorem RevS.drew {w wr : World} {B g k j cap : Nat} {cs : List Value} (h : RevS w wr B g k j cap cs) : RevS w wr.drew B g k j cap cs := ⟨h.box, h.kept.drew⟩
end Go.Proofs.Ytggcampdkgfmgaa.L10
namespace Go.Proofs.Ytggcampdkgfmgaa.L10
open Go.RowKit

/-- A slice's length. -/
def lenOf : Value → Nat
  | .slice _ n _ => n
  | _ => 0
/-- A line whose last characters have been told. -/
structure UnS (w wr : World) (u : Bool) (bs : List UInt8) (r k lc : Nat) (LA : Option Addr) (cs : List Value) (done : List (List UInt8)) : Prop where
  all : units u bs = units u (bs.take r) ++ done.reverse
  len : done.length = k
  own : wr.ownsRow w.heap.size 27 1 (.slice LA k lc) k cs
  rows : PL wr w.heap.size done cs
  bel : Below w.heap.size w wr
theorem UnS.small {w wr : World} {u : Bool} {bs : List UInt8} {r k lc n : Nat} {LA : Option Addr} {cs : List Value} {done : List (List UInt8)} (h : UnS w wr u bs r k lc LA cs done) (hn : bs.length = n) : k ≤ n := by
  have h1 := congrArg List.length h.all
  rw [List.length_append, List.length_reverse, h.len] at h1
  have := units_len u bs
  omega
theorem pl_sl {w : World} {b : Nat} {ps : List (List UInt8)} {cs : List Value} (h : PL w b ps cs) {k : Nat} (hk : ps.length = k) : Hid (∀ x, x < k → ∃ A n c, cs[x]? = some (.slice A n c)) := hid fun x hx => by
  subst hk
  obtain ⟨A, c, h1, _⟩ := h.2 x hx
  exact ⟨A, _, c, h1⟩
theorem uns_fin {w wr w' : World} {u : Bool} {bs : List UInt8} {k lc : Nat} {LA : Option Addr} {cs : List Value} {done : List (List UInt8)} (h : UnS w wr u bs 0 k lc LA cs done) (ho : Hid (w'.ownsRow w.heap.size 27 1 (.slice LA k lc) k cs.reverse)) (hk : Hid (Kept w.heap.size [27] wr w')) :
    Uns w (units u bs) (.returned (.slice LA k lc)) w' := by
  have e : units u bs = done.reverse := by
    have := h.all
    rwa [List.take_zero, units_nil, List.nil_append] at this
  rw [e]
  exact ⟨LA, k, lc, cs.reverse, rfl, hid (by rw [List.length_reverse]; exact h.len), ho, hid (h.rows.kept hk.out (by decide)).rev, hid (h.bel.trans (hk.out.below h.bel.size))⟩
theorem last_take {u : Bool} {bs : List UInt8} {n r : Nat} (hn : bs.length = n) (hr : r ≤ n) (h0 : 1 ≤ r) : ∃ q p, Hid (lastN u (bs.take r) = q) ∧ p + q = r ∧ 1 ≤ q ∧ Hid (units u (bs.take r) = units u (bs.take p) ++ [(bs.take r).drop p]) := by
  have hl : (bs.take r).length = r := by rw [List.length_take]; omega
  have hne : bs.take r ≠ [] := by
    intro e
    rw [e] at hl
    simp at hl
    omega
  obtain ⟨q, hq⟩ : ∃ q, lastN u (bs.take r) = q := ⟨_, rfl⟩
  have h1 := lastN_pos u hne
  have h2 := lastN_le u (bs.take r)
  refine ⟨q, r - q, hid hq, by omega, by omega, hid ?_⟩
  rw [units_step u hne]
  unfold eraA eraB
  rw [hq, hl, List.take_take, Nat.min_eq_left (by omega)]
end Go.Proofs.Ytggcampdkgfmgaa.L10
namespace Go.Proofs.Ytggcampdkgfmgaa.L10
open Go.RowKit

theorem one_of {xs : List UInt8} (h : xs.length = 1) : ∃ y, xs = [y] := by
  match xs, h with
  | [y], _ => exact ⟨y, rfl⟩
theorem blank_ext (y : UInt8) : blankU [y] = (y == 32 || y == 9) := by
  simp [blankU]
theorem blank_no {xs : List UInt8} (h : xs.length ≠ 1) : blankU xs = false := by
  unfold blankU
  simp
  constructor
  all_goals
    rintro rfl
    exact h rfl
theorem u8_eq (y : UInt8) (k : Nat) (hk : k < 256) : ((y.toNat : Int) == (k : Int)) = (y == UInt8.ofNat k) := by
  rw [Bool.eq_iff_iff]
  simp only [beq_iff_eq]
  constructor
  · intro h
    have : y.toNat = k := by omega
    subst this
    simp
  · rintro rfl
    simp
    omega
/-- What is left to tell of a line whose last characters have been passed. -/
def wst (u : Bool) (b : Bool) (l : List UInt8) : List (List UInt8) := if b then (units u l).reverse.dropWhile (fun x => !blankU x) else wordR (units u l).reverse
theorem wst_start (u : Bool) (l : List UInt8) : wst u false l = wordR (units u l).reverse := rfl
theorem wst_nil (u b : Bool) : wst u b [] = [] := by
  cases b <;> rfl
section
variable {u : Bool} {l m x : List UInt8} (h : units u l = units u m ++ [x])
include h
theorem wst_on (b : Bool) (hx : blankU x = false) : wst u b l = wst u true m := by
  cases b
  · simp [wst, wordR, h, hx]
  · simp [wst, h, hx]
theorem wst_off (hx : blankU x = true) : wst u false l = wst u false m := by
  simp [wst, wordR, h, hx]
theorem wst_stop (hx : blankU x = true) : wst u true l = (units u l).reverse := by
  simp [wst, h, hx]
end
theorem rest_at {u : Bool} {bs : List UInt8} {n r : Nat} (hn : bs.length = n) (hr : r ≤ n) (h : wordR (units u bs).reverse = (units u (bs.take r)).reverse) : Hid (bs.take r = restL u bs) ∧ Hid (bs.drop r = goneL u bs) := by
  have e : restL u bs = bs.take r := by
    unfold restL restU
    rw [h, List.reverse_reverse, units_flat]
  refine ⟨hid e.symm, hid ?_⟩
  unfold goneL
  rw [e, List.length_take, Nat.min_eq_left (by omega)]
end Go.Proofs.Ytggcampdkgfmgaa.L10
