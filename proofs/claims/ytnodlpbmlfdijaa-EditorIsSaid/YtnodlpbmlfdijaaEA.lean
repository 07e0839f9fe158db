import Derived.Test.YtnodlpbmlfdijaaBA
namespace Go.Proofs.Ytnodlpbmlfdijaa
open Go.RowKit

/-- A byte that goes on with a character in UTF-8. -/
def contB (c : UInt8) : Bool := decide (128 ≤ c.toNat) && decide (c.toNat ≤ 191)
/-- How many bytes the last character has; the line comes from its end on. -/
def lastR (u : Bool) : Nat → List UInt8 → Nat
  | 0, _ => 0
  | _ + 1, [] => 0
  | k + 1, c :: r => if (u && contB c) = true then lastR u k r + 1 else 1
def lastN (u : Bool) (l : List UInt8) : Nat := lastR u 4 l.reverse
theorem lastR_le (u : Bool) : ∀ (k : Nat) (r : List UInt8), lastR u k r ≤ k ∧ lastR u k r ≤ r.length
  | 0, _ => ⟨Nat.le_refl _, Nat.zero_le _⟩
  | k + 1, [] => ⟨Nat.zero_le _, Nat.le_refl _⟩
  | k + 1, c :: r => by
    have h := lastR_le u k r
    simp only [lastR, List.length_cons]
    split <;> omega
theorem lastR_pos (u : Bool) {k : Nat} {r : List UInt8} (hk : 0 < k) (hr : r ≠ []) : 1 ≤ lastR u k r := by
  match k, r, hk, hr with
  | k + 1, c :: r, _, _ =>
    simp only [lastR]
    split <;> omega
theorem lastN_le (u : Bool) (l : List UInt8) : lastN u l ≤ 4 ∧ lastN u l ≤ l.length := by
  have h := lastR_le u 4 l.reverse
  rwa [List.length_reverse] at h
theorem lastN_pos (u : Bool) {l : List UInt8} (h : l ≠ []) : 1 ≤ lastN u l := lastR_pos u (by omega) (by simpa using h)
theorem lastN_nil (u : Bool) : lastN u [] = 0 := rfl
theorem lastN_one {l : List UInt8} (h : l ≠ []) : lastN false l = 1 := by
  unfold lastN
  have h2 : l.reverse ≠ [] := by simpa using h
  match hr : l.reverse, h2 with
  | c :: r, _ => simp [lastR]
/-- A line without its last character, and that. -/
def eraA (u : Bool) (l : List UInt8) : List UInt8 := l.take (l.length - lastN u l)
def eraB (u : Bool) (l : List UInt8) : List UInt8 := l.drop (l.length - lastN u l)
theorem era_join (u : Bool) (l : List UInt8) : eraA u l ++ eraB u l = l := List.take_append_drop _ _
theorem eraA_len (u : Bool) (l : List UInt8) : (eraA u l).length = l.length - lastN u l := by
  unfold eraA
  rw [List.length_take]
  omega
theorem eraB_len (u : Bool) (l : List UInt8) : (eraB u l).length = lastN u l := by
  unfold eraB
  rw [List.length_drop]
  have := lastN_le u l
  omega
theorem eraA_lt (u : Bool) {l : List UInt8} (h : l ≠ []) : (eraA u l).length < l.length := by
  rw [eraA_len]
  have := lastN_pos u h
  have := lastN_le u l
  omega
theorem era_nil (u : Bool) : eraA u [] = [] ∧ eraB u [] = [] := ⟨rfl, rfl⟩
/-- A line's characters. -/
def unitsK (u : Bool) : Nat → List UInt8 → List (List UInt8)
  | 0, _ => []
  | k + 1, l => if l = [] then [] else unitsK u k (eraA u l) ++ [eraB u l]
def units (u : Bool) (l : List UInt8) : List (List UInt8) := unitsK u l.length l
theorem unitsK_more (u : Bool) : ∀ (k : Nat) (l : List UInt8), l.length ≤ k → unitsK u k l = units u l := by
  intro k
  induction k using Nat.strongRecOn with
  | _ k ih =>
    intro l hl
    by_cases h : l = []
    · subst h
      cases k <;> simp [unitsK, units]
    · have hp : 0 < l.length := List.length_pos_iff.2 h
      have ha := eraA_lt u h
      obtain ⟨j, rfl⟩ : ∃ j, k = j + 1 := ⟨k - 1, by omega⟩
      obtain ⟨m, hm⟩ : ∃ m, l.length = m + 1 := ⟨l.length - 1, by omega⟩
      unfold units
      rw [hm]
      simp only [unitsK, if_neg h]
      rw [ih j (by omega) _ (by omega), ih m (by omega) _ (by omega)]
theorem units_nil (u : Bool) : units u [] = [] := rfl
theorem units_step (u : Bool) {l : List UInt8} (h : l ≠ []) : units u l = units u (eraA u l) ++ [eraB u l] := by
  have hp : 0 < l.length := List.length_pos_iff.2 h
  have ha := eraA_lt u h
  obtain ⟨m, hm⟩ : ∃ m, l.length = m + 1 := ⟨l.length - 1, by omega⟩
  conv => lhs; unfold units
  rw [hm]
  simp only [unitsK, if_neg h]
  rw [unitsK_more u m _ (by omega)]
/-- What holds of nothing, and of a line where it holds of the line without its last character. -/
theorem line_ind (u : Bool) {P : List UInt8 → Prop} (h0 : P []) (h1 : ∀ l, l ≠ [] → P (eraA u l) → P l) (l : List UInt8) : P l := by
  obtain ⟨n, hn⟩ : ∃ n, l.length = n := ⟨_, rfl⟩
  induction n using Nat.strongRecOn generalizing l with
  | _ n ih =>
    by_cases h : l = []
    · subst h; exact h0
    · have := eraA_lt u h
      exact h1 l h (ih _ (by omega) _ rfl)
theorem units_flat (u : Bool) (l : List UInt8) : (units u l).flatten = l := by
  refine line_ind u (P := fun l => (units u l).flatten = l) rfl (fun l h ih => ?_) l
  rw [units_step u h, List.flatten_append, ih]
  simp [era_join]
theorem units_each (u : Bool) (l : List UInt8) : ∀ x ∈ units u l, 1 ≤ x.length ∧ x.length ≤ 4 := by
  refine line_ind u (P := fun l => ∀ x ∈ units u l, 1 ≤ x.length ∧ x.length ≤ 4) (fun x hx => by cases hx) (fun l h ih x hx => ?_) l
  rw [units_step u h, List.mem_append] at hx
  rcases hx with hx | hx
  · exact ih x hx
  · rw [List.mem_singleton.1 hx, eraB_len]
    exact ⟨lastN_pos u h, (lastN_le u l).1⟩
theorem units_len (u : Bool) (l : List UInt8) : (units u l).length ≤ l.length := by
  refine line_ind u (P := fun l => (units u l).length ≤ l.length) (Nat.le_refl _) (fun l h ih => ?_) l
  have := eraA_lt u h
  rw [units_step u h, List.length_append]
  simp
  omega
/-- The first characters are the characters of what they are. -/
theorem units_take (u : Bool) (l : List UInt8) : ∀ n, units u ((units u l).take n).flatten = (units u l).take n := by
  refine line_ind u (P := fun l => ∀ n, units u ((units u l).take n).flatten = (units u l).take n) (fun n => by simp [units_nil]) (fun l h ih n => ?_) l
  by_cases hn : n < (units u l).length
  · rw [units_step u h, List.length_append] at hn
    simp at hn
    rw [units_step u h, List.take_append_of_le_length (by omega)]
    exact ih n
  · rw [List.take_of_length_le (by omega), units_flat]
theorem era_one (l : List UInt8) (z : UInt8) : eraA false (l ++ [z]) = l ∧ eraB false (l ++ [z]) = [z] := by
  unfold eraA eraB
  rw [lastN_one (by simp), List.length_append]
  simp
theorem units_one (l : List UInt8) : units false l = l.map fun c => [c] := by
  refine line_ind false (P := fun l => units false l = l.map fun c => [c]) rfl (fun l h ih => ?_) l
  obtain ⟨ys, z, rfl⟩ : ∃ ys z, l = ys ++ [z] := by
    rcases List.eq_nil_or_concat l with h0 | ⟨ys, x, h0⟩
    · exact absurd h0 h
    · exact ⟨ys, x, by simpa using h0⟩
  rw [units_step false h, ih, (era_one ys z).1, (era_one ys z).2, List.map_append]
  rfl
/-- A character of a text in UTF-8. -/
def chunkP (x : List UInt8) : Prop := ∃ c r, x = c :: r ∧ contB c = false ∧ r.length ≤ 3 ∧ ∀ y ∈ r, contB y = true
theorem lastR_chunk : ∀ (r : List UInt8) (k : Nat) (c : UInt8) (s : List UInt8), (∀ y ∈ r, contB y = true) → contB c = false → r.length < k → lastR true k (r ++ c :: s) = r.length + 1
  | [], k + 1, c, s, _, hc, _ => by simp [lastR, hc]
  | y :: r, k + 1, c, s, hr, hc, hk => by
    have hy := hr y (by simp)
    have ih := lastR_chunk r k c s (fun z hz => hr z (by simp [hz])) hc (by simp at hk; omega)
    simp [lastR, hy, ih]
theorem lastN_chunk {x : List UInt8} (hx : chunkP x) (s : List UInt8) : lastN true (s ++ x) = x.length := by
  obtain ⟨c, r, rfl, hc, hr, hy⟩ := hx
  unfold lastN
  rw [List.reverse_append, List.reverse_cons, List.append_assoc]
  have := lastR_chunk r.reverse 4 c s.reverse (fun y h => hy y (by simpa using h)) hc (by simp; omega)
  simpa using this
theorem units_text : ∀ (n : Nat) (xs : List (List UInt8)), xs.length = n → (∀ x ∈ xs, chunkP x) → units true xs.flatten = xs := by
  intro n
  induction n with
  | zero =>
    intro xs hn _
    have : xs = [] := List.eq_nil_of_length_eq_zero hn
    subst this
    rfl
  | succ n ih =>
    intro xs hn h
    obtain ⟨ys, x, rfl⟩ : ∃ ys x, xs = ys ++ [x] := by
      rcases List.eq_nil_or_concat xs with h0 | ⟨ys, x, h0⟩
      · subst h0; simp at hn
      · exact ⟨ys, x, by simpa using h0⟩
    have hx := h x (by simp)
    have hl := lastN_chunk hx ys.flatten
    have hf : (ys ++ [x]).flatten = ys.flatten ++ x := by simp
    have hne : ys.flatten ++ x ≠ [] := by
      obtain ⟨c, r, rfl, _⟩ := hx
      simp
    rw [hf, units_step true hne]
    have e1 : eraA true (ys.flatten ++ x) = ys.flatten := by
      unfold eraA
      rw [hl, List.length_append, Nat.add_sub_cancel, List.take_left']
      rfl
    have e2 : eraB true (ys.flatten ++ x) = x := by
      unfold eraB
      rw [hl, List.length_append, Nat.add_sub_cancel, List.drop_left']
      rfl
    rw [e1, e2, ih ys (by simpa using hn) (fun y hy => h y (by simp [hy]))]
/-- Is a character a blank? -/
def blankU (x : List UInt8) : Bool := x == [32] || x == [9]
def wordR (r : List (List UInt8)) : List (List UInt8) := (r.dropWhile blankU).dropWhile fun x => !blankU x
/-- The characters that are left of a line without its last word. -/
def restU (u : Bool) (l : List UInt8) : List (List UInt8) := (wordR (units u l).reverse).reverse
def restL (u : Bool) (l : List UInt8) : List UInt8 := (restU u l).flatten
def goneL (u : Bool) (l : List UInt8) : List UInt8 := l.drop (restL u l).length
theorem wordR_suffix (r : List (List UInt8)) : wordR r <:+ r := (List.dropWhile_suffix _).trans (List.dropWhile_suffix _)
theorem restU_prefix (u : Bool) (l : List UInt8) : restU u l <+: units u l := by
  have h := wordR_suffix (units u l).reverse
  have := List.reverse_prefix.2 h
  rwa [List.reverse_reverse] at this
theorem restU_take (u : Bool) (l : List UInt8) : restU u l = (units u l).take (restU u l).length := List.prefix_iff_eq_take.1 (restU_prefix u l)
theorem restL_units (u : Bool) (l : List UInt8) : units u (restL u l) = restU u l := by
  unfold restL
  rw [restU_take, units_take]
theorem restL_prefix (u : Bool) (l : List UInt8) : restL u l <+: l := by
  obtain ⟨z, hz⟩ := restU_prefix u l
  refine ⟨z.flatten, ?_⟩
  unfold restL
  rw [← List.flatten_append, hz, units_flat]
theorem restL_take (u : Bool) (l : List UInt8) : restL u l = l.take (restL u l).length := List.prefix_iff_eq_take.1 (restL_prefix u l)
theorem word_join (u : Bool) (l : List UInt8) : restL u l ++ goneL u l = l := by
  unfold goneL
  conv => lhs; lhs; rw [restL_take]
  exact List.take_append_drop _ _
theorem wordR_lt {r : List (List UInt8)} (h : r ≠ []) : (wordR r).length < r.length := by
  match r, h with
  | x :: r, _ =>
    unfold wordR
    cases hx : blankU x
    · rw [List.dropWhile_cons_of_neg (by simp [hx]), List.dropWhile_cons_of_pos (by simp [hx])]
      have := (List.dropWhile_suffix (l := r) fun x => !blankU x).length_le
      simp
      omega
    · rw [List.dropWhile_cons_of_pos hx]
      have h1 := (List.dropWhile_suffix (l := r.dropWhile blankU) fun x => !blankU x).length_le
      have h2 := (List.dropWhile_suffix (l := r) blankU).length_le
      simp
      omega
theorem units_ne (u : Bool) {l : List UInt8} (h : l ≠ []) : units u l ≠ [] := by
  rw [units_step u h]
  simp
theorem flat_pos {xs : List (List UInt8)} (h : xs ≠ []) (he : ∀ x ∈ xs, 1 ≤ x.length) : 1 ≤ xs.flatten.length := by
  match xs, h with
  | x :: xs, _ =>
    have := he x (by simp)
    simp
    omega
theorem restL_lt (u : Bool) {l : List UInt8} (h : l ≠ []) : (restL u l).length < l.length := by
  have h1 : (restU u l).length < (units u l).length := by
    have := wordR_lt (r := (units u l).reverse) (by simpa using units_ne u h)
    unfold restU
    rw [List.length_reverse]
    simpa using this
  obtain ⟨z, hz⟩ := restU_prefix u l
  have hz1 : z ≠ [] := by
    rintro rfl
    rw [List.append_nil] at hz
    rw [hz] at h1
    omega
  have h2 : 1 ≤ z.flatten.length := flat_pos hz1 fun x hx => (units_each u l x (by rw [← hz]; simp [hx])).1
  have h3 : (restL u l).length + z.flatten.length = l.length := by
    unfold restL
    rw [← List.length_append, ← List.flatten_append, hz, units_flat]
  omega
theorem goneL_ne (u : Bool) {l : List UInt8} (h : l ≠ []) : goneL u l ≠ [] := by
  have h1 := restL_lt u h
  intro e
  have := congrArg List.length e
  unfold goneL at this
  rw [List.length_drop] at this
  simp at this
  omega
theorem head_drop {α : Type} (p : α → Bool) : ∀ (l : List α) {y : α} {t : List α}, l.dropWhile p = y :: t → p y = false
  | [], _, _, h => by simp at h
  | x :: l, y, t, h => by
    cases hx : p x
    · rw [List.dropWhile_cons_of_neg (by simp [hx])] at h
      injection h with h1 _
      rw [← h1, hx]
    · rw [List.dropWhile_cons_of_pos hx] at h
      exact head_drop p l h
def blankB (c : UInt8) : Bool := c == 32 || c == 9
/-- What is left is nothing, or ends with a blank. -/
theorem restL_end (u : Bool) (l : List UInt8) : restL u l = [] ∨ ∃ a c, restL u l = a ++ [c] ∧ blankB c = true := by
  unfold restL restU
  cases hw : wordR (units u l).reverse with
  | nil => exact Or.inl rfl
  | cons y t =>
    have hy : (!blankU y) = false := head_drop (fun x => !blankU x) _ (show List.dropWhile (fun x => !blankU x) _ = y :: t from hw)
    right
    have hb : blankU y = true := by simpa using hy
    unfold blankU at hb
    simp only [Bool.or_eq_true, beq_iff_eq] at hb
    rcases hb with rfl | rfl
    · exact ⟨t.reverse.flatten, 32, by simp, rfl⟩
    · exact ⟨t.reverse.flatten, 9, by simp, rfl⟩
/-- Erased character by character a line comes to what Word leaves of it. -/
theorem erase_to (u : Bool) (l : List UInt8) (n : Nat) (hn : n < (units u l).length) : eraA u ((units u l).take (n + 1)).flatten = ((units u l).take n).flatten := by
  obtain ⟨y, hy⟩ : ∃ y, (units u l)[n]? = some y := ⟨_, List.getElem?_eq_getElem hn⟩
  have e : (units u l).take (n + 1) = (units u l).take n ++ [y] := by rw [List.take_add_one, hy]; rfl
  have hm : y ∈ units u l := List.mem_of_getElem? hy
  have hy1 := (units_each u l y hm).1
  have hne : ((units u l).take (n + 1)).flatten ≠ [] := by
    rw [e]
    intro h
    have h8 := congrArg List.length h
    rw [List.flatten_append, List.length_append] at h8
    have h9 : ([y] : List (List UInt8)).flatten.length = y.length := by simp
    simp only [List.length_nil] at h8
    omega
  have h1 := units_take u l (n + 1)
  have h2 := units_step u hne
  rw [h1, e] at h2
  have h3 := List.append_inj' h2 (by simp)
  have h4 := units_flat u (eraA u ((units u l).take n ++ [y]).flatten)
  rw [e, ← h4, ← h3.1]
theorem drop_single (p : List UInt8 → Bool) (q : UInt8 → Bool) (hpq : ∀ c, p [c] = q c) : ∀ l : List UInt8, (l.map fun c => [c]).dropWhile p = (l.dropWhile q).map fun c => [c]
  | [] => rfl
  | c :: l => by
    rw [List.map_cons]
    cases h : q c
    · rw [List.dropWhile_cons_of_neg (by rw [hpq, h]; decide), List.dropWhile_cons_of_neg (by rw [h]; decide), List.map_cons]
    · rw [List.dropWhile_cons_of_pos (by rw [hpq, h]), List.dropWhile_cons_of_pos h, drop_single p q hpq l]
theorem blank_one (c : UInt8) : blankU [c] = blankB c := by
  unfold blankU blankB
  rw [Bool.eq_iff_iff]
  simp
theorem flat_single : ∀ l : List UInt8, (l.map fun c => [c]).flatten = l
  | [] => rfl
  | c :: l => by rw [List.map_cons, List.flatten_cons, flat_single l]; rfl
theorem rest_bytes (l : List UInt8) : restL false l = ((l.reverse.dropWhile blankB).dropWhile fun c => !blankB c).reverse := by
  unfold restL restU wordR
  rw [units_one, ← List.map_reverse, drop_single blankU blankB blank_one, drop_single (fun x => !blankU x) (fun c => !blankB c) (fun c => by rw [blank_one]), ← List.map_reverse, flat_single]
theorem gone_bytes (l : List UInt8) : (goneL false l).reverse = l.reverse.takeWhile blankB ++ (l.reverse.dropWhile blankB).takeWhile fun c => !blankB c := by
  have h1 := congrArg List.reverse (word_join false l)
  rw [List.reverse_append, rest_bytes, List.reverse_reverse] at h1
  have h2 : l.reverse.takeWhile blankB ++ ((l.reverse.dropWhile blankB).takeWhile fun c => !blankB c) ++ ((l.reverse.dropWhile blankB).dropWhile fun c => !blankB c) = l.reverse := by
    rw [List.append_assoc, List.takeWhile_append_dropWhile, List.takeWhile_append_dropWhile]
  exact List.append_cancel_right (h1.trans h2.symm)
theorem take_all {α : Type} (p : α → Bool) : ∀ (l : List α), ∀ x ∈ l.takeWhile p, p x = true
  | [], x, h => by simp at h
  | y :: l, x, h => by
    cases hy : p y
    · rw [List.takeWhile_cons_of_neg (by simp [hy])] at h
      simp at h
    · rw [List.takeWhile_cons_of_pos hy] at h
      rcases List.mem_cons.1 h with rfl | h
      · exact hy
      · exact take_all p l x h
theorem drop_all {α : Type} (p : α → Bool) : ∀ (l r : List α), (∀ x ∈ l, p x = true) → (l ++ r).dropWhile p = r.dropWhile p
  | [], _, _ => rfl
  | y :: l, r, h => by
    rw [List.cons_append, List.dropWhile_cons_of_pos (h y (by simp))]
    exact drop_all p l r fun x hx => h x (by simp [hx])
/-- Without UTF-8 what Word takes has no blank, but for those at its end. -/
theorem gone_word (l : List UInt8) : ∀ c ∈ (goneL false l).reverse.dropWhile blankB, blankB c = false := by
  rw [gone_bytes, drop_all _ _ _ (take_all blankB _)]
  intro c hc
  have h1 := (List.dropWhile_suffix (l := (l.reverse.dropWhile blankB).takeWhile fun c => !blankB c) blankB).subset hc
  have h2 := take_all (fun c => !blankB c) _ c h1
  simpa using h2
end Go.Proofs.Ytnodlpbmlfdijaa
