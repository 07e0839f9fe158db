import Derived.Test.YteeienmigoebmaaGreatDoorSGA
namespace Go.Proofs.YteeienmigoebmaaGreatDoor
namespace L19
open Go.RowKit

/-! Layer 19 (program): the maths of texts. -/
/-- What stands between bytes of a sort. -/
def cutL (d : UInt8) : List UInt8 → List (List UInt8)
  | [] => [[]]
  | c :: r => if c = d then [] :: cutL d r else match cutL d r with
    | [] => [[c]]
    | x :: xs => (c :: x) :: xs
def joinL (d : UInt8) : List (List UInt8) → List UInt8
  | [] => []
  | [x] => x
  | x :: y :: r => x ++ d :: joinL d (y :: r)
theorem cut_ne (d : UInt8) : ∀ s, cutL d s ≠ []
  | [] => by simp [cutL]
  | c :: r => by
    unfold cutL
    split
    · simp
    · split <;> simp
theorem cut_join (d : UInt8) : ∀ s, joinL d (cutL d s) = s
  | [] => rfl
  | c :: r => by
    have ih := cut_join d r
    have hn := cut_ne d r
    unfold cutL
    split
    · rename_i h
      subst h
      cases hq : cutL c r with
      | nil => exact absurd hq hn
      | cons x xs =>
        rw [hq] at ih
        simp [joinL, ih]
    · cases hq : cutL d r with
      | nil => exact absurd hq hn
      | cons x xs =>
        rw [hq] at ih
        cases xs with
        | nil => simpa [joinL] using ih
        | cons y ys => simpa [joinL] using ih
theorem cut_one {d : UInt8} : ∀ {x : List UInt8}, d ∉ x → cutL d x = [x]
  | [], _ => rfl
  | c :: r, h => by
    have h1 : c ≠ d := fun e => h (by simp [e])
    have h2 := cut_one (d := d) (x := r) (fun e => h (List.mem_cons_of_mem _ e))
    simp [cutL, h1, h2]
theorem cut_app {d : UInt8} : ∀ {x : List UInt8} (s : List UInt8), d ∉ x → cutL d (x ++ d :: s) = x :: cutL d s
  | [], s, _ => by simp [cutL]
  | c :: r, s, h => by
    have h1 : c ≠ d := fun e => h (by simp [e])
    have h2 := cut_app (d := d) (x := r) s (fun e => h (List.mem_cons_of_mem _ e))
    simp [cutL, h1, h2]
theorem cut_mem {d : UInt8} : ∀ {s x : List UInt8}, x ∈ cutL d s → d ∉ x ∧ ∀ c ∈ x, c ∈ s
  | [], x, h => by
    simp [cutL] at h
    subst h
    simp
  | c :: r, x, h => by
    unfold cutL at h
    split at h
    · rename_i e
      rcases List.mem_cons.1 h with rfl | h
      · simp
      · obtain ⟨h1, h2⟩ := cut_mem h
        exact ⟨h1, fun y hy => List.mem_cons_of_mem _ (h2 y hy)⟩
    · rename_i e
      cases hq : cutL d r with
      | nil => exact absurd hq (cut_ne d r)
      | cons y ys =>
        rw [hq] at h
        rcases List.mem_cons.1 h with rfl | h
        · obtain ⟨h1, h2⟩ := cut_mem (s := r) (x := y) (by rw [hq]; simp)
          refine ⟨?_, ?_⟩
          · intro hm
            rcases List.mem_cons.1 hm with hm | hm
            · exact e hm.symm
            · exact h1 hm
          · intro z hz
            rcases List.mem_cons.1 hz with hz | hz
            · simp [hz]
            · exact List.mem_cons_of_mem _ (h2 z hz)
        · obtain ⟨h1, h2⟩ := cut_mem (s := r) (x := x) (by rw [hq]; exact List.mem_cons_of_mem _ h)
          exact ⟨h1, fun z hz => List.mem_cons_of_mem _ (h2 z hz)⟩
/-- Lines, each ended. -/
def ended (ls : List (List UInt8)) : List UInt8 := ls.flatMap (· ++ [10])
theorem cut_ended : ∀ {ls : List (List UInt8)}, (∀ x ∈ ls, (10 : UInt8) ∉ x) → cutL 10 (ended ls) = ls ++ [[]]
  | [], _ => rfl
  | x :: ls, h => by
    have e : ended (x :: ls) = x ++ 10 :: ended ls := by simp [ended]
    rw [e, cut_app _ (h x (by simp)), cut_ended fun y hy => h y (by simp [hy])]
    rfl
theorem join_ended : ∀ (ls : List (List UInt8)), joinL 10 (ls ++ [[]]) = ended ls
  | [] => rfl
  | [x] => by simp [joinL, ended]
  | x :: y :: ls => by
    have ih := join_ended (y :: ls)
    have e : ended (x :: y :: ls) = x ++ 10 :: ended (y :: ls) := by simp [ended]
    rw [e, ← ih]
    rfl
theorem ended_append (a b : List (List UInt8)) : ended (a ++ b) = ended a ++ ended b := by simp [ended]

/-! Numbers. -/
def dig (n : Nat) : UInt8 := UInt8.ofNat (48 + n)
/-- A number's text, seven digits at most. -/
def digN : Nat → Nat → List UInt8
  | 0, n => [dig (n % 10)]
  | f + 1, n => if n ≤ 9 then [dig n] else digN f (n / 10) ++ [dig (n % 10)]
def digits (n : Nat) : List UInt8 := digN n n
def digB (c : UInt8) : Bool := decide (48 ≤ c) && decide (c ≤ 57)
def step10 (n : Nat) (c : UInt8) : Nat := 10 * n + (c.toNat - 48)
def valD (n : Nat) (s : List UInt8) : Nat := s.foldl step10 n
def number (s : List UInt8) : Option Nat :=
  if s.length < 1 ∨ 6 < s.length ∨ (s.head? = some 48 ∧ 1 < s.length) ∨ s.all digB = false then none else some (valD 0 s)
theorem dig_nat {n : Nat} (h : n ≤ 9) : (dig n).toNat = 48 + n := by simp [dig]; omega
theorem dig_b {n : Nat} (h : n ≤ 9) : digB (dig n) = true := by
  have e := dig_nat h
  simp only [digB, Bool.and_eq_true, decide_eq_true_eq, UInt8.le_iff_toNat_le, e]
  constructor
  · show 48 ≤ 48 + n; omega
  · show 48 + n ≤ 57; omega
theorem digN_fuel : ∀ (f g n : Nat), n ≤ f → n ≤ g → digN f n = digN g n
  | 0, 0, n, _, _ => rfl
  | 0, g + 1, n, h, _ => by
    have : n = 0 := by omega
    subst this
    simp [digN]
  | f + 1, 0, n, _, h => by
    have : n = 0 := by omega
    subst this
    simp [digN]
  | f + 1, g + 1, n, h1, h2 => by
    unfold digN
    split
    · rfl
    · rw [digN_fuel f g (n / 10) (by omega) (by omega)]
theorem digits_small {n : Nat} (h : n ≤ 9) : digits n = [dig n] := by
  unfold digits
  cases n with
  | zero => rfl
  | succ n => simp [digN, h]
theorem digits_big {n : Nat} (h : 9 < n) : digits n = digits (n / 10) ++ [dig (n % 10)] := by
  unfold digits
  cases n with
  | zero => omega
  | succ m =>
    rw [digN, if_neg (by omega), digN_fuel m ((m + 1) / 10) ((m + 1) / 10) (by omega) (Nat.le_refl _)]
theorem valD_snoc (s : List UInt8) (n : Nat) (c : UInt8) : valD n (s ++ [c]) = 10 * valD n s + (c.toNat - 48) := by
  unfold valD
  rw [List.foldl_append]
  rfl
theorem valD_one (n : Nat) (c : UInt8) : valD n [c] = 10 * n + (c.toNat - 48) := rfl
theorem digits_val (n : Nat) : valD 0 (digits n) = n := by
  induction n using Nat.strongRecOn with
  | ind n ih =>
    by_cases h : n ≤ 9
    · rw [digits_small h, valD_one, dig_nat h]
      omega
    · rw [digits_big (by omega), valD_snoc, ih (n / 10) (by omega), dig_nat (by omega)]
      omega
theorem digits_all (n : Nat) : (digits n).all digB = true := by
  induction n using Nat.strongRecOn with
  | ind n ih =>
    by_cases h : n ≤ 9
    · rw [digits_small h]
      simp [dig_b h]
    · rw [digits_big (by omega), List.all_append, ih (n / 10) (by omega)]
      simp [dig_b (n := n % 10) (by omega)]
theorem digits_pos (n : Nat) : 1 ≤ (digits n).length := by
  by_cases h : n ≤ 9
  · rw [digits_small h]; simp
  · rw [digits_big (by omega)]; simp
theorem digits_len : ∀ (k n : Nat), n < 10 ^ (k + 1) → (digits n).length ≤ k + 1
  | 0, n, h => by
    have h : n < 10 := by simpa using h
    rw [digits_small (by omega)]
    simp
  | k + 1, n, h => by
    by_cases h9 : n ≤ 9
    · rw [digits_small h9]; simp
    · have hd : n / 10 < 10 ^ (k + 1) := by
        rw [Nat.pow_succ] at h
        generalize 10 ^ (k + 1) = z at h ⊢
        omega
      have := digits_len k (n / 10) hd
      rw [digits_big (by omega), List.length_append, List.length_singleton]
      clear h hd
      omega
theorem digits_head (n : Nat) : (digits n).head? = some 48 → (digits n).length = 1 := by
  induction n using Nat.strongRecOn with
  | ind n ih =>
    intro h
    by_cases h9 : n ≤ 9
    · rw [digits_small h9]; rfl
    · exfalso
      rw [digits_big (by omega)] at h
      have hp := digits_pos (n / 10)
      have hh : (digits (n / 10)).head? = some 48 := by
        cases hq : digits (n / 10) with
        | nil => rw [hq] at hp; simp at hp
        | cons x r => rw [hq] at h; simpa using h
      have hl := ih (n / 10) (by omega) hh
      have hv := digits_val (n / 10)
      cases hq : digits (n / 10) with
      | nil => rw [hq] at hl; simp at hl
      | cons x r =>
        rw [hq] at hl hh hv
        have : r = [] := List.eq_nil_of_length_eq_zero (by simpa using hl)
        subst this
        simp at hh
        subst hh
        rw [valD_one] at hv
        have : (48 : UInt8).toNat = 48 := rfl
        omega
theorem number_digits {n : Nat} (h : n ≤ 999999) : number (digits n) = some n := by
  unfold number
  rw [if_neg]
  · rw [digits_val]
  · have h1 := digits_pos n
    have h2 := digits_len 5 n (by simpa using (by omega : n < 1000000))
    have h3 := digits_head n
    have h4 := digits_all n
    rintro (h | h | ⟨h, h'⟩ | h)
    · omega
    · omega
    · have := h3 h; omega
    · rw [h4] at h; cases h
theorem digits_of : ∀ (s : List UInt8), s ≠ [] → s.all digB = true → (s.head? = some 48 → s.length = 1) → digits (valD 0 s) = s := by
  intro s
  induction hl : s.length generalizing s with
  | zero => intro h; exact absurd (List.eq_nil_of_length_eq_zero hl) h
  | succ n ih =>
    intro hne hall hhead
    obtain ⟨t, c, rfl⟩ : ∃ t c, s = t ++ [c] := ⟨s.dropLast, s.getLast hne, (List.dropLast_concat_getLast hne).symm⟩
    simp only [List.all_append, List.all_cons, List.all_nil, Bool.and_true, Bool.and_eq_true] at hall
    obtain ⟨ht, hc⟩ := hall
    have hcn : 48 ≤ c.toNat ∧ c.toNat ≤ 57 := by
      simp only [digB, Bool.and_eq_true, decide_eq_true_eq, UInt8.le_iff_toNat_le] at hc
      exact hc
    have hcd : dig (c.toNat - 48) = c := by
      apply UInt8.toNat_inj.1
      rw [dig_nat (by omega)]
      omega
    by_cases htn : t = []
    · subst htn
      have e : valD 0 ([] ++ [c]) = c.toNat - 48 := by rw [List.nil_append, valD_one]; omega
      rw [e, digits_small (by omega), hcd]
      rfl
    · have hlt : t.length = n := by simpa using hl
      have hth : t.head? ≠ some 48 := by
        intro h
        have h1 : (t ++ [c]).head? = some 48 := by
          cases t with
          | nil => exact absurd rfl htn
          | cons x r => simpa using h
        have := hhead h1
        have : t.length ≠ 0 := fun e => htn (List.eq_nil_of_length_eq_zero e)
        simp at hhead
        omega
      have h2 := ih t hlt htn ht (fun h => absurd h hth)
      have hpos : 0 < valD 0 t := by
        rcases Nat.eq_zero_or_pos (valD 0 t) with h | h
        · exfalso
          rw [h] at h2
          have : t = [48] := by rw [← h2]; rfl
          exact hth (by rw [this]; rfl)
        · exact h
      rw [valD_snoc, digits_big (by omega)]
      have e1 : (10 * valD 0 t + (c.toNat - 48)) / 10 = valD 0 t := by omega
      have e2 : (10 * valD 0 t + (c.toNat - 48)) % 10 = c.toNat - 48 := by omega
      rw [e1, e2, h2, hcd]
theorem number_back {s : List UInt8} {n : Nat} (h : number s = some n) : digits n = s ∧ s.all digB = true := by
  unfold number at h
  split at h
  · cases h
  · rename_i hn
    simp only [Option.some.injEq] at h
    subst h
    have h1 : s ≠ [] := fun e => hn (.inl (by simp [e]))
    have h2 : s.all digB = true := by
      cases hq : s.all digB
      · exact absurd (.inr (.inr (.inr hq))) hn
      · rfl
    refine ⟨digits_of s h1 h2 fun hh => ?_, h2⟩
    have h3 : ¬ 1 < s.length := fun hl => hn (.inr (.inr (.inl ⟨hh, hl⟩)))
    have h4 : s.length ≠ 0 := fun e => h1 (List.eq_nil_of_length_eq_zero e)
    omega

/-! Texts. -/
def itself (c : UInt8) : Bool := decide (33 ≤ c) && decide (c ≤ 126) && decide (c ≠ 92)
def hexD (n : UInt8) : UInt8 := if n < 10 then 48 + n else 87 + n
def esc1 (c : UInt8) : List UInt8 := if itself c = true then [c] else [92, hexD (c / 16), hexD (c % 16)]
def escaped (s : List UInt8) : List UInt8 := s.flatMap esc1
def unhex (c : UInt8) : Option UInt8 := if 48 ≤ c ∧ c ≤ 57 then some (c - 48) else if 97 ≤ c ∧ c ≤ 102 then some (c - 87) else none
def plain : List UInt8 → Option (List UInt8)
  | [] => some []
  | c :: r => if itself c = true then (plain r).map (c :: ·) else if c ≠ 92 then none else match r with
    | x :: y :: r2 => match unhex x, unhex y with
      | some a, some b => if itself (16 * a + b) = true then none else (plain r2).map ((16 * a + b) :: ·)
      | _, _ => none
    | _ => none
theorem all256 {P : UInt8 → Prop} (h : ∀ n : Fin 256, P (UInt8.ofNat n.1)) (c : UInt8) : P c := by
  have := h ⟨c.toNat, c.toNat_lt⟩
  simpa using this
set_option maxRecDepth 100000 in
theorem hex_back (c : UInt8) : unhex (hexD (c / 16)) = some (c / 16) ∧ unhex (hexD (c % 16)) = some (c % 16) ∧ 16 * (c / 16) + c % 16 = c := by
  revert c
  exact fun c => all256 (P := fun c => unhex (hexD (c / 16)) = some (c / 16) ∧ unhex (hexD (c % 16)) = some (c % 16) ∧ 16 * (c / 16) + c % 16 = c) (by decide +kernel) c
theorem plain_escaped : ∀ s : List UInt8, plain (escaped s) = some s
  | [] => rfl
  | c :: s => by
    have ih := plain_escaped s
    have e : escaped (c :: s) = esc1 c ++ escaped s := by simp [escaped]
    rw [e]
    unfold esc1
    by_cases h : itself c = true
    · rw [if_pos h, List.singleton_append]
      unfold plain
      simp only [if_pos h, ih]
      rfl
    · rw [if_neg h]
      obtain ⟨h1, h2, h3⟩ := hex_back c
      have h92 : itself 92 = false := by decide
      show plain (92 :: hexD (c / 16) :: hexD (c % 16) :: escaped s) = _
      rw [plain, if_neg (by rw [h92]; decide), if_neg (by simp)]
      simp only [h1, h2, h3, if_neg h, ih]
      rfl
set_option maxRecDepth 100000 in
theorem unhex_back (x a : UInt8) (h : unhex x = some a) : hexD a = x ∧ a < 16 := by
  have := all256 (P := fun x => ∀ a, unhex x = some a → hexD a = x ∧ a < 16) (by
    intro n a
    have hh : ∀ n : Fin 256, (match unhex (UInt8.ofNat n.1) with | some a => decide (hexD a = UInt8.ofNat n.1 ∧ a < 16) | none => true) = true := by decide +kernel
    have := hh n
    intro e
    rw [e] at this
    simpa using this) x
  exact this a h
theorem nib_back (a b : UInt8) (ha : a < 16) (hb : b < 16) : (16 * a + b) / 16 = a ∧ (16 * a + b) % 16 = b := by
  have ha' : a.toNat < 16 := ha
  have hb' : b.toNat < 16 := hb
  constructor
  · apply UInt8.toNat_inj.1
    simp
    omega
  · apply UInt8.toNat_inj.1
    simp
    omega
theorem escaped_plain : ∀ (s t : List UInt8), plain s = some t → escaped t = s := by
  intro s
  induction hl : s.length using Nat.strongRecOn generalizing s with
  | ind n ih =>
    intro t h
    cases s with
    | nil => simp [plain] at h; subst h; rfl
    | cons c r =>
      unfold plain at h
      split at h
      · rename_i hi
        obtain ⟨u, hu, rfl⟩ := Option.map_eq_some_iff.1 h
        have := ih r.length (by rw [← hl]; simp) r rfl u hu
        have e : escaped (c :: u) = esc1 c ++ escaped u := by simp [escaped]
        rw [e, this, esc1, if_pos hi]
        rfl
      · split at h
        · cases h
        · rename_i hi h92
          have h92 : c = 92 := by
            by_cases e : c = 92
            · exact e
            · exact absurd e h92
          subst h92
          split at h
          · rename_i x y r2
            split at h
            · rename_i a b ha hb
              split at h
              · cases h
              · rename_i hn
                obtain ⟨u, hu, rfl⟩ := Option.map_eq_some_iff.1 h
                have := ih r2.length (by rw [← hl]; simp; omega) r2 rfl u hu
                obtain ⟨ea, la⟩ := unhex_back x a ha
                obtain ⟨eb, lb⟩ := unhex_back y b hb
                obtain ⟨n1, n2⟩ := nib_back a b la lb
                have e : escaped ((16 * a + b) :: u) = esc1 (16 * a + b) ++ escaped u := by simp [escaped]
                rw [e, this, esc1, if_neg hn, n1, n2, ea, eb]
                rfl
            · cases h
          · cases h
end L19
end Go.Proofs.YteeienmigoebmaaGreatDoor
