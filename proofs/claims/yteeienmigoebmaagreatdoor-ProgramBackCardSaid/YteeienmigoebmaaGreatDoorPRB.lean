import Derived.Test.YteeienmigoebmaaGreatDoorPRA
namespace Go.Proofs.YteeienmigoebmaaGreatDoor
namespace L19
open Go.RowKit

/-! Layer 19: programs, what is right, and their text. -/
/-- An operation: its kind, A, B, its text. -/
abbrev OpV := Int × Int × Int × List UInt8
/-- A program: its name, its operations. -/
abbrev ProgV := List UInt8 × List OpV
def wordsL : List (List UInt8) := [[], [101, 120, 105, 116], [111, 117, 116], [101, 114, 114], [105, 110], [102, 111, 114, 107], [101, 120, 101, 99], [119, 97, 105, 116], [107, 105, 108, 108], [103, 114, 111, 117, 112], [115, 101, 115, 115, 105, 111, 110], [102, 114, 111, 110, 116], [97, 99, 116], [109, 97, 115, 107], [115, 108, 101, 101, 112], [109, 111, 100, 101], [99, 111, 112, 121]]
def word (k : Nat) : List UInt8 := wordsL.getD k []
def argsL : List Nat := [0, 1, 9, 9, 1, 1, 1, 1, 2, 1, 0, 1, 2, 2, 1, 2, 0]
def argN (k : Nat) : Nat := argsL.getD k 0
def btw (n lo hi : Int) : Bool := decide (lo ≤ n) && decide (n ≤ hi)
def flagB (op : Int) : Bool := btw op 30 42 || btw op 50 62 || btw op 70 75 || btw op 90 93
def kindB (k a b : Int) (len : Nat) (i all : Int) : Bool :=
  if k = 1 then btw a 0 255 else if k = 2 ∨ k = 3 then decide (len ≤ 1024) else if k = 4 then btw a 1 1024 else if k = 5 ∨ k = 6 then decide (i < a) && decide (a < all)
  else if k = 7 then btw a 0 3 else if k = 8 then btw a 0 4 && L18.known b else if k = 9 then btw a 0 2 else if k = 11 then btw a 0 1
  else if k = 12 then L18.known a && decide (a ≠ 9) && decide (a ≠ 19) && btw b 0 2 else if k = 13 then L18.known a && btw b 0 1 else if k = 14 then btw a 0 1000
  else if k = 15 then flagB a && btw b 0 1 else true
def rightO (o : OpV) (i all : Int) : Bool :=
  decide (1 ≤ o.1) && decide (o.1 ≤ 16) && (decide (argN o.1.toNat = 9) || o.2.2.2.isEmpty) && (decide (argN o.1.toNat = 2) || decide (o.2.2.1 = 0))
    && (decide (argN o.1.toNat = 1 ∨ argN o.1.toNat = 2) || decide (o.2.1 = 0)) && kindB o.1 o.2.1 o.2.2.1 o.2.2.2.length i all
def nameC (c : UInt8) : Bool := (decide (97 ≤ c) && decide (c ≤ 122)) || (decide (48 ≤ c) && decide (c ≤ 57))
def namedB (s : List UInt8) : Bool := decide (1 ≤ s.length) && decide (s.length ≤ 64) && s.all nameC
def progE (i all : Int) (p : ProgV) : Int := if namedB p.1 = false then 4 else if 64 < p.2.length then 6 else if p.2.all (fun o => rightO o i all) = false then 2 else 0
def scanE (all : Int) : Nat → List ProgV → Int
  | _, [] => 0
  | i, p :: r => if progE i all p ≠ 0 then progE i all p else scanE all (i + 1) r
def namesN (l : List ProgV) : Bool := decide (l.map (·.1)).Nodup
def checkP (l : List ProgV) : Int := if l.length < 1 ∨ 32 < l.length then 5 else if scanE l.length 0 l ≠ 0 then scanE l.length 0 l else if namesN l = false then 4 else 0
theorem scan_at {all : Int} : ∀ {l : List ProgV} {i : Nat}, scanE all i l = 0 → ∀ k p, l[k]? = some p → progE ((i + k : Nat) : Int) all p = 0
  | [], _, _, k, p, h => by simp at h
  | q :: r, i, h, k, p, hk => by
    unfold scanE at h
    split at h
    · rename_i hn
      exact absurd h hn
    · rename_i hn
      cases k with
      | zero =>
        simp at hk
        subst hk
        simpa using hn
      | succ k =>
        have := scan_at h k p (by simpa using hk)
        rw [show i + (k + 1) = i + 1 + k by omega]
        exact this
theorem check_scan {l : List ProgV} (h : checkP l = 0) : 1 ≤ l.length ∧ l.length ≤ 32 ∧ scanE l.length 0 l = 0 ∧ namesN l = true := by
  unfold checkP at h
  split at h
  · omega
  · rename_i h1
    split at h
    · rename_i h2; exact absurd h h2
    · rename_i h2
      split at h
      · omega
      · rename_i h3
        exact ⟨by omega, by omega, by simpa using h2, by simpa using h3⟩
theorem prog_ok {i all : Int} {p : ProgV} (h : progE i all p = 0) : namedB p.1 = true ∧ p.2.length ≤ 64 ∧ ∀ o ∈ p.2, rightO o i all = true := by
  unfold progE at h
  split at h
  · omega
  · rename_i h1
    split at h
    · omega
    · rename_i h2
      split at h
      · omega
      · rename_i h3
        refine ⟨by simpa using h1, by omega, fun o ho => ?_⟩
        have : p.2.all (fun o => rightO o i all) = true := by simpa using h3
        exact List.all_eq_true.1 this o ho
theorem check_at {l : List ProgV} (h : checkP l = 0) {k : Nat} {p : ProgV} (hk : l[k]? = some p) : namedB p.1 = true ∧ p.2.length ≤ 64 ∧ ∀ o ∈ p.2, rightO o k l.length = true := by
  have h1 := scan_at (check_scan h).2.2.1 k p hk
  rw [Nat.zero_add] at h1
  exact prog_ok h1

/-! Their text. -/
def opLine (o : OpV) : List UInt8 := word o.1.toNat ++ (if argN o.1.toNat = 1 then 32 :: digits o.2.1.toNat else if argN o.1.toNat = 2 then 32 :: (digits o.2.1.toNat ++ 32 :: digits o.2.2.1.toNat) else if argN o.1.toNat = 9 then 32 :: escaped o.2.2.2 else [])
def progW : List UInt8 := [112, 114, 111, 103, 32]
def linesP (l : List ProgV) : List (List UInt8) := l.flatMap fun p => (progW ++ p.1) :: p.2.map opLine
def printT (l : List ProgV) : List UInt8 := ended (linesP l)
def kindOf (w : List UInt8) : Option Nat := (List.range' 1 16).find? fun k => decide (word k = w)
def opOf (s : List UInt8) : Option OpV :=
  match kindOf ((cutL 32 s).headD []) with
  | none => none
  | some k =>
    if argN k = 9 then (if (cutL 32 s).length = 2 then (plain ((cutL 32 s).getD 1 [])).map (fun t => ((k : Int), 0, 0, t)) else none)
    else if (cutL 32 s).length = argN k + 1 then
      (if argN k = 0 then some ((k : Int), 0, 0, []) else if argN k = 1 then (number ((cutL 32 s).getD 1 [])).map (fun a : Nat => ((k : Int), (a : Int), 0, []))
       else (number ((cutL 32 s).getD 1 [])).bind fun a : Nat => (number ((cutL 32 s).getD 2 [])).map fun b : Nat => ((k : Int), (a : Int), (b : Int), []))
    else none
def prB (c : UInt8) : Bool := decide (33 ≤ c) && decide (c ≤ 126)
def addO (l : List ProgV) (o : OpV) : List ProgV := l.dropLast ++ [((l.getLast?.getD ([], [])).1, (l.getLast?.getD ([], [])).2 ++ [o])]
def parseLs : List (List UInt8) → List ProgV → Option (List ProgV)
  | [], acc => some acc
  | s :: r, acc => if s.take 5 = progW then (if (s.drop 5).all prB = true then parseLs r (acc ++ [(s.drop 5, [])]) else none) else match opOf s with
    | none => none
    | some o => if acc = [] then none else parseLs r (addO acc o)
def parseT (s : List UInt8) : List ProgV × Int :=
  if 262144 < s.length then ([], 6) else if (cutL 10 s).getLast? ≠ some [] then ([], 4) else match parseLs (cutL 10 s).dropLast [] with
    | none => ([], 4)
    | some l => if checkP l ≠ 0 then ([], checkP l) else (l, 0)
theorem addO_snoc (a : List ProgV) (p : ProgV) (o : OpV) : addO (a ++ [p]) o = a ++ [(p.1, p.2 ++ [o])] := by
  simp [addO]
theorem word_chars : ∀ k, k < 17 → (∀ c ∈ word k, c ≠ 32 ∧ c ≠ 10) ∧ (word k).take 5 ≠ progW ∧ (1 ≤ k → kindOf (word k) = some k ∧ word k ≠ []) := by
  have : ∀ k : Fin 17, (∀ c ∈ word k.1, c ≠ 32 ∧ c ≠ 10) ∧ (word k.1).take 5 ≠ progW ∧ (1 ≤ k.1 → kindOf (word k.1) = some k.1 ∧ word k.1 ≠ []) := by decide
  exact fun k hk => this ⟨k, hk⟩
theorem word_not_prog : ∀ k, k < 17 → ∀ s : List UInt8, (word k ++ 32 :: s).take 5 ≠ progW := by
  have h : ∀ k : Fin 17, (word k.1).length ≠ 4 ∨ word k.1 ≠ [112, 114, 111, 103] := by decide
  have h2 : ∀ k : Fin 17, 32 ∉ word k.1 := by decide
  intro k hk s e
  have e2 : cutL 32 (word k ++ 32 :: s) = word k :: cutL 32 s := cut_app s (h2 ⟨k, hk⟩)
  have e3 : word k ++ 32 :: s = progW ++ (word k ++ 32 :: s).drop 5 := by
    rw [← e, List.take_append_drop]
  have e4 : cutL 32 (word k ++ 32 :: s) = [112, 114, 111, 103] :: cutL 32 ((word k ++ 32 :: s).drop 5) := by
    conv => lhs; rw [e3]
    exact cut_app (x := [112, 114, 111, 103]) _ (by decide)
  rw [e2] at e4
  have := (List.cons.inj e4).1
  rcases h ⟨k, hk⟩ with h | h
  · exact h (by rw [this]; rfl)
  · exact h this
theorem dig_char {c : UInt8} (h : digB c = true) : c ≠ 32 ∧ c ≠ 10 := by
  constructor
  · rintro rfl; revert h; decide
  · rintro rfl; revert h; decide
theorem digits_char {n : Nat} {c : UInt8} (h : c ∈ digits n) : c ≠ 32 ∧ c ≠ 10 := dig_char (List.all_eq_true.1 (digits_all n) c h)
set_option maxRecDepth 100000 in
theorem esc_char (x : UInt8) : ∀ c ∈ esc1 x, c ≠ 32 ∧ c ≠ 10 :=
  all256 (P := fun x => ∀ c ∈ esc1 x, c ≠ 32 ∧ c ≠ 10) (by decide +kernel) x
theorem escaped_char {s : List UInt8} {c : UInt8} (h : c ∈ escaped s) : c ≠ 32 ∧ c ≠ 10 := by
  obtain ⟨x, _, hx⟩ := List.mem_flatMap.1 h
  exact esc_char x c hx
theorem right_kind {o : OpV} {i all : Int} (h : rightO o i all = true) : 1 ≤ o.1.toNat ∧ o.1.toNat < 17 ∧ ((o.1.toNat : Nat) : Int) = o.1 := by
  unfold rightO at h
  simp only [Bool.and_eq_true, decide_eq_true_eq] at h
  have := h.1.1.1.1.1
  have := h.1.1.1.1.2
  omega
theorem right_a {o : OpV} {i all : Int} (h : rightO o i all = true) (hall : all ≤ 32) (hi : 0 ≤ i) : 0 ≤ o.2.1 ∧ o.2.1 ≤ 999999 ∧ 0 ≤ o.2.2.1 ∧ o.2.2.1 ≤ 999999 := by
  unfold rightO at h
  simp only [Bool.and_eq_true, Bool.or_eq_true, decide_eq_true_eq] at h
  obtain ⟨⟨⟨⟨⟨h1, h2⟩, h3⟩, h4⟩, h5⟩, h6⟩ := h
  have hkn : ∀ g : Int, L18.known g = true → 0 ≤ g ∧ g ≤ 999999 := fun g hg => by have := L18.known_rng hg; omega
  have hfl : ∀ g : Int, flagB g = true → 0 ≤ g ∧ g ≤ 999999 := fun g hg => by
    simp only [flagB, btw, Bool.or_eq_true, Bool.and_eq_true, decide_eq_true_eq] at hg
    omega
  obtain ⟨k, a, b, t⟩ := o
  simp only at *
  have hk : k = 1 ∨ k = 2 ∨ k = 3 ∨ k = 4 ∨ k = 5 ∨ k = 6 ∨ k = 7 ∨ k = 8 ∨ k = 9 ∨ k = 10 ∨ k = 11 ∨ k = 12 ∨ k = 13 ∨ k = 14 ∨ k = 15 ∨ k = 16 := by omega
  rcases hk with rfl | rfl | rfl | rfl | rfl | rfl | rfl | rfl | rfl | rfl | rfl | rfl | rfl | rfl | rfl | rfl <;>
    simp [argN, argsL, kindB, btw] at h4 h5 h6 <;>
    first
      | omega
      | (have := hkn b (by first | exact h6.2 | exact h6); omega)
      | (have := hkn a h6.1.1.1; omega)
      | (have := hkn a h6.1; omega)
      | (have := hfl a h6.1; omega)
theorem cut_nil (d : UInt8) : cutL d [] = [[]] := rfl
theorem op_back {o : OpV} {i all : Int} (h : rightO o i all = true) (hall : all ≤ 32) (hi : 0 ≤ i) : opOf (opLine o) = some o ∧ (opLine o).take 5 ≠ progW ∧ (10 : UInt8) ∉ opLine o := by
  obtain ⟨k1, k2, k3⟩ := right_kind h
  obtain ⟨a0, a1, b0, b1⟩ := right_a h hall hi
  obtain ⟨w1, w2, w3⟩ := word_chars _ k2
  obtain ⟨w3, w4⟩ := w3 k1
  have w32 : (32 : UInt8) ∉ word o.1.toNat := fun hm => (w1 _ hm).1 rfl
  have w10 : (10 : UInt8) ∉ word o.1.toNat := fun hm => (w1 _ hm).2 rfl
  unfold rightO at h
  simp only [Bool.and_eq_true, Bool.or_eq_true, decide_eq_true_eq] at h
  obtain ⟨⟨⟨⟨⟨_, _⟩, h3⟩, h4⟩, h5⟩, _⟩ := h
  obtain ⟨k, a, b, t⟩ := o
  simp only at *
  have hd : ∀ n, (32 : UInt8) ∉ digits n := fun n hm => (digits_char hm).1 rfl
  have hd10 : ∀ n, (10 : UInt8) ∉ digits n := fun n hm => (digits_char hm).2 rfl
  have ha : number (digits a.toNat) = some a.toNat := number_digits (by omega)
  have hb : number (digits b.toNat) = some b.toNat := number_digits (by omega)
  have ea : ((a.toNat : Nat) : Int) = a := by omega
  have eb : ((b.toNat : Nat) : Int) = b := by omega
  have hargs : argN k.toNat = 0 ∨ argN k.toNat = 1 ∨ argN k.toNat = 2 ∨ argN k.toNat = 9 := by
    have : ∀ j : Fin 17, argN j.1 = 0 ∨ argN j.1 = 1 ∨ argN j.1 = 2 ∨ argN j.1 = 9 := by decide
    exact this ⟨_, k2⟩
  rcases hargs with e | e | e | e
  · simp only [e] at h3 h4 h5
    have hb0 : b = 0 := by simpa using h4
    have ha0 : a = 0 := by simpa using h5
    have ht : t = [] := by simpa using h3
    subst hb0; subst ha0; subst ht
    have el : opLine (k, 0, 0, []) = word k.toNat := by simp [opLine, e]
    have ec := cut_one w32
    rw [el]
    refine ⟨?_, w2, w10⟩
    simp only [opOf, ec, List.headD_cons, w3, e, k3]
    simp
  · simp only [e] at h3 h4 h5
    have hb0 : b = 0 := by simpa using h4
    have ht : t = [] := by simpa using h3
    subst hb0; subst ht
    have el : opLine (k, a, 0, []) = word k.toNat ++ 32 :: digits a.toNat := by simp [opLine, e]
    have ec : cutL 32 (word k.toNat ++ 32 :: digits a.toNat) = [word k.toNat, digits a.toNat] := by rw [cut_app _ w32, cut_one (hd _)]
    rw [el]
    refine ⟨?_, word_not_prog _ k2 _, by simp [w10, hd10]⟩
    simp only [opOf, ec, List.headD_cons, w3, e, k3]
    simp [ha, ea]
  · simp only [e] at h3 h4 h5
    have ht : t = [] := by simpa using h3
    subst ht
    have el : opLine (k, a, b, []) = word k.toNat ++ 32 :: (digits a.toNat ++ 32 :: digits b.toNat) := by simp [opLine, e]
    have ec : cutL 32 (word k.toNat ++ 32 :: (digits a.toNat ++ 32 :: digits b.toNat)) = [word k.toNat, digits a.toNat, digits b.toNat] := by rw [cut_app _ w32, cut_app _ (hd _), cut_one (hd _)]
    rw [el]
    refine ⟨?_, word_not_prog _ k2 _, by simp [w10, hd10]⟩
    simp only [opOf, ec, List.headD_cons, w3, e, k3]
    simp [ha, hb, ea, eb]
  · simp only [e] at h3 h4 h5
    have hb0 : b = 0 := by simpa using h4
    have ha0 : a = 0 := by simpa using h5
    subst hb0; subst ha0
    have ht32 : (32 : UInt8) ∉ escaped t := fun hm => (escaped_char hm).1 rfl
    have ht10 : (10 : UInt8) ∉ escaped t := fun hm => (escaped_char hm).2 rfl
    have el : opLine (k, 0, 0, t) = word k.toNat ++ 32 :: escaped t := by simp [opLine, e]
    have ec : cutL 32 (word k.toNat ++ 32 :: escaped t) = [word k.toNat, escaped t] := by rw [cut_app _ w32, cut_one ht32]
    rw [el]
    refine ⟨?_, word_not_prog _ k2 _, by simp [w10, ht10]⟩
    simp only [opOf, ec, List.headD_cons, w3, e, k3]
    simp [plain_escaped]
/-- What a line says is written so. -/
theorem kind_word {w : List UInt8} {k : Nat} (h : kindOf w = some k) : word k = w ∧ 1 ≤ k ∧ k ≤ 16 := by
  have h1 := List.find?_some h
  have h2 := List.mem_of_find?_eq_some h
  rw [List.mem_range'_1] at h2
  exact ⟨of_decide_eq_true h1, by omega, by omega⟩
theorem op_line {s : List UInt8} {o : OpV} (h : opOf s = some o) : opLine o = s := by
  have hj := cut_join 32 s
  have hn := cut_ne 32 s
  unfold opOf at h
  generalize cutL 32 s = w at h hj hn
  cases w with
  | nil => exact absurd rfl hn
  | cons w0 w =>
    simp only [List.headD_cons] at h
    cases hk : kindOf w0 with
    | none => rw [hk] at h; cases h
    | some k =>
      rw [hk] at h
      obtain ⟨hw, k1, k2⟩ := kind_word hk
      simp only at h
      have hargs : argN k = 0 ∨ argN k = 1 ∨ argN k = 2 ∨ argN k = 9 := by
        have : ∀ j : Fin 17, argN j.1 = 0 ∨ argN j.1 = 1 ∨ argN j.1 = 2 ∨ argN j.1 = 9 := by decide
        exact this ⟨k, by omega⟩
      rcases hargs with e | e | e | e
      · simp only [e] at h
        match w, h with
        | [], h =>
          simp at h
          subst h
          simp [opLine, e, hw, ← hj, joinL]
        | _ :: _, h => simp at h
      · simp only [e] at h
        match w, h with
        | [], h => simp at h
        | [x], h =>
          simp at h
          obtain ⟨a, ha, rfl⟩ := h
          have := (number_back ha).1
          simp [opLine, e, hw, ← hj, joinL, this]
        | _ :: _ :: _, h => simp at h
      · simp only [e] at h
        match w, h with
        | [], h => simp at h
        | [x], h => simp at h
        | [x, y], h =>
          simp only [List.length_cons, List.length_nil, if_true, Nat.reduceEqDiff, Nat.reduceAdd, if_false, List.getD_cons_succ, List.getD_cons_zero] at h
          obtain ⟨a, ha, h⟩ := Option.bind_eq_some_iff.1 h
          obtain ⟨b, hb, rfl⟩ := Option.map_eq_some_iff.1 h
          have h1 := (number_back ha).1
          have h2 := (number_back hb).1
          simp [opLine, e, hw, ← hj, joinL, h1, h2]
        | _ :: _ :: _ :: _, h => simp at h
      · simp only [e] at h
        match w, h with
        | [], h => simp at h
        | [x], h =>
          simp at h
          obtain ⟨t, ht, rfl⟩ := h
          have := escaped_plain _ _ ht
          simp [opLine, e, hw, ← hj, joinL, this]
        | _ :: _ :: _, h => simp at h
theorem lines_snoc (a : List ProgV) (p : ProgV) : linesP (a ++ [p]) = linesP a ++ (progW ++ p.1) :: p.2.map opLine := by simp [linesP]
theorem lines_addO {acc : List ProgV} (h : acc ≠ []) (o : OpV) : linesP (addO acc o) = linesP acc ++ [opLine o] := by
  obtain ⟨a, p, rfl⟩ : ∃ a p, acc = a ++ [p] := ⟨acc.dropLast, acc.getLast h, (List.dropLast_concat_getLast h).symm⟩
  rw [addO_snoc, lines_snoc, lines_snoc]
  simp
theorem parse_lines : ∀ (ls : List (List UInt8)) (acc l : List ProgV), parseLs ls acc = some l → linesP l = linesP acc ++ ls
  | [], acc, l, h => by
    simp [parseLs] at h
    subst h
    simp
  | s :: r, acc, l, h => by
    unfold parseLs at h
    split at h
    · rename_i hp
      split at h
      · have := parse_lines r _ l h
        rw [this, lines_snoc]
        have e : progW ++ s.drop 5 = s := by rw [← hp, List.take_append_drop]
        simp [e]
      · cases h
    · split at h
      · cases h
      · rename_i o ho
        split at h
        · cases h
        · rename_i hne
          have := parse_lines r _ l h
          rw [this, lines_addO hne, op_line ho]
          simp
theorem name_chars {s : List UInt8} (h : namedB s = true) : s.all prB = true ∧ (10 : UInt8) ∉ s := by
  unfold namedB at h
  simp only [Bool.and_eq_true] at h
  have hc : ∀ c ∈ s, nameC c = true := List.all_eq_true.1 h.2
  have key : ∀ c : UInt8, nameC c = true → prB c = true ∧ c ≠ 10 := fun c => all256 (P := fun c => nameC c = true → prB c = true ∧ c ≠ 10) (by decide +kernel) c
  exact ⟨List.all_eq_true.2 fun c hm => (key c (hc c hm)).1, fun hm => (key 10 (hc _ hm)).2 rfl⟩
theorem parse_ops : ∀ (ops : List OpV) (a : List ProgV) (p : ProgV) (rest : List (List UInt8)), (∀ o ∈ ops, opOf (opLine o) = some o ∧ (opLine o).take 5 ≠ progW) →
    parseLs (ops.map opLine ++ rest) (a ++ [p]) = parseLs rest (a ++ [(p.1, p.2 ++ ops)])
  | [], a, p, rest, _ => by simp
  | o :: ops, a, p, rest, h => by
    obtain ⟨h1, h2⟩ := h o (by simp)
    rw [List.map_cons, List.cons_append, parseLs, if_neg h2, h1]
    simp only
    rw [if_neg (by simp), addO_snoc, parse_ops ops a _ rest fun x hx => h x (by simp [hx])]
    simp
theorem parse_progs : ∀ (l a : List ProgV), (∀ p ∈ l, namedB p.1 = true ∧ ∀ o ∈ p.2, opOf (opLine o) = some o ∧ (opLine o).take 5 ≠ progW) → parseLs (linesP l) a = some (a ++ l)
  | [], a, _ => by simp [linesP, parseLs]
  | p :: l, a, h => by
    obtain ⟨h1, h2⟩ := h p (by simp)
    have e : linesP (p :: l) = (progW ++ p.1) :: (p.2.map opLine ++ linesP l) := by simp [linesP]
    have e5 : (progW ++ p.1).take 5 = progW := by simp [progW]
    have d5 : (progW ++ p.1).drop 5 = p.1 := by simp [progW]
    rw [e, parseLs, if_pos e5, d5, if_pos (name_chars h1).1, parse_ops p.2 a (p.1, []) _ h2]
    have := parse_progs l (a ++ [p]) fun x hx => h x (by simp [hx])
    simpa using this
theorem ok_lines {l : List ProgV} (h : checkP l = 0) : ∀ p ∈ l, namedB p.1 = true ∧ ∀ o ∈ p.2, opOf (opLine o) = some o ∧ (opLine o).take 5 ≠ progW ∧ (10 : UInt8) ∉ opLine o := by
  intro p hp
  obtain ⟨k, hk⟩ := List.mem_iff_getElem?.1 hp
  obtain ⟨h1, h2, h3⟩ := check_at h hk
  have h4 := check_scan h
  exact ⟨h1, fun o ho => op_back (h3 o ho) (by omega) (by omega)⟩
theorem lines_no10 {l : List ProgV} (h : checkP l = 0) : ∀ x ∈ linesP l, (10 : UInt8) ∉ x := by
  intro x hx
  obtain ⟨p, hp, hx⟩ := List.mem_flatMap.1 hx
  obtain ⟨h1, h2⟩ := ok_lines h p hp
  rcases List.mem_cons.1 hx with rfl | hx
  · have := (name_chars h1).2
    simp [progW, this]
  · obtain ⟨o, ho, rfl⟩ := List.mem_map.1 hx
    exact (h2 o ho).2.2
/-- What is printed is parsed as it was. -/
theorem parse_print {l : List ProgV} (h : checkP l = 0) (hl : (printT l).length ≤ 262144) : parseT (printT l) = (l, 0) := by
  have hc : cutL 10 (printT l) = linesP l ++ [[]] := cut_ended (lines_no10 h)
  have hp : parseLs (linesP l) [] = some ([] ++ l) := parse_progs l [] fun p hp => ⟨(ok_lines h p hp).1, fun o ho => ⟨((ok_lines h p hp).2 o ho).1, ((ok_lines h p hp).2 o ho).2.1⟩⟩
  unfold parseT
  rw [if_neg (by omega), hc, if_neg (by simp), List.dropLast_concat, hp]
  simp [h]
/-- What is parsed is right, and printed as it came. -/
theorem print_parse {s : List UInt8} {l : List ProgV} (h : parseT s = (l, 0)) : checkP l = 0 ∧ printT l = s := by
  unfold parseT at h
  split at h
  · cases h
  · split at h
    · cases h
    · rename_i hn
      split at h
      · cases h
      · rename_i l' hp
        split at h
        · rename_i hc
          exact absurd (congrArg Prod.snd h) hc
        · rename_i hc
          obtain rfl : l' = l := congrArg Prod.fst h
          refine ⟨by simpa using hc, ?_⟩
          have h1 := parse_lines _ _ _ hp
          have h2 : cutL 10 s = linesP l' ++ [[]] := by
            have hn' : (cutL 10 s).getLast? = some [] := by simpa using hn
            have hne : cutL 10 s ≠ [] := cut_ne 10 s
            rw [h1]
            show cutL 10 s = (cutL 10 s).dropLast ++ [[]]
            have e := List.dropLast_concat_getLast hne
            have e2 : (cutL 10 s).getLast hne = [] := by
              rw [List.getLast?_eq_some_getLast hne] at hn'
              exact Option.some.inj hn'
            rw [e2] at e
            exact e.symm
          have h3 := cut_join 10 s
          rw [h2, join_ended] at h3
          exact h3
theorem parse_bad {s : List UInt8} (h : (parseT s).2 ≠ 0) : (parseT s).1 = [] := by
  unfold parseT at h ⊢
  split
  · rfl
  · split
    · rfl
    · split
      · rfl
      · split
        · rfl
        · rename_i h1 h2 _ l hp hc
          rw [if_neg h1, if_neg h2, hp] at h
          simp only [if_neg hc] at h
          exact absurd rfl h
end L19
end Go.Proofs.YteeienmigoebmaaGreatDoor
