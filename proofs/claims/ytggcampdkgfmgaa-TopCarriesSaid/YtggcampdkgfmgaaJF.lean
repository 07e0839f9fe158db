import Derived.Test.YtggcampdkgfmgaaJB
import Derived.Deep.RegionHeld3
namespace Go.Proofs.Ytggcampdkgfmgaa.L12
open Go.RowKit

/-! Layer 12's maths: what goes out of a byte that is written, and the column behind it. No function of the program stands here. -/
/-- A column above the bound is 0. -/
def clampN (n : Nat) : Nat := if 65535 < n then 0 else n
theorem clampN_le (n : Nat) : clampN n ≤ 65535 := by unfold clampN; split <;> omega
theorem nrm_clamp (n : Nat) : nrm (n : Int) = clampN n := by
  unfold nrm clampN
  by_cases h : 65535 < n
  · rw [if_pos h, if_pos (Or.inr (by omega))]
  · rw [if_neg h, if_neg (by omega)]; omega
/-- How a byte moves the column; u: the bytes that go on with a character don't. -/
def movedN (u : Bool) (col : Nat) (c : UInt8) : Nat :=
  if c.toNat = 9 then clampN ((col / 8 + 1) * 8) else if c.toNat = 8 then col - 1 else if c.toNat = 13 then 0 else if c.toNat < 32 ∨ c.toNat = 127 then col else if u = true ∧ 128 ≤ c.toNat ∧ c.toNat ≤ 191 then col else clampN (col + 1)
theorem movedN_le {u : Bool} {col : Nat} {c : UInt8} (h : col ≤ 65535) : movedN u col c ≤ 65535 := by
  have h1 := clampN_le ((col / 8 + 1) * 8)
  have h2 := clampN_le (col + 1)
  unfold movedN
  repeat' split
  all_goals omega
/-- The flags that tell it. -/
structure PoF where
  o : Bool
  nocr : Bool
  crnl : Bool
  nlcr : Bool
  nlret : Bool
  olc : Bool
  u : Bool
def poF (t : Tm) : PoF := ⟨hasN t.f 70, hasN t.f 74, hasN t.f 73, hasN t.f 72, hasN t.f 75, hasN t.f 71, hasN t.f 42⟩
def upB (f : PoF) (c : UInt8) : UInt8 := if f.olc = true ∧ 97 ≤ c.toNat ∧ c.toNat ≤ 122 then UInt8.ofNat (c.toNat - 32) else c
/-- A byte 10 that isn't told by a 13. -/
def nlP (f : PoF) (col : Nat) : List UInt8 × Nat := if f.nlret = true then ([10], 0) else ([10], col)
def byteP (f : PoF) (col : Nat) (c : UInt8) : List UInt8 × Nat :=
  if f.o = false then ([c], movedN f.u col c)
  else if c.toNat = 13 then (if f.nocr = true ∧ col = 0 then ([], 0) else if f.crnl = false then ([13], 0) else nlP f col)
  else if c.toNat = 10 then (if f.nlcr = true then ([13, 10], 0) else nlP f col)
  else ([upB f c], movedN f.u col (upB f c))
theorem byteP_le {f : PoF} {col : Nat} {c : UInt8} (h : col ≤ 65535) : (byteP f col c).2 ≤ 65535 := by
  have h1 := movedN_le (u := f.u) (c := c) h
  have h2 := movedN_le (u := f.u) (c := upB f c) h
  unfold byteP nlP
  repeat' split
  all_goals first | exact h1 | exact h2 | exact h | exact Nat.zero_le _
theorem byteP_len (f : PoF) (col : Nat) (c : UInt8) : (byteP f col c).1.length ≤ 2 := by
  unfold byteP nlP
  repeat' split
  all_goals simp
def bytesP (f : PoF) : Nat → List UInt8 → List UInt8 × Nat
  | col, [] => ([], col)
  | col, c :: l => ((byteP f col c).1 ++ (bytesP f (byteP f col c).2 l).1, (bytesP f (byteP f col c).2 l).2)
theorem bytesP_append (f : PoF) (l r : List UInt8) : ∀ col, bytesP f col (l ++ r) = ((bytesP f col l).1 ++ (bytesP f (bytesP f col l).2 r).1, (bytesP f (bytesP f col l).2 r).2) := by
  induction l with
  | nil => intro col; rfl
  | cons c l ih => intro col; simp only [List.cons_append, bytesP, ih, List.append_assoc]
theorem bytesP_snoc (f : PoF) (l : List UInt8) (c : UInt8) (col : Nat) : bytesP f col (l ++ [c]) = ((bytesP f col l).1 ++ (byteP f (bytesP f col l).2 c).1, (byteP f (bytesP f col l).2 c).2) := by
  rw [bytesP_append]
  simp [bytesP]
theorem bytesP_at {f : PoF} {col : Nat} {l : List UInt8} {k : Nat} {y : UInt8} (h : l[k]? = some y) : bytesP f col (l.take (k + 1)) = ((bytesP f col (l.take k)).1 ++ (byteP f (bytesP f col (l.take k)).2 y).1, (byteP f (bytesP f col (l.take k)).2 y).2) := by
  obtain ⟨hk, rfl⟩ := List.getElem?_eq_some_iff.1 h
  rw [List.take_succ_eq_append_getElem hk, bytesP_snoc]
theorem bytesP_le (f : PoF) (l : List UInt8) : ∀ col, col ≤ 65535 → (bytesP f col l).2 ≤ 65535 := by
  induction l with
  | nil => intro col h; exact h
  | cons c l ih => intro col h; exact ih _ (byteP_le h)
theorem bytesP_len (f : PoF) (l : List UInt8) : ∀ col, (bytesP f col l).1.length ≤ 2 * l.length := by
  induction l with
  | nil => intro col; exact Nat.le_refl _
  | cons c l ih =>
    intro col
    have h1 := byteP_len f col c
    have h2 := ih (byteP f col c).2
    simp only [bytesP, List.length_append, List.length_cons]
    omega
/-- Without OPOST bytes go out as they are. -/
theorem bytesP_off {f : PoF} (h : f.o = false) (l : List UInt8) : ∀ col, (bytesP f col l).1 = l := by
  induction l with
  | nil => intro col; rfl
  | cons c l ih =>
    intro col
    have e : (byteP f col c).1 = [c] := by unfold byteP; rw [if_pos h]
    simp only [bytesP, ih, e]
    rfl
/-- Each 10 has a 13 ahead of it. -/
def Led (l : List UInt8) : Prop := ∀ i : Nat, (h : i < l.length) → l[i].toNat = 10 → ∃ j, i = j + 1 ∧ ∃ hj : j < l.length, l[j].toNat = 13
theorem led_append {a b : List UInt8} (ha : Led a) (hb : Led b) : Led (a ++ b) := by
  intro i hi h
  by_cases h1 : i < a.length
  · rw [List.getElem_append_left h1] at h
    obtain ⟨j, rfl, hj, h2⟩ := ha i h1 h
    exact ⟨j, rfl, by rw [List.length_append]; omega, by rw [List.getElem_append_left hj]; exact h2⟩
  · rw [List.length_append] at hi
    rw [List.getElem_append_right (by omega)] at h
    obtain ⟨j, hj1, hj, h2⟩ := hb (i - a.length) (by omega) h
    refine ⟨a.length + j, by omega, by rw [List.length_append]; omega, ?_⟩
    rw [List.getElem_append_right (by omega)]
    simpa using h2
theorem led_one {c : UInt8} (h : c.toNat ≠ 10) : Led [c] := by
  intro i hi h2
  have : i = 0 := by simpa using hi
  subst this
  exact absurd h2 h
theorem up_ne {f : PoF} {c : UInt8} (h : c.toNat ≠ 10) : (upB f c).toNat ≠ 10 := by
  unfold upB
  split
  · rename_i hc
    have : (UInt8.ofNat (c.toNat - 32)).toNat = c.toNat - 32 := by simp; omega
    rw [this]
    omega
  · exact h
theorem byteP_led {f : PoF} (h1 : f.o = true) (h2 : f.nlcr = true) (h3 : f.crnl = false) (col : Nat) (c : UInt8) : Led (byteP f col c).1 := by
  unfold byteP
  rw [if_neg (by rw [h1]; decide)]
  by_cases h13 : c.toNat = 13
  · rw [if_pos h13]
    rw [if_pos h3]
    split
    · intro i hi; exact absurd hi (by simp)
    · exact led_one (by decide)
  · rw [if_neg h13]
    by_cases h10 : c.toNat = 10
    · rw [if_pos h10, if_pos h2]
      show Led [13, 10]
      intro i hi h
      match i, hi with
      | 0, _ => exact absurd (show (13 : UInt8).toNat = 10 from h) (by decide)
      | 1, _ => exact ⟨0, rfl, (show 0 < 2 by omega), rfl⟩
    · rw [if_neg h10]
      exact led_one (up_ne h10)
theorem bytesP_led {f : PoF} (h1 : f.o = true) (h2 : f.nlcr = true) (h3 : f.crnl = false) (l : List UInt8) : ∀ col, Led (bytesP f col l).1 := by
  induction l with
  | nil => intro col i hi; exact absurd hi (by simp [bytesP])
  | cons c l ih => intro col; exact led_append (byteP_led h1 h2 h3 col c) (ih _)
/-- How many bytes go out of the first n. -/
def outN (f : PoF) (col : Nat) (l : List UInt8) (n : Nat) : Nat := (bytesP f col (l.take n)).1.length
theorem outN_zero (f : PoF) (col : Nat) (l : List UInt8) : outN f col l 0 = 0 := rfl
theorem outN_mono {f : PoF} {col : Nat} {l : List UInt8} {n m : Nat} (h : n ≤ m) : outN f col l n ≤ outN f col l m := by
  have e : l.take m = l.take n ++ (l.take m).drop n := by
    have h1 := List.take_append_drop n (l.take m)
    rwa [List.take_take, Nat.min_eq_left h, eq_comm] at h1
  unfold outN
  rw [e, bytesP_append, List.length_append]
  omega
theorem outN_le (f : PoF) (col : Nat) (l : List UInt8) (n : Nat) : outN f col l n ≤ 2 * n := by
  have h1 := bytesP_len f (l.take n) col
  have := List.length_take_le n l
  unfold outN
  omega
/-- How many fit: the greatest of the first so many, by trying. -/
def fitN (f : PoF) (col : Nat) (l : List UInt8) (room : Int) : Nat → Nat
  | 0 => 0
  | n + 1 => if (outN f col l (n + 1) : Int) ≤ room then n + 1 else fitN f col l room n
def fitP (f : PoF) (col : Nat) (l : List UInt8) (room : Int) : Nat := fitN f col l room l.length
theorem fitN_le (f : PoF) (col : Nat) (l : List UInt8) (room : Int) : ∀ n, fitN f col l room n ≤ n
  | 0 => Nat.le_refl _
  | n + 1 => by
    unfold fitN
    split
    · exact Nat.le_refl _
    · exact Nat.le_succ_of_le (fitN_le f col l room n)
theorem fitP_le (f : PoF) (col : Nat) (l : List UInt8) (room : Int) : fitP f col l room ≤ l.length := fitN_le f col l room _
/-- The one number k such that k fit, and not one more. -/
theorem fitN_is {f : PoF} {col : Nat} {l : List UInt8} {room : Int} {k : Nat} (h1 : k = 0 ∨ (outN f col l k : Int) ≤ room) : ∀ n, k ≤ n → (k = n ∨ room < (outN f col l (k + 1) : Int)) → fitN f col l room n = k
  | 0, hk, _ => by unfold fitN; omega
  | n + 1, hk, h2 => by
    by_cases e : k = n + 1
    · subst e
      unfold fitN
      rw [if_pos (by rcases h1 with h | h; omega; exact h)]
    · have h3 : room < (outN f col l (k + 1) : Int) := by rcases h2 with h | h; exact absurd h e; exact h
      have h4 := outN_mono (f := f) (col := col) (l := l) (show k + 1 ≤ n + 1 by omega)
      unfold fitN
      rw [if_neg (by omega)]
      exact fitN_is h1 n (by omega) (Or.inr h3)
theorem fitP_is {f : PoF} {col : Nat} {l : List UInt8} {room : Int} {k : Nat} (hk : k ≤ l.length) (h1 : k = 0 ∨ (outN f col l k : Int) ≤ room) (h2 : k = l.length ∨ room < (outN f col l (k + 1) : Int)) : fitP f col l room = k :=
  fitN_is h1 _ hk h2
theorem fitN_in {f : PoF} {col : Nat} {l : List UInt8} {room : Int} : ∀ n, fitN f col l room n = 0 ∨ (outN f col l (fitN f col l room n) : Int) ≤ room
  | 0 => Or.inl rfl
  | n + 1 => by
    by_cases h : (outN f col l (n + 1) : Int) ≤ room
    · have e : fitN f col l room (n + 1) = n + 1 := by unfold fitN; rw [if_pos h]
      rw [e]
      exact Or.inr h
    · have e : fitN f col l room (n + 1) = fitN f col l room n := by conv => lhs; unfold fitN; rw [if_neg h]
      rw [e]
      exact fitN_in n
theorem fitN_more {f : PoF} {col : Nat} {l : List UInt8} {room : Int} : ∀ n, fitN f col l room n = n ∨ room < (outN f col l (fitN f col l room n + 1) : Int)
  | 0 => Or.inl rfl
  | n + 1 => by
    by_cases h : (outN f col l (n + 1) : Int) ≤ room
    · have e : fitN f col l room (n + 1) = n + 1 := by unfold fitN; rw [if_pos h]
      exact Or.inl e
    · have e : fitN f col l room (n + 1) = fitN f col l room n := by conv => lhs; unfold fitN; rw [if_neg h]
      rw [e]
      rcases fitN_more (f := f) (col := col) (l := l) (room := room) n with h2 | h2
      · rw [h2]; exact Or.inr (by omega)
      · exact Or.inr h2
end Go.Proofs.Ytggcampdkgfmgaa.L12
namespace Go.Proofs.Ytggcampdkgfmgaa.L12
open Go.RowKit

/-! Layer 12, the document's: the column, and what moves it. -/
section
variable {u : Bool} {N : Nat} {c : UInt8}
theorem movedN_9 (h : c.toNat = 9) : movedN u N c = clampN ((N / 8 + 1) * 8) := by simp [movedN, h]
theorem movedN_8 (h : c.toNat = 8) : movedN u N c = N - 1 := by simp [movedN, h]
theorem movedN_13 (h : c.toNat = 13) : movedN u N c = 0 := by simp [movedN, h]
theorem movedN_ctl (h9 : c.toNat ≠ 9) (h8 : c.toNat ≠ 8) (h13 : c.toNat ≠ 13) (hc : c.toNat < 32 ∨ c.toNat = 127) : movedN u N c = N := by simp [movedN, h9, h8, h13, hc]
theorem movedN_cont (hc : ¬ (c.toNat < 32 ∨ c.toNat = 127)) (h1 : 128 ≤ c.toNat) (h2 : c.toNat ≤ 191) : movedN true N c = N := by
  unfold movedN
  rw [if_neg (by omega), if_neg (by omega), if_neg (by omega), if_neg hc, if_pos ⟨rfl, h1, h2⟩]
theorem movedN_one (hc : ¬ (c.toNat < 32 ∨ c.toNat = 127)) (hk : ¬ (u = true ∧ 128 ≤ c.toNat ∧ c.toNat ≤ 191)) : movedN u N c = clampN (N + 1) := by
  unfold movedN
  rw [if_neg (by omega), if_neg (by omega), if_neg (by omega), if_neg hc, if_neg hk]
end
theorem u8_eq (c : UInt8) {n : Nat} (h : c.toNat = n) : (c.toNat : Int) = (n : Int) := by rw [h]
end Go.Proofs.Ytggcampdkgfmgaa.L12
namespace Go.Proofs.Ytggcampdkgfmgaa.L12
open Go.RowKit

/-! Layer 12, the document's: what goes out of a byte. -/
/-- A call has answered these bytes and this number. -/
def RetP (w : World) (r : List UInt8 × Nat) (e : Ending) (w' : World) : Prop := ∃ A n c, e = .returned (.tuple #[.slice A n c, .int .i64 (r.2 : Int)]) ∧ Hid (r.1.length = n) ∧ Hid (SlB w' w'.heap.size A c r.1) ∧ Hid (Below w.heap.size w w')
theorem retp_lit {w u : World} {bs : List UInt8} {m : Nat} {x : Int} {n g : Nat} {cs : Array Value} (hc : (bv bs).toArray = cs) (hn : bs.length = n) (hm : n ≤ maxLen) (hg : g = u.heap.size) (hb : Hid (Below w.heap.size w u)) (hx : x = (m : Int) := by rfl) : RetP w (bs, m) (.returned (.tuple #[.slice (some ⟨g, 0, none⟩) n n, .int .i64 x])) (u.alloc (.cells cs 5)) := by
  subst hg
  subst hx
  exact ⟨_, n, n, rfl, hid hn, hid (slb_lit u bs n cs hc hn hm), hid (hb.out.alloc hb.out.size _)⟩
theorem retp_nil {w u : World} (hb : Hid (Below w.heap.size w u)) : RetP w ([], 0) (.returned (.tuple #[.slice none 0 0, .int .i64 0])) u := ⟨none, 0, 0, rfl, hid rfl, hid ⟨Nat.le_refl _, Nat.zero_le _, fun _ => rfl, Lies.nil_⟩, hb⟩
section
variable {f : PoF} {N : Nat} {c : UInt8}
theorem byteP_off (h : f.o = false) : byteP f N c = ([c], movedN f.u N c) := by unfold byteP; rw [if_pos h]
theorem byteP_no (h : f.o = true) (h13 : c.toNat = 13) (h1 : f.nocr = true) (h0 : N = 0) : byteP f N c = ([], 0) := by unfold byteP; rw [if_neg (by rw [h]; decide), if_pos h13, if_pos ⟨h1, h0⟩]
theorem byteP_cr (h : f.o = true) (h13 : c.toNat = 13) (h1 : ¬ (f.nocr = true ∧ N = 0)) (h2 : f.crnl = false) : byteP f N c = ([13], 0) := by unfold byteP; rw [if_neg (by rw [h]; decide), if_pos h13, if_neg h1, if_pos h2]
theorem byteP_crnl (h : f.o = true) (h13 : c.toNat = 13) (h1 : ¬ (f.nocr = true ∧ N = 0)) (h2 : f.crnl = true) : byteP f N c = nlP f N := by unfold byteP; rw [if_neg (by rw [h]; decide), if_pos h13, if_neg h1, if_neg (by rw [h2]; decide)]
theorem byteP_nlcr (h : f.o = true) (h10 : c.toNat = 10) (h2 : f.nlcr = true) : byteP f N c = ([13, 10], 0) := by unfold byteP; rw [if_neg (by rw [h]; decide), if_neg (by omega), if_pos h10, if_pos h2]
theorem byteP_nl (h : f.o = true) (h10 : c.toNat = 10) (h2 : f.nlcr = false) : byteP f N c = nlP f N := by unfold byteP; rw [if_neg (by rw [h]; decide), if_neg (by omega), if_pos h10, if_neg (by rw [h2]; decide)]
theorem byteP_any (h : f.o = true) (h13 : c.toNat ≠ 13) (h10 : c.toNat ≠ 10) : byteP f N c = ([upB f c], movedN f.u N (upB f c)) := by unfold byteP; rw [if_neg (by rw [h]; decide), if_neg h13, if_neg h10]
theorem nlP_ret (h : f.nlret = true) : nlP f N = ([10], 0) := if_pos h
theorem nlP_no (h : f.nlret = false) : nlP f N = ([10], N) := by unfold nlP; rw [if_neg (by rw [h]; decide)]
theorem upB_on (h : f.olc = true) (h1 : 97 ≤ c.toNat) (h2 : c.toNat ≤ 122) : ((upB f c).toNat : Int) = (c.toNat : Int) - 97 + 65 := by
  unfold upB
  rw [if_pos ⟨h, h1, h2⟩]
  have : (UInt8.ofNat (c.toNat - 32)).toNat = c.toNat - 32 := by simp; omega
  rw [this]
  omega
theorem upB_no (h : ¬ (f.olc = true ∧ 97 ≤ c.toNat ∧ c.toNat ≤ 122)) : upB f c = c := if_neg h
end
theorem cr_set {t : Tm} (ht : t.Ok) : hasN (setT t 72 false).f 72 = false ∧ hasN (setT t 72 false).f 75 = hasN t.f 75 := by
  constructor
  · exact set_has ht 72 false (by decide)
  · show hasN (setN t.f 72 false) 75 = _
    rw [setN_has ht.f, if_neg (by omega)]
end Go.Proofs.Ytggcampdkgfmgaa.L12
namespace Go.Proofs.Ytggcampdkgfmgaa.L12
open Go.RowKit

/-! Layer 12, the document's: what goes out of bytes, and how many fit. -/
attribute [local go_sem ↓] ex_ld26
attribute [local go_sem] isP_v blkV_v aggV_v
end Go.Proofs.Ytggcampdkgfmgaa.L12
