import Derived.Test.YtpfcjcldokghbaaNG
import Derived.Test.YtpfcjcldokghbaaNJ
namespace Go.Proofs.Ytpfcjcldokghbaa
open Go.RowKit

def opsP : List Int := [33, 37, 35, 36, 34, 31, 59]
def opP (j : Nat) : Int := opsP.getD j 0
/-- A setting without the first flags of these. -/
def offT (t : Tm) : Nat → Tm
  | 0 => t
  | j + 1 => setT (offT t j) (opP j) false
theorem offT_ok {t : Tm} (h : t.Ok) : ∀ j, (offT t j).Ok
  | 0 => h
  | j + 1 => setT_ok (offT_ok h j) _ _
theorem off_keep {t : Tm} (h : t.Ok) {p : Int} {j : Nat} (hp : hasN (offT t j).f p = false) : hasN (offT t (j + 1)).f p = false := by
  show hasN (setN (offT t j).f (opP j) false) p = false
  rw [setN_has (offT_ok h j).f]
  split
  · rfl
  · exact hp
theorem off_hit {t : Tm} (h : t.Ok) {p : Int} {j : Nat} (hf : flagB p = true) (hp : opP j = p) : hasN (offT t (j + 1)).f p = false := by
  show hasN (setN (offT t j).f (opP j) false) p = false
  rw [setN_has (offT_ok h j).f, hp, if_pos ⟨hf, rfl⟩]
theorem off_later {t : Tm} (h : t.Ok) {p : Int} {j : Nat} (hp : hasN (offT t j).f p = false) : ∀ k, hasN (offT t (j + k)).f p = false
  | 0 => hp
  | k + 1 => off_keep h (off_later h hp k)
theorem off_has {t : Tm} (h : t.Ok) (j : Nat) (hj : j < 7) (p : Int) (hf : flagB p = true) (hp : opP j = p) : hasN (offT t 7).f p = false := by
  have := off_later h (off_hit h hf hp) (6 - j)
  rwa [show j + 1 + (6 - j) = 7 by omega] at this
theorem map_one {t : Tm} (h33 : hasN t.f 33 = false) (h37 : hasN t.f 37 = false) (h35 : hasN t.f 35 = false) (h36 : hasN t.f 36 = false) (h34 : hasN t.f 34 = false) (h31 : hasN t.f 31 = false) (c : UInt8) : mapR1 t c = [c] := by
  have e1 : stripB t c = c := by simp [stripB, s1, s2, h33, h37]
  have e2 : turnB t c = (c, true) := by simp [turnB, h35, h36, h34]
  simp [mapR1, e1, e2, markB, h31]
theorem map_plain {t : Tm} (h33 : hasN t.f 33 = false) (h37 : hasN t.f 37 = false) (h35 : hasN t.f 35 = false) (h36 : hasN t.f 36 = false) (h34 : hasN t.f 34 = false) (h31 : hasN t.f 31 = false) (bs : List UInt8) : mapB t bs = bs := by
  unfold mapB
  induction bs with
  | nil => rfl
  | cons c l ih => rw [List.flatMap_cons, ih, map_one h33 h37 h35 h36 h34 h31]; rfl
theorem map_off {t : Tm} (h : t.Ok) (bs : List UInt8) : mapB (offT t 7) bs = bs :=
  map_plain (off_has h 0 (by omega) 33 rfl rfl) (off_has h 1 (by omega) 37 rfl rfl) (off_has h 2 (by omega) 35 rfl rfl) (off_has h 3 (by omega) 36 rfl rfl) (off_has h 4 (by omega) 34 rfl rfl) (off_has h 5 (by omega) 31 rfl rfl) bs
/-- What of a byte comes out holds no end of a line that is turned. -/
theorem no13_one {t : Tm} (h36 : hasN t.f 36 = true) (h34 : hasN t.f 34 = false) (c x : UInt8) (hx : x ∈ mapR1 t c) : ¬ x = 13 := by
  unfold mapR1 at hx
  generalize stripB t c = d at hx
  have e : (turnB t d).2 = true → ¬ (turnB t d).1 = 13 := by
    unfold turnB
    simp only [h36, h34, and_true, Bool.false_eq_true, and_false, if_false]
    split
    · intro h; cases h
    · split
      · intro _; decide
      · intro _ h; exact absurd h (by assumption)
  split at hx
  · have := e (by assumption)
    unfold markB at hx
    split at hx <;> simp at hx <;> simp [hx, this]
  · simp at hx
theorem no13 {t : Tm} (h36 : hasN t.f 36 = true) (h34 : hasN t.f 34 = false) (bs : List UInt8) (x : UInt8) (hx : x ∈ mapB t bs) : ¬ x = 13 := by
  obtain ⟨c, _, h⟩ := List.mem_flatMap.1 hx
  exact no13_one h36 h34 c x h
theorem low_one {t : Tm} (h33 : hasN t.f 33 = true) (c x : UInt8) (hx : x ∈ mapR1 t c) : x.toNat ≤ 127 := by
  unfold mapR1 at hx
  have e : (stripB t c).toNat ≤ 127 := by
    have h1 : (s1 t c).toNat ≤ 127 := by
      simp only [s1, h33, if_true, lowB]
      simp
      omega
    unfold stripB s2
    split
    · rename_i h
      simp [grB] at h
      simp
      omega
    · exact h1
  generalize stripB t c = d at hx e
  have e2 : (turnB t d).1.toNat ≤ 127 := by
    unfold turnB
    repeat (split <;> try decide)
    exact e
  split at hx
  · unfold markB at hx
    split at hx <;> simp at hx <;> simp [hx, e2]
  · simp at hx
theorem low_map {t : Tm} (h33 : hasN t.f 33 = true) (bs : List UInt8) (x : UInt8) (hx : x ∈ mapB t bs) : x.toNat ≤ 127 := by
  obtain ⟨c, _, h⟩ := List.mem_flatMap.1 hx
  exact low_one h33 c x h
/-- How many bytes 255 stand in a row at the end. -/
def runR (r : Nat) (l : List UInt8) : Nat := l.foldl (fun r x => if x = 255 then r + 1 else 0) r
theorem runR_snoc (r : Nat) (l : List UInt8) (x : UInt8) : runR r (l ++ [x]) = if x = 255 then runR r l + 1 else 0 := by simp [runR]
def goodR : Nat → List UInt8 → Bool
  | _, [] => true
  | r, x :: l => if x = 255 then goodR (r + 1) l else (r % 2 == 0) && goodR 0 l
theorem goodR_at : ∀ (l : List UInt8) (r j : Nat) (x : UInt8), goodR r l = true → l[j]? = some x → ¬ x = 255 → runR r (l.take j) % 2 = 0
  | [], r, j, x, _, h, _ => by simp at h
  | y :: l, r, 0, x, hg, h, hx => by
    simp at h
    subst h
    simp [goodR, hx] at hg
    simpa [runR] using hg.1
  | y :: l, r, j + 1, x, hg, h, hx => by
    simp at h
    by_cases hy : y = 255
    · simp [goodR, hy] at hg
      have := goodR_at l (r + 1) j x hg h hx
      simpa [runR, hy] using this
    · simp [goodR, hy] at hg
      have := goodR_at l 0 j x hg.2 h hx
      simpa [runR, hy] using this
theorem good_map {t : Tm} (h31 : hasN t.f 31 = true) (h33 : hasN t.f 33 = false) : ∀ (bs : List UInt8) (r : Nat), r % 2 = 0 → goodR r (mapB t bs) = true
  | [], r, _ => rfl
  | c :: l, r, hr => by
    have e : mapB t (c :: l) = mapR1 t c ++ mapB t l := rfl
    rw [e]
    unfold mapR1
    split
    · generalize (turnB t (stripB t c)).1 = d
      unfold markB
      by_cases hd : d = 255
      · rw [if_pos ⟨hd, h31, h33⟩]
        subst hd
        show goodR r (255 :: 255 :: mapB t l) = true
        simp only [goodR, if_true]
        exact good_map h31 h33 l (r + 1 + 1) (by omega)
      · rw [if_neg (fun h => hd h.1)]
        show goodR r (d :: mapB t l) = true
        simp only [goodR, if_neg hd, Bool.and_eq_true, beq_iff_eq]
        exact ⟨hr, good_map h31 h33 l 0 rfl⟩
    · exact good_map h31 h33 l r hr
theorem run_even {t : Tm} (h31 : hasN t.f 31 = true) (h33 : hasN t.f 33 = false) (bs : List UInt8) {j : Nat} {x : UInt8} (h : (mapB t bs)[j]? = some x) (hx : ¬ x = 255) : runR 0 ((mapB t bs).take j) % 2 = 0 :=
  goodR_at _ 0 j x (good_map h31 h33 bs 0 rfl) h hx
theorem runR_take {l : List UInt8} {j : Nat} {x : UInt8} (h : l[j]? = some x) : runR 0 (l.take (j + 1)) = if x = 255 then runR 0 (l.take j) + 1 else 0 := by
  rw [List.take_add_one, h, ← runR_snoc]
  rfl
theorem runR_le (l : List UInt8) : ∀ r, runR r l ≤ r + l.length := by
  induction l with
  | nil => intro r; simp [runR]
  | cons x l ih =>
    intro r
    have h1 := ih (r + 1)
    have h0 := ih 0
    simp only [runR, List.foldl_cons, List.length_cons] at *
    split <;> omega
theorem opP_at (j : Nat) (h : j < 7) : (#[.int .i64 33, .int .i64 37, .int .i64 35, .int .i64 36, .int .i64 34, .int .i64 31, .int .i64 59] : Array Value)[j]? = some (.int .i64 (opP j)) := by
  rcases (by omega : j = 0 ∨ j = 1 ∨ j = 2 ∨ j = 3 ∨ j = 4 ∨ j = 5 ∨ j = 6) with rfl | rfl | rfl | rfl | rfl | rfl | rfl <;> rfl
theorem index_off (j : Nat) (h : j < 7) : ∀ W : World, (Instr.index 37 (.agg #[.int .i64 33, .int .i64 37, .int .i64 35, .int .i64 36, .int .i64 34, .int .i64 31, .int .i64 59]) (.int .i64 (j : Int))).run Try.prog W = .ok (.int .i64 (opP j)) W := fun W =>
  run_index_cell W 37 3 7 .i64 _ .i64 j _ Try.underlying37 Try.underlying3 Try.size3 h (opP_at j h)
end Go.Proofs.Ytpfcjcldokghbaa
