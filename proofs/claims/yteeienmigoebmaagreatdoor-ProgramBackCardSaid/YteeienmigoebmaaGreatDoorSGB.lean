import Derived.Test.YteeienmigoebmaaGreatDoorSGA
import Derived.Test.YteeienmigoebmaaGreatDoorChecked
import Derived.Laws.BitsAllLaws
namespace Go.Proofs.YteeienmigoebmaaGreatDoor.L18
open Go.RowKit

/-! Layer 18: the program's functions that only read. -/
/-- The program's table lies as its text lays it. -/
def TabW (w : World) : Prop := 0 < w.heap.size ∧ ∀ k, k < 29 → w.cell? ⟨0, k * 3, none⟩ = some (.string (bs (row k).1)) ∧ w.cell? ⟨0, k * 3 + 1, none⟩ = some (.int .i64 (row k).2.1) ∧ w.cell? ⟨0, k * 3 + 2, none⟩ = some (.bool (row k).2.2)
theorem TabW.below {w w' : World} (h : Hid (TabW w)) (hb : Below w.heap.size w w') : Hid (TabW w') :=
  hid ⟨Nat.lt_of_lt_of_le h.out.1 hb.size, fun k hk => by
    obtain ⟨h1, h2, h3⟩ := h.out.2 k hk
    exact ⟨(hb.cell (p := ⟨_, _, none⟩) h.out.1).trans h1, (hb.cell (p := ⟨_, _, none⟩) h.out.1).trans h2, (hb.cell (p := ⟨_, _, none⟩) h.out.1).trans h3⟩⟩
theorem row_empty {k : Nat} (_h : k < 29) : (!(bs (row k).1).toList.isEmpty) = known (k : Int) := by
  rw [ByteArray.toList_eq]
  simp [bs, known]
section
variable {w : World}
set_option maxRecDepth 100000 in
set_option maxHeartbeats 1000000 in
theorem isSig_any (H : Hid (TabW w)) (g : Int) : Calls Tryz.prog 82 #[.int .i64 g] w fun e w' => e = .returned (.bool (known g)) ∧ w' = w := by
  by_cases h0 : 0 ≤ g
  · obtain ⟨k, rfl⟩ := Int.eq_ofNat_of_zero_le h0
    by_cases h1 : k < 29
    · obtain ⟨c0, _, _⟩ := H.out.2 k h1
      have hk := hid (row_empty h1)
      go_enter Tryz.func82, Tryz.ntmps82
      go_wp2
      go_ret
      rw [hk.out]
      exact ⟨rfl, rfl⟩
    · have hk : Hid (known (k : Int) = false) := hid (by
        cases hq : known (k : Int)
        · rfl
        · have := known_rng hq; omega)
      go_enter Tryz.func82, Tryz.ntmps82
      go_wp2
      go_ret
      rw [hk.out]
      exact ⟨rfl, rfl⟩
  · have hk : Hid (known g = false) := hid (by
      cases hq : known g
      · rfl
      · have := known_rng hq; omega)
    go_enter Tryz.func82, Tryz.ntmps82
    go_wp2
    go_ret
    rw [hk.out]
    exact ⟨rfl, rfl⟩
theorem isSig_b (H : Hid (TabW w)) {g : Int} {b : Bool} (hb : Hid (known g = b)) : Calls Tryz.prog 82 #[.int .i64 g] w fun e w' => e = .returned (.bool b) ∧ w' = w := by
  rw [← hb.out]
  exact isSig_any H g
/-- A signal's bit, as a number. -/
def bitS (g : Int) : Nat := if known g = true then 2 ^ g.toNat else 0
theorem bitS_lt (g : Int) : bitS g < 18446744073709551616 := by
  unfold bitS
  split
  · exact pow_lt (known_lt (by assumption))
  · decide
theorem wrap_bit {g : Int} (h : known g = true) : IntKind.u64.wrap ((2 : Int) ^ g.toNat) = (bitS g : Int) := by
  have h1 := bitS_lt g
  have e : ((2 : Int) ^ g.toNat) = ((bitS g : Nat) : Int) := by simp [bitS, h]
  rw [e, IntKind.wrap_u64]
  generalize bitS g = z at h1 ⊢
  omega
theorem and_bit {s : Nat} (hs : U64 s) (g : Int) : (bits .and .u64 (s : Int) ((bitS g : Nat) : Int) != 0) = hasS s g := by
  have h1 := bitS_lt g
  have h2 := has_and s g.toNat
  have hs : s < 18446744073709551616 := hs
  rw [u64_and _ _ (by omega) (by omega) (by omega) (by omega), Int.toNat_natCast, Int.toNat_natCast]
  unfold hasS bitS
  cases hk : known g
  · simp
  · simp only [if_true, Bool.true_and]
    generalize s &&& 2 ^ g.toNat = z at h2 ⊢
    cases hb : s.testBit g.toNat
    · have := h2.2 hb
      subst this
      rfl
    · have : z ≠ 0 := fun e => by rw [h2.1 e] at hb; cases hb
      simp
      omega
theorem or_bit {s : Nat} (hs : U64 s) (g : Int) : bits .or .u64 (s : Int) ((bitS g : Nat) : Int) = ((addS s g : Nat) : Int) := by
  rw [u64_or_nat _ _ hs (bitS_lt g)]
  unfold addS bitS
  split <;> simp
theorem not_bit {s : Nat} (hs : U64 s) (g : Int) : bits .andNot .u64 (s : Int) ((bitS g : Nat) : Int) = ((delS s g : Nat) : Int) := by
  rw [u64_andNot_nat _ _ hs (bitS_lt g)]
  unfold delS bitS
  split
  · rfl
  · have hs : s < 18446744073709551616 := hs
    have : s &&& 18446744073709551615 = s := by
      have := Nat.and_two_pow_sub_one_of_lt_two_pow (x := s) (n := 64) (by simpa using hs)
      simpa using this
    simp [this]
set_option maxRecDepth 100000 in
set_option maxHeartbeats 1000000 in
theorem name_any (H : Hid (TabW w)) {g : Int} {n : ByteArray} {b : Bool} (hn : Hid (nmS g = n)) (hb : Hid (known g = b)) : Calls Tryz.prog 81 #[.int .i64 g] w fun e w' => e = .returned (.tuple #[.string n, .bool b]) ∧ w' = w := by
  have hbb := hb.out
  cases b
  · have HN : Hid (n = ⟨#[]⟩) := hid (hn.out.symm.trans (nmS_none hbb))
    clear hbb
    go_enter Tryz.func81, Tryz.ntmps81
    go_wp2_with (go_at_call 82
                 (with_reducible refine (isSig_b H hb).mono ?_)
                 rintro e w1 ⟨rfl, rfl⟩)
    go_ret2
    rw [HN.out]
    exact ⟨rfl, rfl⟩
  · obtain ⟨h1, h2⟩ := known_rng hbb
    obtain ⟨k, rfl⟩ := Int.eq_ofNat_of_zero_le (show 0 ≤ g by omega)
    obtain ⟨c0, _, _⟩ := H.out.2 k (by omega)
    have e : bs (row k).1 = n := hn.out
    rw [e] at c0
    have h3 : (k : Int) < 29 := by omega
    clear hbb e
    go_enter Tryz.func81, Tryz.ntmps81
    go_wp2_with (go_at_call 82
                 (with_reducible refine (isSig_b H hb).mono ?_)
                 rintro e w1 ⟨rfl, rfl⟩)
    go_ret2
    exact ⟨rfl, rfl⟩
def fixS (g : Int) : Bool := decide (g = 9) || decide (g = 19)
set_option maxRecDepth 100000 in
set_option maxHeartbeats 1000000 in
theorem fix_any (w : World) {g : Int} {b : Bool} (hn : Hid (fixS g = b)) : Calls Tryz.prog 83 #[.int .i64 g] w fun e w' => e = .returned (.bool b) ∧ w' = w := by
  have hq := hn.out
  unfold fixS at hq
  by_cases h1 : g = 9
  · subst h1
    have HN : Hid (b = true) := hid (by simpa using hq.symm)
    clear hq
    go_enter Tryz.func83, Tryz.ntmps83
    go_wp2
    go_ret
    rw [HN.out]
    exact ⟨rfl, rfl⟩
  · have e1 : (g == 9) = false := by simpa using h1
    have HN : Hid (b = (g == 19)) := hid (by
      rw [← hq]
      simp [h1]
      rfl)
    clear hq h1
    go_enter Tryz.func83, Tryz.ntmps83
    go_wp2
    go_ret
    rw [HN.out]
    exact ⟨rfl, rfl⟩
end
end Go.Proofs.YteeienmigoebmaaGreatDoor.L18
