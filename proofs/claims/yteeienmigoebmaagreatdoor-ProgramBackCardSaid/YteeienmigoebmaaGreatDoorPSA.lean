import Derived.Test.YteeienmigoebmaaGreatDoorPSW
namespace Go.Proofs.YteeienmigoebmaaGreatDoor
namespace L19
open Go.RowKit L18

/-! Layer 19: the document's small functions. -/
section
variable {w : World}
theorem btw_any (w : World) {n lo hi : Int} {r : Bool} (hr : Hid (btw n lo hi = r)) : Calls Tryz.prog 69 #[.int .i64 n, .int .i64 lo, .int .i64 hi] w fun e w' => e = .returned (.bool r) ∧ w' = w := by
  rw [← hr.out]
  clear hr
  go_enter Tryz.func69, Tryz.ntmps69
  by_cases h1 : lo ≤ n <;> by_cases h2 : n ≤ hi
  all_goals
    go_wp2
    go_ret
    simp [btw, h1, h2]
set_option maxRecDepth 100000 in
set_option maxHeartbeats 2000000 in
theorem flagr_any (w : World) {n : Int} {r : Bool} (hr : Hid (flagB n = r)) : Calls Tryz.prog 71 #[.int .i64 n] w fun e w' => e = .returned (.bool r) ∧ w' = w := by
  have h := hr.out
  unfold flagB btw at h
  subst h
  clear hr
  go_enter Tryz.func71, Tryz.ntmps71
  obtain h | h | h | h | h | h | h | h | h : n < 30 ∨ 30 ≤ n ∧ n ≤ 42 ∨ 42 < n ∧ n < 50 ∨ 50 ≤ n ∧ n ≤ 62 ∨ 62 < n ∧ n < 70 ∨ 70 ≤ n ∧ n ≤ 75 ∨ 75 < n ∧ n < 90 ∨ 90 ≤ n ∧ n ≤ 93 ∨ 93 < n := by omega
  · have h1 : ¬ 30 ≤ n := by omega
    have h2 : n ≤ 42 := by omega
    have h3 : ¬ 50 ≤ n := by omega
    have h4 : n ≤ 62 := by omega
    have h5 : ¬ 70 ≤ n := by omega
    have h6 : n ≤ 75 := by omega
    have h7 : ¬ 90 ≤ n := by omega
    have h8 : n ≤ 93 := by omega
    go_wp2
    go_ret
    simp [h1, h2, h3, h4, h5, h6, h7, h8]
  · have h1 : 30 ≤ n := by omega
    have h2 : n ≤ 42 := by omega
    have h3 : ¬ 50 ≤ n := by omega
    have h4 : n ≤ 62 := by omega
    have h5 : ¬ 70 ≤ n := by omega
    have h6 : n ≤ 75 := by omega
    have h7 : ¬ 90 ≤ n := by omega
    have h8 : n ≤ 93 := by omega
    go_wp2
    go_ret
    simp [h1, h2, h3, h4, h5, h6, h7, h8]
  · have h1 : 30 ≤ n := by omega
    have h2 : ¬ n ≤ 42 := by omega
    have h3 : ¬ 50 ≤ n := by omega
    have h4 : n ≤ 62 := by omega
    have h5 : ¬ 70 ≤ n := by omega
    have h6 : n ≤ 75 := by omega
    have h7 : ¬ 90 ≤ n := by omega
    have h8 : n ≤ 93 := by omega
    go_wp2
    go_ret
    simp [h1, h2, h3, h4, h5, h6, h7, h8]
  · have h1 : 30 ≤ n := by omega
    have h2 : ¬ n ≤ 42 := by omega
    have h3 : 50 ≤ n := by omega
    have h4 : n ≤ 62 := by omega
    have h5 : ¬ 70 ≤ n := by omega
    have h6 : n ≤ 75 := by omega
    have h7 : ¬ 90 ≤ n := by omega
    have h8 : n ≤ 93 := by omega
    go_wp2
    go_ret
    simp [h1, h2, h3, h4, h5, h6, h7, h8]
  · have h1 : 30 ≤ n := by omega
    have h2 : ¬ n ≤ 42 := by omega
    have h3 : 50 ≤ n := by omega
    have h4 : ¬ n ≤ 62 := by omega
    have h5 : ¬ 70 ≤ n := by omega
    have h6 : n ≤ 75 := by omega
    have h7 : ¬ 90 ≤ n := by omega
    have h8 : n ≤ 93 := by omega
    go_wp2
    go_ret
    simp [h1, h2, h3, h4, h5, h6, h7, h8]
  · have h1 : 30 ≤ n := by omega
    have h2 : ¬ n ≤ 42 := by omega
    have h3 : 50 ≤ n := by omega
    have h4 : ¬ n ≤ 62 := by omega
    have h5 : 70 ≤ n := by omega
    have h6 : n ≤ 75 := by omega
    have h7 : ¬ 90 ≤ n := by omega
    have h8 : n ≤ 93 := by omega
    go_wp2
    go_ret
    simp [h1, h2, h3, h4, h5, h6, h7, h8]
  · have h1 : 30 ≤ n := by omega
    have h2 : ¬ n ≤ 42 := by omega
    have h3 : 50 ≤ n := by omega
    have h4 : ¬ n ≤ 62 := by omega
    have h5 : 70 ≤ n := by omega
    have h6 : ¬ n ≤ 75 := by omega
    have h7 : ¬ 90 ≤ n := by omega
    have h8 : n ≤ 93 := by omega
    go_wp2
    go_ret
    simp [h1, h2, h3, h4, h5, h6, h7, h8]
  · have h1 : 30 ≤ n := by omega
    have h2 : ¬ n ≤ 42 := by omega
    have h3 : 50 ≤ n := by omega
    have h4 : ¬ n ≤ 62 := by omega
    have h5 : 70 ≤ n := by omega
    have h6 : ¬ n ≤ 75 := by omega
    have h7 : 90 ≤ n := by omega
    have h8 : n ≤ 93 := by omega
    go_wp2
    go_ret
    simp [h1, h2, h3, h4, h5, h6, h7, h8]
  · have h1 : 30 ≤ n := by omega
    have h2 : ¬ n ≤ 42 := by omega
    have h3 : 50 ≤ n := by omega
    have h4 : ¬ n ≤ 62 := by omega
    have h5 : 70 ≤ n := by omega
    have h6 : ¬ n ≤ 75 := by omega
    have h7 : 90 ≤ n := by omega
    have h8 : ¬ n ≤ 93 := by omega
    go_wp2
    go_ret
    simp [h1, h2, h3, h4, h5, h6, h7, h8]
theorem sigr_any (w : World) {n : Int} {r : Bool} (hr : Hid (known n = r)) : Calls Tryz.prog 70 #[.int .i64 n] w fun e w' => e = .returned (.bool r) ∧ Hid (Below w.heap.size w w') := by
  go_enter Tryz.func70, Tryz.ntmps70
  go_wp2_with (first
    | (go_at_call 86
       (with_reducible refine (rname_any _ (hid rfl) hr).mono ?_)
       rintro e w1 ⟨rfl, B1⟩))
  go_ret
  exact ⟨rfl, B1⟩
theorem itr_any (w : World) (c : UInt8) {r : Bool} (hr : Hid (itself c = r)) : Calls Tryz.prog 51 #[.int .u8 c.toNat] w fun e w' => e = .returned (.bool r) ∧ w' = w := by
  have h := hr.out
  unfold itself at h
  subst h
  clear hr
  have e1 : (33 ≤ c) = (33 ≤ (c.toNat : Int)) := by
    rw [UInt8.le_iff_toNat_le]
    simp
    omega
  have e2 : (c ≤ 126) = ((c.toNat : Int) ≤ 126) := by
    rw [UInt8.le_iff_toNat_le]
    simp
    omega
  have e3 : (c ≠ 92) = ((c.toNat : Int) ≠ 92) := by
    rw [Ne, Ne, ← UInt8.toNat_inj]
    simp
    omega
  simp only [e1, e2, e3]
  clear e1 e2 e3
  generalize (c.toNat : Int) = n
  go_enter Tryz.func51, Tryz.ntmps51
  by_cases h1 : 33 ≤ n <;> by_cases h2 : n ≤ 126 <;> by_cases h3 : n = 92 <;> (try (exfalso; omega))
  all_goals
    go_wp2
    go_ret
    simp [h1, h2, h3]
theorem hexr_any (w : World) (c : UInt8) (hc : c < 16) {r : UInt8} (hr : Hid (hexD c = r)) : Calls Tryz.prog 52 #[.int .u8 c.toNat] w fun e w' => e = .returned (.int .u8 r.toNat) ∧ w' = w := by
  rw [← hr.out]
  clear hr
  have h16 : c.toNat < 16 := by simpa [UInt8.lt_iff_toNat_lt] using hc
  have e1 : ((hexD c).toNat : Int) = if (c.toNat : Int) < 10 then 48 + (c.toNat : Int) else 97 + (c.toNat : Int) - 10 := by
    revert h16
    clear hc
    revert c
    exact all256 (by decide +kernel)
  rw [e1]
  clear e1 hc
  generalize c.toNat = n at *
  go_enter Tryz.func52, Tryz.ntmps52
  by_cases h1 : (n : Int) < 10
  · have hw : IntKind.u8.wrap (48 + (n : Int)) = 48 + (n : Int) := by
      simp [IntKind.wrap, IntKind.bits]
      omega
    go_wp2
    go_ret
    simp [h1]
  · have hw : IntKind.u8.wrap (97 + (n : Int)) = 97 + (n : Int) := by
      simp [IntKind.wrap, IntKind.bits]
      omega
    have hw2 : IntKind.u8.wrap (97 + (n : Int) - 10) = 97 + (n : Int) - 10 := by
      simp [IntKind.wrap, IntKind.bits]
      omega
    go_wp2
    go_ret
    simp [h1]
end
end L19
end Go.Proofs.YteeienmigoebmaaGreatDoor
