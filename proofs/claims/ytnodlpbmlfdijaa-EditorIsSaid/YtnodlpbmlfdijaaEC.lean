import Derived.Test.YtnodlpbmlfdijaaEB
import Derived.Test.YtnodlpbmlfdijaaGA
import Derived.Test.YtnodlpbmlfdijaaFD
import Derived.Test.YtnodlpbmlfdijaaFJ
namespace Go.Proofs.Ytnodlpbmlfdijaa
open Go.RowKit

/-- The first so many bytes from the end go on with a character. -/
def ContR (r : List UInt8) (k : Nat) : Prop := ∀ j, j < k → ∃ y, r[j]? = some y ∧ contB y = true
theorem lastR_stop : ∀ (K : Nat) (r : List UInt8) (k : Nat) (y : UInt8), k < K → ContR r k → r[k]? = some y → contB y = false → lastR true K r = k + 1
  | K + 1, [], k, y, _, _, h, _ => by simp at h
  | K + 1, c :: r, 0, y, _, _, h, hy => by
    simp at h
    subst h
    simp [lastR, hy]
  | K + 1, c :: r, k + 1, y, hk, hc, h, hy => by
    obtain ⟨z, hz, h2⟩ := hc 0 (by omega)
    simp at hz
    subst hz
    have ih := lastR_stop K r k y (by omega) (fun j hj => by
      obtain ⟨z, h3, h4⟩ := hc (j + 1) (by omega)
      exact ⟨z, by simpa using h3, h4⟩) (by simpa using h) hy
    simp [lastR, h2, ih]
theorem lastR_all : ∀ (K : Nat) (r : List UInt8) (m : Nat), m = min K r.length → ContR r (m - 1) → lastR true K r = m
  | 0, r, m, hm, _ => by simp [lastR, hm]
  | K + 1, [], m, hm, _ => by simp [lastR, hm]
  | K + 1, c :: r, m, hm, hc => by
    obtain ⟨k, hk⟩ : ∃ k, k = min K r.length := ⟨_, rfl⟩
    have hmk : m = k + 1 := by simp at hm; omega
    subst hmk
    by_cases h0 : k = 0
    · subst h0
      have : lastR true K r = 0 := by have := lastR_le true K r; omega
      simp [lastR, this]
    · obtain ⟨z, hz, h2⟩ := hc 0 (by omega)
      simp at hz
      subst hz
      have ih := lastR_all K r k hk (fun j hj => by
        obtain ⟨z, h3, h4⟩ := hc (j + 1) (by omega)
        exact ⟨z, by simpa using h3, h4⟩)
      simp [lastR, h2, ih]
theorem rev_at {l : List UInt8} {n j : Nat} (hn : l.length = n) (hj : j < n) : l.reverse[j]? = l[n - (j + 1)]? := by
  rw [List.getElem?_reverse (by omega), hn]
  congr 1
  omega
theorem contR_more {r : List UInt8} {k : Nat} {y : UInt8} (h : ContR r k) (hy : r[k]? = some y) (hc : contB y = true) : ContR r (k + 1) := fun j hj => by
  by_cases e : j = k
  · subst e
    exact ⟨y, hy, hc⟩
  · exact h j (by omega)
theorem lastN_stop {l : List UInt8} {n k : Nat} {y : UInt8} (hn : l.length = n) (h0 : k < 4) (h1 : k < n) (hc : ContR l.reverse k) (hy : l[n - (k + 1)]? = some y) (hd : contB y = false) : lastN true l = k + 1 :=
  lastR_stop 4 _ k y h0 hc (by rw [rev_at hn h1]; exact hy) hd
theorem lastN_all {l : List UInt8} {n m : Nat} (hn : l.length = n) (hm : m = min 4 n) (hc : ContR l.reverse (m - 1)) : lastN true l = m := lastR_all 4 _ m (by simpa [hn] using hm) hc

set_option maxRecDepth 100000 in
theorem goesOn_b (w : World) (c : UInt8) {b : Bool} (h : contB c = b) : Calls Try.prog 35 #[.int .u8 (c.toNat : Int)] w fun e w' => e = .returned (.bool b) ∧ w' = w := by
  subst h
  unfold contB
  by_cases h1 : 128 ≤ c.toNat
  · have k1 : (128 : Int) ≤ (c.toNat : Int) := by omega
    by_cases h2 : c.toNat ≤ 191
    · have k2 : (c.toNat : Int) ≤ (191 : Int) := by omega
      simp only [h1, h2, decide_true, Bool.and_self]
      go_enter Try.func35, Try.ntmps35
      go_wp2
      go_ret
      exact ⟨rfl, rfl⟩
    · have k2 : ¬ (c.toNat : Int) ≤ (191 : Int) := by omega
      simp only [h1, h2, decide_true, decide_false, Bool.and_false]
      go_enter Try.func35, Try.ntmps35
      go_wp2
      go_ret
      exact ⟨rfl, rfl⟩
  · have k1 : ¬ (128 : Int) ≤ (c.toNat : Int) := by omega
    simp only [h1, decide_false, Bool.false_and]
    go_enter Try.func35, Try.ntmps35
    go_wp2
    go_ret
    exact ⟨rfl, rfl⟩
/-- How many bytes a character has at most. -/
def LU (u : Bool) : Int := if u then 4 else 1
set_option maxRecDepth 100000 in
set_option maxHeartbeats 1000000 in
theorem last_any (w : World) (A : Option Addr) (n c : Nat) (bs : List UInt8) (u : Bool) (hb : Hid (SlB w w.heap.size A c bs)) (hn : bs.length = n) (hm : n ≤ 1000000) {k : Nat} (hk : Hid (lastN u bs = k)) :
    Calls Try.prog 25 #[.slice A n c, .int .i64 (LU u)] w fun e w' => e = .returned (.int .i64 (k : Int)) ∧ w' = w := by
  cases u
  · show Calls Try.prog 25 #[.slice A n c, .int .i64 1] w _
    by_cases h0 : n = 0
    · subst h0
      have hz : bs = [] := List.eq_nil_of_length_eq_zero hn
      subst hz
      obtain rfl : 0 = k := hk.out
      go_enter Try.func25, Try.ntmps25
      go_wp2
      go_loop [6] (fun i => i = .int .i64 1) (fun _ => 0)
      case atStart => rfl
      case round =>
        subst hrel
        go_wp2
        go_ret
        exact ⟨rfl, rfl⟩
    · obtain rfl : 1 = k := (lastN_one (l := bs) (by rintro rfl; exact h0 hn.symm)).symm.trans hk.out
      have h1 : ¬ (n : Int) < 1 := by omega
      have h2 : ((1 : Int) ≤ (n : Int)) := by omega
      have h3 : min (1 : Int) (n : Int) = 1 := by omega
      go_enter Try.func25, Try.ntmps25
      go_wp2
      go_loop [6] (fun i => i = .int .i64 1) (fun _ => 0)
      case atStart => rfl
      case round =>
        subst hrel
        go_wp2
        go_ret
        exact ⟨rfl, rfl⟩
  · show Calls Try.prog 25 #[.slice A n c, .int .i64 4] w _
    have HM : Hid (∀ j, ContR bs.reverse j → j ≤ 4 → j ≤ n → ¬ (j + 1 < n ∧ j + 1 < 4) → (j + 1 ≤ n ∧ j + 1 ≤ 4 ∨ j = 0) → min 4 n = k) := by
      intro j hc h4 h5 h6 h7
      rw [← hk.out]
      refine (lastN_all hn rfl ?_).symm
      have e : min 4 n - 1 ≤ j := by omega
      exact fun i hi => hc i (by omega)
    have HSt : Hid (∀ j y, j < 4 → j < n → ContR bs.reverse j → bs[n - (j + 1)]? = some y → contB y = false → j + 1 = k) := by
      intro j y h1 h2 h3 h4 h5
      rw [← hk.out]
      exact (lastN_stop hn h1 h2 h3 h4 h5).symm
    have HR : Hid (∀ j y, j < n → bs[n - (j + 1)]? = some y → bs.reverse[j]? = some y) := by
      intro j y h1 h2
      rw [rev_at hn h1]
      exact h2
    by_cases h0 : (n : Int) < 4
    · have hn4 : n < 4 := by omega
      clear h0
      go_enter Try.func25, Try.ntmps25
      go_wp2
      go_loop [6] (fun i => ∃ j : Nat, j < 4 ∧ j ≤ n ∧ i = .int .i64 ((j : Int) + 1) ∧ (j + 1 ≤ n ∨ j = 0) ∧ Hid (ContR bs.reverse j)) (fun i => 5 - (intOf i).toNat)
      case atStart => exact ⟨0, by omega, by omega, rfl, Or.inr rfl, hid (fun j hj => by omega)⟩
      case round =>
        obtain ⟨j, hj4, hjn, rfl, hj, HC⟩ := hrel
        by_cases hjm : j + 1 < n ∧ j + 1 < 4
        · obtain ⟨hj1, hj2⟩ := hjm
          have k1 : ((j : Int) + 1) < (n : Int) := by omega
          obtain ⟨b, o, y, rfl, hy, cy⟩ := slb_cell hb.out hn (show n - (j + 1) < n by omega)
          have e1 : (n : Int) - ((j : Int) + 1) = ((n - (j + 1) : Nat) : Int) := by omega
          have HY := hid hy
          obtain ⟨p, hp⟩ : ∃ p, n - (j + 1) = p := ⟨_, rfl⟩
          rw [hp] at cy e1
          have p1 : (p : Int) < (n : Int) := by omega
          clear hy hp
          cases hcy : contB y
          · go_wp2_with (first
              | (go_at_call 35
                 (with_reducible refine (goesOn_b _ y hcy).mono ?_)
                 rintro e u1 ⟨rfl, rfl⟩))
            go_ret
            have := HSt.out j y (by omega) (by omega) HC.out HY.out hcy
            exact ⟨by rw [← this]; push_cast; rfl, rfl⟩
          · go_wp2_with (first
              | (go_at_call 35
                 (with_reducible refine (goesOn_b _ y hcy).mono ?_)
                 rintro e u1 ⟨rfl, rfl⟩))
            go_round
            case rel => exact ⟨j + 1, by omega, by omega, by go_num, by omega, hid (contR_more HC.out (HR.out j y (by omega) HY.out) hcy)⟩
            case measure => simp [intOf]; omega
        · have k1 : ¬ ((j : Int) + 1) < (n : Int) := by omega
          have hkk := HM.out j HC.out (by omega) (by omega) hjm (by omega)
          have e2 : (n : Int) = (k : Int) := by omega
          have HE := hid e2
          clear hkk hjm e2
          go_wp2
          go_ret
          exact ⟨by rw [HE.out]; rfl, rfl⟩
    · have hn4 : 4 ≤ n := by omega
      clear h0
      go_enter Try.func25, Try.ntmps25
      go_wp2
      go_loop [6] (fun i => ∃ j : Nat, j < 4 ∧ j ≤ n ∧ i = .int .i64 ((j : Int) + 1) ∧ (j + 1 ≤ n ∨ j = 0) ∧ Hid (ContR bs.reverse j)) (fun i => 5 - (intOf i).toNat)
      case atStart => exact ⟨0, by omega, by omega, rfl, Or.inr rfl, hid (fun j hj => by omega)⟩
      case round =>
        obtain ⟨j, hj4, hjn, rfl, hj, HC⟩ := hrel
        by_cases hjm : j + 1 < n ∧ j + 1 < 4
        · obtain ⟨hj1, hj2⟩ := hjm
          have k1 : ((j : Int) + 1) < (4 : Int) := by omega
          have k11 : (j : Int) < 3 := by omega
          obtain ⟨b, o, y, rfl, hy, cy⟩ := slb_cell hb.out hn (show n - (j + 1) < n by omega)
          have e1 : (n : Int) - ((j : Int) + 1) = ((n - (j + 1) : Nat) : Int) := by omega
          have HY := hid hy
          obtain ⟨p, hp⟩ : ∃ p, n - (j + 1) = p := ⟨_, rfl⟩
          rw [hp] at cy e1
          have p1 : (p : Int) < (n : Int) := by omega
          clear hy hp
          cases hcy : contB y
          · go_wp2_with (first
              | (go_at_call 35
                 (with_reducible refine (goesOn_b _ y hcy).mono ?_)
                 rintro e u1 ⟨rfl, rfl⟩))
            go_ret
            have := HSt.out j y (by omega) (by omega) HC.out HY.out hcy
            exact ⟨by rw [← this]; push_cast; rfl, rfl⟩
          · go_wp2_with (first
              | (go_at_call 35
                 (with_reducible refine (goesOn_b _ y hcy).mono ?_)
                 rintro e u1 ⟨rfl, rfl⟩))
            go_round
            case rel => exact ⟨j + 1, by omega, by omega, by go_num, by omega, hid (contR_more HC.out (HR.out j y (by omega) HY.out) hcy)⟩
            case measure => simp [intOf]; omega
        · have k1 : ¬ ((j : Int) + 1) < (4 : Int) := by omega
          have k11 : decide ((j : Int) + 1 < 4) = false := by simpa using k1
          have k12 : ¬ ((j : Int) < 3) := by omega
          have hkk := HM.out j HC.out (by omega) (by omega) hjm (by omega)
          obtain rfl : j = 3 := by omega
          obtain rfl : k = 4 := by omega
          clear hkk hjm k1 k11 k12
          go_wp2
          go_ret
          exact ⟨rfl, rfl⟩
end Go.Proofs.Ytnodlpbmlfdijaa
