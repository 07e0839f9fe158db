import Derived.Test.YtjncahcigbdbgaaPEA
namespace Go.Proofs.Ytjncahcigbdbgaa
open Go.RowKit

set_option maxRecDepth 100000 in
theorem insidep_any (w : World) (col : Int) : Calls Try.prog 26 #[.int .i64 col] w fun e w' => e = .returned (.int .i64 (nrm col : Int)) ∧ w' = w := by
  by_cases h1 : col < 0
  · have hq : ((nrm col : Nat) : Int) = 0 := by unfold nrm; rw [if_pos (Or.inl h1)]; rfl
    rw [hq]
    go_enter Try.func26, Try.ntmps26
    go_wp2
    go_ret
    exact ⟨rfl, rfl⟩
  · by_cases h2 : 65535 < col
    · have hq : ((nrm col : Nat) : Int) = 0 := by unfold nrm; rw [if_pos (Or.inr h2)]; rfl
      rw [hq]
      go_enter Try.func26, Try.ntmps26
      go_wp2
      go_ret
      exact ⟨rfl, rfl⟩
    · have hq : ((nrm col : Nat) : Int) = col := by unfold nrm; rw [if_neg (by omega)]; omega
      rw [hq]
      go_enter Try.func26, Try.ntmps26
      go_wp2
      go_ret
      exact ⟨rfl, rfl⟩
theorem insidep_n (w : World) (n : Nat) (x : Int) (hx : x = (n : Int)) : Calls Try.prog 26 #[.int .i64 x] w fun e w' => e = .returned (.int .i64 (clampN n : Int)) ∧ w' = w := by
  subst hx
  have := insidep_any w (n : Int)
  rwa [nrm_clamp] at this
set_option maxRecDepth 100000 in
theorem isSmall_any (w : World) (c : UInt8) : Calls Try.prog 31 #[.int .u8 (c.toNat : Int)] w fun e w' => e = .returned (.bool (decide (97 ≤ c.toNat) && decide (c.toNat ≤ 122))) ∧ w' = w := by
  by_cases h1 : 97 ≤ c.toNat
  · have e1 : (97 : Int) ≤ (c.toNat : Int) := by omega
    by_cases h2 : c.toNat ≤ 122
    · have e2 : (c.toNat : Int) ≤ 122 := by omega
      rw [decide_eq_true h1, decide_eq_true h2]
      go_enter Try.func31, Try.ntmps31
      go_wp2
      go_ret
      exact ⟨rfl, rfl⟩
    · have e2 : ¬ (c.toNat : Int) ≤ 122 := by omega
      rw [decide_eq_true h1, decide_eq_false h2]
      go_enter Try.func31, Try.ntmps31
      go_wp2
      go_ret
      exact ⟨rfl, rfl⟩
  · have e1 : ¬ (97 : Int) ≤ (c.toNat : Int) := by omega
    rw [decide_eq_false h1]
    go_enter Try.func31, Try.ntmps31
    go_wp2
    go_ret
    exact ⟨rfl, rfl⟩
theorem isSmall_b (w : World) (c : UInt8) {b : Bool} (hb : (decide (97 ≤ c.toNat) && decide (c.toNat ≤ 122)) = b) : Calls Try.prog 31 #[.int .u8 (c.toNat : Int)] w fun e w' => e = .returned (.bool b) ∧ w' = w := by
  subst hb
  exact isSmall_any w c
set_option maxRecDepth 100000 in
theorem goesOn_any (w : World) (c : UInt8) : Calls Try.prog 38 #[.int .u8 (c.toNat : Int)] w fun e w' => e = .returned (.bool (decide (128 ≤ c.toNat) && decide (c.toNat ≤ 191))) ∧ w' = w := by
  by_cases h1 : 128 ≤ c.toNat
  · have e1 : (128 : Int) ≤ (c.toNat : Int) := by omega
    by_cases h2 : c.toNat ≤ 191
    · have e2 : (c.toNat : Int) ≤ 191 := by omega
      rw [decide_eq_true h1, decide_eq_true h2]
      go_enter Try.func38, Try.ntmps38
      go_wp2
      go_ret
      exact ⟨rfl, rfl⟩
    · have e2 : ¬ (c.toNat : Int) ≤ 191 := by omega
      rw [decide_eq_true h1, decide_eq_false h2]
      go_enter Try.func38, Try.ntmps38
      go_wp2
      go_ret
      exact ⟨rfl, rfl⟩
  · have e1 : ¬ (128 : Int) ≤ (c.toNat : Int) := by omega
    rw [decide_eq_false h1]
    go_enter Try.func38, Try.ntmps38
    go_wp2
    go_ret
    exact ⟨rfl, rfl⟩
theorem goesOn_b (w : World) (c : UInt8) {b : Bool} (hb : (decide (128 ≤ c.toNat) && decide (c.toNat ≤ 191)) = b) : Calls Try.prog 38 #[.int .u8 (c.toNat : Int)] w fun e w' => e = .returned (.bool b) ∧ w' = w := by
  subst hb
  exact goesOn_any w c
set_option maxRecDepth 100000 in
theorem hasp_b (w : World) {g N : Nat} {t : Tm} {s : Value} (hp : Hid (Pen w g t N s)) (ht : t.Ok) {op : Int} {b : Bool} (hb : hasN t.f op = b) : Calls Try.prog 27 #[.pointer (some ⟨g, 0, none⟩), .int .i64 op] w fun e w' => e = .returned (.bool b) ∧ Hid (Below w.heap.size w w') := by
  have hl := ht.len
  go_enter Try.func27, Try.ntmps27
  go_wp2_with (first
    | (refine ldP (by rfl) _ (by rfl) g (by rfl) t N s hp hl ?_)
    | (go_at_call 16
       (with_reducible refine (has_b _ ht hb).mono ?_)
       rintro e u1 ⟨rfl, k⟩))
  go_ret
  exact ⟨rfl, k⟩
/-- Whether a byte has a sign of its own. -/
def signP (u : Bool) (c : UInt8) : Bool := decide (32 ≤ c.toNat) && !decide (c.toNat = 127) && !(decide (128 ≤ c.toNat) && decide (c.toNat ≤ 191) && u)
set_option maxRecDepth 100000 in
set_option maxHeartbeats 2000000 in
theorem hasSign_any (w : World) {g N : Nat} {t : Tm} {s : Value} (hp : Hid (Pen w g t N s)) (ht : t.Ok) (c : UInt8) {u : Bool} (hu : hasN t.f 42 = u) : Calls Try.prog 37 #[.pointer (some ⟨g, 0, none⟩), .int .u8 (c.toNat : Int)] w fun e w' => e = .returned (.bool (signP u c)) ∧ Hid (Below w.heap.size w w') := by
  by_cases h1 : 32 ≤ c.toNat
  · have e1 : (32 : Int) ≤ (c.toNat : Int) := by omega
    by_cases h2 : c.toNat = 127
    · have hs : signP u c = false := by simp [signP, h2]
      have e2 : (c.toNat : Int) = 127 := by omega
      rw [hs, e2]
      clear e1
      go_enter Try.func37, Try.ntmps37
      go_wp2
      go_ret
      exact ⟨rfl, hid (Below.refl _ _)⟩
    · have e2 : (((c.toNat : Int)) != 127) = true := bne_iff_ne.2 (by omega)
      cases hg : (decide (128 ≤ c.toNat) && decide (c.toNat ≤ 191))
      · have hs : signP u c = true := by unfold signP; rw [decide_eq_true h1, decide_eq_false h2, hg]; rfl
        rw [hs]
        go_enter Try.func37, Try.ntmps37
        go_wp2_with (first
          | (go_at_call 38
             (with_reducible refine (goesOn_b _ c hg).mono ?_)
             rintro e u1 ⟨rfl, rfl⟩))
        go_ret
        exact ⟨rfl, hid (Below.refl _ _)⟩
      · have hs : signP u c = !u := by unfold signP; rw [decide_eq_true h1, decide_eq_false h2, hg]; rfl
        rw [hs]
        clear hs
        cases u
        · go_enter Try.func37, Try.ntmps37
          go_wp2_with (first
            | (go_at_call 38
               (with_reducible refine (goesOn_b _ c hg).mono ?_)
               rintro e u1 ⟨rfl, rfl⟩)
            | (go_at_call 27
               (with_reducible refine (hasp_b _ hp ht hu).mono ?_)
               rintro e u2 ⟨rfl, k2⟩))
          go_ret
          exact ⟨rfl, k2⟩
        · go_enter Try.func37, Try.ntmps37
          go_wp2_with (first
            | (go_at_call 38
               (with_reducible refine (goesOn_b _ c hg).mono ?_)
               rintro e u1 ⟨rfl, rfl⟩)
            | (go_at_call 27
               (with_reducible refine (hasp_b _ hp ht hu).mono ?_)
               rintro e u2 ⟨rfl, k2⟩))
          go_ret
          exact ⟨rfl, k2⟩
  · have e1 : ¬ (32 : Int) ≤ (c.toNat : Int) := by omega
    have hs : signP u c = false := by unfold signP; rw [decide_eq_false h1]; rfl
    rw [hs]
    go_enter Try.func37, Try.ntmps37
    go_wp2
    go_ret
    exact ⟨rfl, hid (Below.refl _ _)⟩
theorem hasSign_b (w : World) {g N : Nat} {t : Tm} {s : Value} (hp : Hid (Pen w g t N s)) (ht : t.Ok) (c : UInt8) {u b : Bool} (hu : hasN t.f 42 = u) (hb : signP u c = b) : Calls Try.prog 37 #[.pointer (some ⟨g, 0, none⟩), .int .u8 (c.toNat : Int)] w fun e w' => e = .returned (.bool b) ∧ Hid (Below w.heap.size w w') := by
  subst hb
  exact hasSign_any w hp ht c hu
end Go.Proofs.Ytjncahcigbdbgaa
