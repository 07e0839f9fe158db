import Derived.Test.YtoefcdefbfdngaaSRF
namespace Go.Proofs.Ytoefcdefbfdngaa
open Go.RowKit

/-! Layer 14: RawGrows. -/
theorem ready_cases {mn tm hv wn idl wt n : Int} {b : Bool} (hR : readyI mn tm hv wn idl wt = (n, b)) : (b = true ∧ doneP (pz mn) (pz tm) (pz hv) wn (pz idl) (pz wt) = true ∧ n = if wn ≤ 0 then 0 else if pz hv ≤ wn then pz hv else wn) ∨ (b = false ∧ doneP (pz mn) (pz tm) (pz hv) wn (pz idl) (pz wt) = false ∧ n = 0) := by
  unfold readyI readyP at hR
  split at hR
  · injection hR with h1 h2
    exact Or.inl ⟨h2.symm, by assumption, h1.symm⟩
  · injection hR with h1 h2
    exact Or.inr ⟨h2.symm, by simpa using (by assumption : ¬ doneP (pz mn) (pz tm) (pz hv) wn (pz idl) (pz wt) = true), h1.symm⟩
section
variable {mn tm hv wn idl wt n m p q : Int} {b s : Bool} (a1 : 0 ≤ mn) (a2 : 0 ≤ tm) (a3 : 0 ≤ hv) (a4 : 0 ≤ wn) (a5 : 0 ≤ idl) (a6 : 0 ≤ wt)
include a3 a4
theorem ready_at (hR : readyI mn tm hv wn idl wt = (n, b)) : 0 ≤ n ∧ n ≤ wn ∧ n ≤ hv ∧ (b = true ∨ n = 0) := by
  rcases ready_cases hR with ⟨rfl, _, h⟩ | ⟨rfl, _, h⟩
  · rw [pz_id a3] at h
    refine ⟨?_, ?_, ?_, Or.inl rfl⟩
    all_goals
      split at h
      · omega
      · split at h <;> omega
  · exact ⟨by omega, by omega, by omega, Or.inr h⟩
include a1 a2 a5 a6
theorem ready_more (hR : readyI mn tm hv wn idl wt = (n, true)) (hp : 0 ≤ p) (hq : 0 ≤ q) (hS : readyI mn tm (hv + p) wn (idl + q) (wt + q) = (m, s)) : s = true ∧ n ≤ m := by
  rcases ready_cases hR with ⟨_, h1, h2⟩ | ⟨h, _⟩
  · rw [pz_id a1, pz_id a2, pz_id a3, pz_id a5, pz_id a6, done_iff] at h1
    rw [pz_id a3] at h2
    rcases ready_cases hS with ⟨rfl, _, h3⟩ | ⟨_, h4, _⟩
    · rw [pz_id (show 0 ≤ hv + p by omega)] at h3
      refine ⟨rfl, ?_⟩
      split at h2
      · split at h3 <;> omega
      · split at h2
        · split at h3
          · omega
          · split at h3 <;> omega
        · split at h3
          · omega
          · split at h3 <;> omega
    · rw [pz_id a1, pz_id a2, pz_id (show 0 ≤ hv + p by omega), pz_id (show 0 ≤ idl + q by omega), pz_id (show 0 ≤ wt + q by omega)] at h4
      have h5 : ¬ doneP mn tm (hv + p) wn (idl + q) (wt + q) = true := by rw [h4]; decide
      rw [done_iff] at h5
      omega
  · cases h
end
theorem ready_time {mn hv wn idl wt i j : Int} : readyI mn 0 hv wn i j = readyI mn 0 hv wn idl wt := by
  have e : ∀ D E D2 E2 : Int, doneP (pz mn) (pz 0) (pz hv) wn D E = doneP (pz mn) (pz 0) (pz hv) wn D2 E2 := fun D E D2 E2 => by
    have h0 : pz 0 = 0 := rfl
    rw [h0]
    rw [Bool.eq_iff_iff, done_iff, done_iff]
    omega
  unfold readyI readyP
  rw [e _ _ (pz idl) (pz wt)]
theorem box23a {W : World} {g : Nat} {cs : Array Value} (h : Hid (Box W g 23 cs)) (o : Obj) : Hid (Box (W.alloc o) g 23 cs) := box23 h ((Below.refl _ W).alloc (Nat.le_refl _) o)
set_option maxRecDepth 100000 in
set_option maxHeartbeats 4000000 in
theorem rgrows_walk (w : World) (mn tm hv wn idl wt : Int) (i j : Nat) (hi : i ≤ 65535) (hj : j ≤ 65535) (h1 : i64ok mn) (h2 : i64ok tm) (h3 : i64ok hv) (h4 : i64ok wn) (h5 : i64ok idl) (h6 : i64ok wt) :
    Calls Try.prog 5 #[.agg #[.int .i64 mn, .int .i64 tm, .int .i64 hv, .int .i64 wn, .int .i64 idl, .int .i64 wt], .int .u16 (i : Int), .int .u16 (j : Int)] w fun e w' => e = .returned (.bool true) ∧ Hid (Below w.heap.size w w') := by
  have K0 : Hid (Below w.heap.size w (w.alloc (.cells #[.int .i64 mn, .int .i64 tm, .int .i64 hv, .int .i64 wn, .int .i64 idl, .int .i64 wt] 23))) := hid ((Below.refl _ w).alloc (Nat.le_refl _) _)
  have B0 : Hid (Box (w.alloc (.cells #[.int .i64 mn, .int .i64 tm, .int .i64 hv, .int .i64 wn, .int .i64 idl, .int .i64 wt] 23)) w.heap.size 23 #[.int .i64 mn, .int .i64 tm, .int .i64 hv, .int .i64 wn, .int .i64 idl, .int .i64 wt]) := hid (Box.new w 23 _)
  obtain ⟨n, b, hR⟩ : ∃ n b, Hid (readyI mn tm hv wn idl wt = (n, b)) := ⟨_, _, hid rfl⟩
  cases hfair : fairL [mn, tm, hv, wn, idl, wt]
  · go_enter Try.func5, Try.ntmps5
    go_wp2_with (first
    | (go_at_call 6
       (with_reducible refine (alive_any _).mono ?_)
       rintro e y1 ⟨rfl, k1⟩
       have K1 := bel_t K0 k1.out
       have B1 := box23 B0 k1.out
       have cB10 : y1.cell? ⟨w.heap.size, 0, none⟩ = some (.int .i64 mn) := by simpa using B1.out.cell 0
       have cB11 : y1.cell? ⟨w.heap.size, 1, none⟩ = some (.int .i64 tm) := by simpa using B1.out.cell 1
       have cB12 : y1.cell? ⟨w.heap.size, 2, none⟩ = some (.int .i64 hv) := by simpa using B1.out.cell 2
       have cB13 : y1.cell? ⟨w.heap.size, 3, none⟩ = some (.int .i64 wn) := by simpa using B1.out.cell 3
       have cB14 : y1.cell? ⟨w.heap.size, 4, none⟩ = some (.int .i64 idl) := by simpa using B1.out.cell 4
       have cB15 : y1.cell? ⟨w.heap.size, 5, none⟩ = some (.int .i64 wt) := by simpa using B1.out.cell 5)
    | (go_at_call 11
       (with_reducible refine (fair_b y1 mn tm hv wn idl wt hfair).mono ?_)
       rintro e y2 ⟨rfl, k2⟩
       have K2 := bel_t K1 k2.out
       have B2 := box23 B1 k2.out
       have cB20 : y2.cell? ⟨w.heap.size, 0, none⟩ = some (.int .i64 mn) := by simpa using B2.out.cell 0
       have cB21 : y2.cell? ⟨w.heap.size, 1, none⟩ = some (.int .i64 tm) := by simpa using B2.out.cell 1
       have cB22 : y2.cell? ⟨w.heap.size, 2, none⟩ = some (.int .i64 hv) := by simpa using B2.out.cell 2
       have cB23 : y2.cell? ⟨w.heap.size, 3, none⟩ = some (.int .i64 wn) := by simpa using B2.out.cell 3
       have cB24 : y2.cell? ⟨w.heap.size, 4, none⟩ = some (.int .i64 idl) := by simpa using B2.out.cell 4
       have cB25 : y2.cell? ⟨w.heap.size, 5, none⟩ = some (.int .i64 wt) := by simpa using B2.out.cell 5))
    go_ret
    exact ⟨rfl, K2⟩
  have hf := fair_all hfair
  have f1 := hf mn (by simp)
  have f2 := hf tm (by simp)
  have f3 := hf hv (by simp)
  have f4 := hf wn (by simp)
  have f5 := hf idl (by simp)
  have f6 := hf wt (by simp)
  clear hf
  obtain ⟨m, s, hM⟩ : ∃ m s, Hid (readyI mn tm (hv + (i : Int)) wn (idl + (j : Int)) (wt + (j : Int)) = (m, s)) := ⟨_, _, hid rfl⟩
  obtain ⟨k, d, hK⟩ : ∃ k d, Hid (readyI mn tm hv wn (j : Int) (i : Int) = (k, d)) := ⟨_, _, hid rfl⟩
  obtain ⟨n1, n2, n3, n4⟩ := ready_at f3.1 f4.1 hR.out
  have g3 : i64ok (hv + (i : Int)) := ⟨by omega, by omega⟩
  have g5 : i64ok (idl + (j : Int)) := ⟨by omega, by omega⟩
  have g6 : i64ok (wt + (j : Int)) := ⟨by omega, by omega⟩
  have gj : i64ok (j : Int) := ⟨by omega, by omega⟩
  have gi : i64ok (i : Int) := ⟨by omega, by omega⟩
  have w3 : IntKind.i64.wrap (hv + (i : Int)) = hv + (i : Int) := by rw [IntKind.wrap_i64]; omega
  have w5 : IntKind.i64.wrap (idl + (j : Int)) = idl + (j : Int) := by rw [IntKind.wrap_i64]; omega
  have w6 : IntKind.i64.wrap (wt + (j : Int)) = wt + (j : Int) := by rw [IntKind.wrap_i64]; omega
  have m1 : ¬ n < 0 := by omega
  have m2 : ¬ wn < n := by omega
  have m3 : ¬ hv < n := by omega
  have hmore : b = true → s = true ∧ n ≤ m := fun hb => ready_more f1.1 f2.1 f3.1 f4.1 f5.1 f6.1 (by rw [← hb]; exact hR.out) (by omega) (by omega) hM.out
  have htime : tm = 0 → k = n ∧ d = b := fun ht => by
    have h := hK.out
    have h0 := hR.out
    rw [ht] at h h0
    rw [ready_time (idl := idl) (wt := wt)] at h
    rw [h] at h0
    injection h0 with e1 e2
    exact ⟨e1, e2⟩
  cases b
  · obtain rfl : n = 0 := by rcases n4 with h | h; cases h; exact h
    clear m1 m2 m3
    have m2 : ¬ wn < 0 := by omega
    have m3 : ¬ hv < 0 := by omega
    by_cases ht : tm = 0
    · subst ht
      obtain ⟨rfl, rfl⟩ := htime rfl
      clear htime hmore
      go_enter Try.func5, Try.ntmps5
      go_wp2_with (first
    | (go_at_call 6
       (with_reducible refine (alive_any _).mono ?_)
       rintro e y1 ⟨rfl, k1⟩
       have K1 := bel_t K0 k1.out
       have B1 := box23 B0 k1.out
       have cB10 : y1.cell? ⟨w.heap.size, 0, none⟩ = some (.int .i64 mn) := by simpa using B1.out.cell 0
       have cB11 : y1.cell? ⟨w.heap.size, 1, none⟩ = some (.int .i64 0) := by simpa using B1.out.cell 1
       have cB12 : y1.cell? ⟨w.heap.size, 2, none⟩ = some (.int .i64 hv) := by simpa using B1.out.cell 2
       have cB13 : y1.cell? ⟨w.heap.size, 3, none⟩ = some (.int .i64 wn) := by simpa using B1.out.cell 3
       have cB14 : y1.cell? ⟨w.heap.size, 4, none⟩ = some (.int .i64 idl) := by simpa using B1.out.cell 4
       have cB15 : y1.cell? ⟨w.heap.size, 5, none⟩ = some (.int .i64 wt) := by simpa using B1.out.cell 5)
    | (go_at_call 11
       (with_reducible refine (fair_b y1 mn 0 hv wn idl wt hfair).mono ?_)
       rintro e y2 ⟨rfl, k2⟩
       have K2 := bel_t K1 k2.out
       have B2 := box23 B1 k2.out
       have cB20 : y2.cell? ⟨w.heap.size, 0, none⟩ = some (.int .i64 mn) := by simpa using B2.out.cell 0
       have cB21 : y2.cell? ⟨w.heap.size, 1, none⟩ = some (.int .i64 0) := by simpa using B2.out.cell 1
       have cB22 : y2.cell? ⟨w.heap.size, 2, none⟩ = some (.int .i64 hv) := by simpa using B2.out.cell 2
       have cB23 : y2.cell? ⟨w.heap.size, 3, none⟩ = some (.int .i64 wn) := by simpa using B2.out.cell 3
       have cB24 : y2.cell? ⟨w.heap.size, 4, none⟩ = some (.int .i64 idl) := by simpa using B2.out.cell 4
       have cB25 : y2.cell? ⟨w.heap.size, 5, none⟩ = some (.int .i64 wt) := by simpa using B2.out.cell 5)
    | (go_at_call 7
       (first
         | ((with_reducible refine (ready_any y2 h1 h2 h3 h4 h5 h6 hR).mono ?_)
            rintro e y3 ⟨rfl, k3⟩
            have K3 := bel_t K2 k3.out
            have B3 := box23 B2 k3.out
            have cB30 : y3.cell? ⟨w.heap.size, 0, none⟩ = some (.int .i64 mn) := by simpa using B3.out.cell 0
            have cB31 : y3.cell? ⟨w.heap.size, 1, none⟩ = some (.int .i64 0) := by simpa using B3.out.cell 1
            have cB32 : y3.cell? ⟨w.heap.size, 2, none⟩ = some (.int .i64 hv) := by simpa using B3.out.cell 2
            have cB33 : y3.cell? ⟨w.heap.size, 3, none⟩ = some (.int .i64 wn) := by simpa using B3.out.cell 3
            have cB34 : y3.cell? ⟨w.heap.size, 4, none⟩ = some (.int .i64 idl) := by simpa using B3.out.cell 4
            have cB35 : y3.cell? ⟨w.heap.size, 5, none⟩ = some (.int .i64 wt) := by simpa using B3.out.cell 5)
         | ((with_reducible refine (ready_any _ h1 h2 g3 h4 g5 g6 hM).mono ?_)
            rintro e y4 ⟨rfl, k4⟩
            have K4 := bel_t (hid (K3.out.alloc K3.out.size _)) k4.out
            have B4 := box23 (box23a B3 _) k4.out
            have cB40 : y4.cell? ⟨w.heap.size, 0, none⟩ = some (.int .i64 mn) := by simpa using B4.out.cell 0
            have cB41 : y4.cell? ⟨w.heap.size, 1, none⟩ = some (.int .i64 0) := by simpa using B4.out.cell 1
            have cB42 : y4.cell? ⟨w.heap.size, 2, none⟩ = some (.int .i64 hv) := by simpa using B4.out.cell 2
            have cB43 : y4.cell? ⟨w.heap.size, 3, none⟩ = some (.int .i64 wn) := by simpa using B4.out.cell 3
            have cB44 : y4.cell? ⟨w.heap.size, 4, none⟩ = some (.int .i64 idl) := by simpa using B4.out.cell 4
            have cB45 : y4.cell? ⟨w.heap.size, 5, none⟩ = some (.int .i64 wt) := by simpa using B4.out.cell 5)
         | ((with_reducible refine (ready_any _ h1 h2 h3 h4 gj gi hK).mono ?_)
            rintro e y5 ⟨rfl, k5⟩
            have K5 := bel_t (hid (K4.out.alloc K4.out.size _)) k5.out
            have B5 := box23 (box23a B4 _) k5.out
            have cB50 : y5.cell? ⟨w.heap.size, 0, none⟩ = some (.int .i64 mn) := by simpa using B5.out.cell 0
            have cB51 : y5.cell? ⟨w.heap.size, 1, none⟩ = some (.int .i64 0) := by simpa using B5.out.cell 1
            have cB52 : y5.cell? ⟨w.heap.size, 2, none⟩ = some (.int .i64 hv) := by simpa using B5.out.cell 2
            have cB53 : y5.cell? ⟨w.heap.size, 3, none⟩ = some (.int .i64 wn) := by simpa using B5.out.cell 3
            have cB54 : y5.cell? ⟨w.heap.size, 4, none⟩ = some (.int .i64 idl) := by simpa using B5.out.cell 4
            have cB55 : y5.cell? ⟨w.heap.size, 5, none⟩ = some (.int .i64 wt) := by simpa using B5.out.cell 5))))
      go_ret
      exact ⟨rfl, K5⟩
    · have ht2 : (tm != 0) = true := bne_iff_ne.2 ht
      clear htime hmore
      go_enter Try.func5, Try.ntmps5
      go_wp2_with (first
    | (go_at_call 6
       (with_reducible refine (alive_any _).mono ?_)
       rintro e y1 ⟨rfl, k1⟩
       have K1 := bel_t K0 k1.out
       have B1 := box23 B0 k1.out
       have cB10 : y1.cell? ⟨w.heap.size, 0, none⟩ = some (.int .i64 mn) := by simpa using B1.out.cell 0
       have cB11 : y1.cell? ⟨w.heap.size, 1, none⟩ = some (.int .i64 tm) := by simpa using B1.out.cell 1
       have cB12 : y1.cell? ⟨w.heap.size, 2, none⟩ = some (.int .i64 hv) := by simpa using B1.out.cell 2
       have cB13 : y1.cell? ⟨w.heap.size, 3, none⟩ = some (.int .i64 wn) := by simpa using B1.out.cell 3
       have cB14 : y1.cell? ⟨w.heap.size, 4, none⟩ = some (.int .i64 idl) := by simpa using B1.out.cell 4
       have cB15 : y1.cell? ⟨w.heap.size, 5, none⟩ = some (.int .i64 wt) := by simpa using B1.out.cell 5)
    | (go_at_call 11
       (with_reducible refine (fair_b y1 mn tm hv wn idl wt hfair).mono ?_)
       rintro e y2 ⟨rfl, k2⟩
       have K2 := bel_t K1 k2.out
       have B2 := box23 B1 k2.out
       have cB20 : y2.cell? ⟨w.heap.size, 0, none⟩ = some (.int .i64 mn) := by simpa using B2.out.cell 0
       have cB21 : y2.cell? ⟨w.heap.size, 1, none⟩ = some (.int .i64 tm) := by simpa using B2.out.cell 1
       have cB22 : y2.cell? ⟨w.heap.size, 2, none⟩ = some (.int .i64 hv) := by simpa using B2.out.cell 2
       have cB23 : y2.cell? ⟨w.heap.size, 3, none⟩ = some (.int .i64 wn) := by simpa using B2.out.cell 3
       have cB24 : y2.cell? ⟨w.heap.size, 4, none⟩ = some (.int .i64 idl) := by simpa using B2.out.cell 4
       have cB25 : y2.cell? ⟨w.heap.size, 5, none⟩ = some (.int .i64 wt) := by simpa using B2.out.cell 5)
    | (go_at_call 7
       (first
         | ((with_reducible refine (ready_any y2 h1 h2 h3 h4 h5 h6 hR).mono ?_)
            rintro e y3 ⟨rfl, k3⟩
            have K3 := bel_t K2 k3.out
            have B3 := box23 B2 k3.out
            have cB30 : y3.cell? ⟨w.heap.size, 0, none⟩ = some (.int .i64 mn) := by simpa using B3.out.cell 0
            have cB31 : y3.cell? ⟨w.heap.size, 1, none⟩ = some (.int .i64 tm) := by simpa using B3.out.cell 1
            have cB32 : y3.cell? ⟨w.heap.size, 2, none⟩ = some (.int .i64 hv) := by simpa using B3.out.cell 2
            have cB33 : y3.cell? ⟨w.heap.size, 3, none⟩ = some (.int .i64 wn) := by simpa using B3.out.cell 3
            have cB34 : y3.cell? ⟨w.heap.size, 4, none⟩ = some (.int .i64 idl) := by simpa using B3.out.cell 4
            have cB35 : y3.cell? ⟨w.heap.size, 5, none⟩ = some (.int .i64 wt) := by simpa using B3.out.cell 5)
         | ((with_reducible refine (ready_any _ h1 h2 g3 h4 g5 g6 hM).mono ?_)
            rintro e y4 ⟨rfl, k4⟩
            have K4 := bel_t (hid (K3.out.alloc K3.out.size _)) k4.out
            have B4 := box23 (box23a B3 _) k4.out
            have cB40 : y4.cell? ⟨w.heap.size, 0, none⟩ = some (.int .i64 mn) := by simpa using B4.out.cell 0
            have cB41 : y4.cell? ⟨w.heap.size, 1, none⟩ = some (.int .i64 tm) := by simpa using B4.out.cell 1
            have cB42 : y4.cell? ⟨w.heap.size, 2, none⟩ = some (.int .i64 hv) := by simpa using B4.out.cell 2
            have cB43 : y4.cell? ⟨w.heap.size, 3, none⟩ = some (.int .i64 wn) := by simpa using B4.out.cell 3
            have cB44 : y4.cell? ⟨w.heap.size, 4, none⟩ = some (.int .i64 idl) := by simpa using B4.out.cell 4
            have cB45 : y4.cell? ⟨w.heap.size, 5, none⟩ = some (.int .i64 wt) := by simpa using B4.out.cell 5)
         | ((with_reducible refine (ready_any _ h1 h2 h3 h4 gj gi hK).mono ?_)
            rintro e y5 ⟨rfl, k5⟩
            have K5 := bel_t (hid (K4.out.alloc K4.out.size _)) k5.out
            have B5 := box23 (box23a B4 _) k5.out
            have cB50 : y5.cell? ⟨w.heap.size, 0, none⟩ = some (.int .i64 mn) := by simpa using B5.out.cell 0
            have cB51 : y5.cell? ⟨w.heap.size, 1, none⟩ = some (.int .i64 tm) := by simpa using B5.out.cell 1
            have cB52 : y5.cell? ⟨w.heap.size, 2, none⟩ = some (.int .i64 hv) := by simpa using B5.out.cell 2
            have cB53 : y5.cell? ⟨w.heap.size, 3, none⟩ = some (.int .i64 wn) := by simpa using B5.out.cell 3
            have cB54 : y5.cell? ⟨w.heap.size, 4, none⟩ = some (.int .i64 idl) := by simpa using B5.out.cell 4
            have cB55 : y5.cell? ⟨w.heap.size, 5, none⟩ = some (.int .i64 wt) := by simpa using B5.out.cell 5))))
      go_ret
      exact ⟨rfl, K5⟩
  · obtain ⟨rfl, hle⟩ := hmore rfl
    have hle : ¬ m < n := by omega
    by_cases ht : tm = 0
    · subst ht
      obtain ⟨rfl, rfl⟩ := htime rfl
      clear htime hmore
      go_enter Try.func5, Try.ntmps5
      go_wp2_with (first
    | (go_at_call 6
       (with_reducible refine (alive_any _).mono ?_)
       rintro e y1 ⟨rfl, k1⟩
       have K1 := bel_t K0 k1.out
       have B1 := box23 B0 k1.out
       have cB10 : y1.cell? ⟨w.heap.size, 0, none⟩ = some (.int .i64 mn) := by simpa using B1.out.cell 0
       have cB11 : y1.cell? ⟨w.heap.size, 1, none⟩ = some (.int .i64 0) := by simpa using B1.out.cell 1
       have cB12 : y1.cell? ⟨w.heap.size, 2, none⟩ = some (.int .i64 hv) := by simpa using B1.out.cell 2
       have cB13 : y1.cell? ⟨w.heap.size, 3, none⟩ = some (.int .i64 wn) := by simpa using B1.out.cell 3
       have cB14 : y1.cell? ⟨w.heap.size, 4, none⟩ = some (.int .i64 idl) := by simpa using B1.out.cell 4
       have cB15 : y1.cell? ⟨w.heap.size, 5, none⟩ = some (.int .i64 wt) := by simpa using B1.out.cell 5)
    | (go_at_call 11
       (with_reducible refine (fair_b y1 mn 0 hv wn idl wt hfair).mono ?_)
       rintro e y2 ⟨rfl, k2⟩
       have K2 := bel_t K1 k2.out
       have B2 := box23 B1 k2.out
       have cB20 : y2.cell? ⟨w.heap.size, 0, none⟩ = some (.int .i64 mn) := by simpa using B2.out.cell 0
       have cB21 : y2.cell? ⟨w.heap.size, 1, none⟩ = some (.int .i64 0) := by simpa using B2.out.cell 1
       have cB22 : y2.cell? ⟨w.heap.size, 2, none⟩ = some (.int .i64 hv) := by simpa using B2.out.cell 2
       have cB23 : y2.cell? ⟨w.heap.size, 3, none⟩ = some (.int .i64 wn) := by simpa using B2.out.cell 3
       have cB24 : y2.cell? ⟨w.heap.size, 4, none⟩ = some (.int .i64 idl) := by simpa using B2.out.cell 4
       have cB25 : y2.cell? ⟨w.heap.size, 5, none⟩ = some (.int .i64 wt) := by simpa using B2.out.cell 5)
    | (go_at_call 7
       (first
         | ((with_reducible refine (ready_any y2 h1 h2 h3 h4 h5 h6 hR).mono ?_)
            rintro e y3 ⟨rfl, k3⟩
            have K3 := bel_t K2 k3.out
            have B3 := box23 B2 k3.out
            have cB30 : y3.cell? ⟨w.heap.size, 0, none⟩ = some (.int .i64 mn) := by simpa using B3.out.cell 0
            have cB31 : y3.cell? ⟨w.heap.size, 1, none⟩ = some (.int .i64 0) := by simpa using B3.out.cell 1
            have cB32 : y3.cell? ⟨w.heap.size, 2, none⟩ = some (.int .i64 hv) := by simpa using B3.out.cell 2
            have cB33 : y3.cell? ⟨w.heap.size, 3, none⟩ = some (.int .i64 wn) := by simpa using B3.out.cell 3
            have cB34 : y3.cell? ⟨w.heap.size, 4, none⟩ = some (.int .i64 idl) := by simpa using B3.out.cell 4
            have cB35 : y3.cell? ⟨w.heap.size, 5, none⟩ = some (.int .i64 wt) := by simpa using B3.out.cell 5)
         | ((with_reducible refine (ready_any _ h1 h2 g3 h4 g5 g6 hM).mono ?_)
            rintro e y4 ⟨rfl, k4⟩
            have K4 := bel_t (hid (K3.out.alloc K3.out.size _)) k4.out
            have B4 := box23 (box23a B3 _) k4.out
            have cB40 : y4.cell? ⟨w.heap.size, 0, none⟩ = some (.int .i64 mn) := by simpa using B4.out.cell 0
            have cB41 : y4.cell? ⟨w.heap.size, 1, none⟩ = some (.int .i64 0) := by simpa using B4.out.cell 1
            have cB42 : y4.cell? ⟨w.heap.size, 2, none⟩ = some (.int .i64 hv) := by simpa using B4.out.cell 2
            have cB43 : y4.cell? ⟨w.heap.size, 3, none⟩ = some (.int .i64 wn) := by simpa using B4.out.cell 3
            have cB44 : y4.cell? ⟨w.heap.size, 4, none⟩ = some (.int .i64 idl) := by simpa using B4.out.cell 4
            have cB45 : y4.cell? ⟨w.heap.size, 5, none⟩ = some (.int .i64 wt) := by simpa using B4.out.cell 5)
         | ((with_reducible refine (ready_any _ h1 h2 h3 h4 gj gi hK).mono ?_)
            rintro e y5 ⟨rfl, k5⟩
            have K5 := bel_t (hid (K4.out.alloc K4.out.size _)) k5.out
            have B5 := box23 (box23a B4 _) k5.out
            have cB50 : y5.cell? ⟨w.heap.size, 0, none⟩ = some (.int .i64 mn) := by simpa using B5.out.cell 0
            have cB51 : y5.cell? ⟨w.heap.size, 1, none⟩ = some (.int .i64 0) := by simpa using B5.out.cell 1
            have cB52 : y5.cell? ⟨w.heap.size, 2, none⟩ = some (.int .i64 hv) := by simpa using B5.out.cell 2
            have cB53 : y5.cell? ⟨w.heap.size, 3, none⟩ = some (.int .i64 wn) := by simpa using B5.out.cell 3
            have cB54 : y5.cell? ⟨w.heap.size, 4, none⟩ = some (.int .i64 idl) := by simpa using B5.out.cell 4
            have cB55 : y5.cell? ⟨w.heap.size, 5, none⟩ = some (.int .i64 wt) := by simpa using B5.out.cell 5))))
      go_ret
      exact ⟨rfl, K5⟩
    · have ht2 : (tm != 0) = true := bne_iff_ne.2 ht
      clear htime hmore
      go_enter Try.func5, Try.ntmps5
      go_wp2_with (first
    | (go_at_call 6
       (with_reducible refine (alive_any _).mono ?_)
       rintro e y1 ⟨rfl, k1⟩
       have K1 := bel_t K0 k1.out
       have B1 := box23 B0 k1.out
       have cB10 : y1.cell? ⟨w.heap.size, 0, none⟩ = some (.int .i64 mn) := by simpa using B1.out.cell 0
       have cB11 : y1.cell? ⟨w.heap.size, 1, none⟩ = some (.int .i64 tm) := by simpa using B1.out.cell 1
       have cB12 : y1.cell? ⟨w.heap.size, 2, none⟩ = some (.int .i64 hv) := by simpa using B1.out.cell 2
       have cB13 : y1.cell? ⟨w.heap.size, 3, none⟩ = some (.int .i64 wn) := by simpa using B1.out.cell 3
       have cB14 : y1.cell? ⟨w.heap.size, 4, none⟩ = some (.int .i64 idl) := by simpa using B1.out.cell 4
       have cB15 : y1.cell? ⟨w.heap.size, 5, none⟩ = some (.int .i64 wt) := by simpa using B1.out.cell 5)
    | (go_at_call 11
       (with_reducible refine (fair_b y1 mn tm hv wn idl wt hfair).mono ?_)
       rintro e y2 ⟨rfl, k2⟩
       have K2 := bel_t K1 k2.out
       have B2 := box23 B1 k2.out
       have cB20 : y2.cell? ⟨w.heap.size, 0, none⟩ = some (.int .i64 mn) := by simpa using B2.out.cell 0
       have cB21 : y2.cell? ⟨w.heap.size, 1, none⟩ = some (.int .i64 tm) := by simpa using B2.out.cell 1
       have cB22 : y2.cell? ⟨w.heap.size, 2, none⟩ = some (.int .i64 hv) := by simpa using B2.out.cell 2
       have cB23 : y2.cell? ⟨w.heap.size, 3, none⟩ = some (.int .i64 wn) := by simpa using B2.out.cell 3
       have cB24 : y2.cell? ⟨w.heap.size, 4, none⟩ = some (.int .i64 idl) := by simpa using B2.out.cell 4
       have cB25 : y2.cell? ⟨w.heap.size, 5, none⟩ = some (.int .i64 wt) := by simpa using B2.out.cell 5)
    | (go_at_call 7
       (first
         | ((with_reducible refine (ready_any y2 h1 h2 h3 h4 h5 h6 hR).mono ?_)
            rintro e y3 ⟨rfl, k3⟩
            have K3 := bel_t K2 k3.out
            have B3 := box23 B2 k3.out
            have cB30 : y3.cell? ⟨w.heap.size, 0, none⟩ = some (.int .i64 mn) := by simpa using B3.out.cell 0
            have cB31 : y3.cell? ⟨w.heap.size, 1, none⟩ = some (.int .i64 tm) := by simpa using B3.out.cell 1
            have cB32 : y3.cell? ⟨w.heap.size, 2, none⟩ = some (.int .i64 hv) := by simpa using B3.out.cell 2
            have cB33 : y3.cell? ⟨w.heap.size, 3, none⟩ = some (.int .i64 wn) := by simpa using B3.out.cell 3
            have cB34 : y3.cell? ⟨w.heap.size, 4, none⟩ = some (.int .i64 idl) := by simpa using B3.out.cell 4
            have cB35 : y3.cell? ⟨w.heap.size, 5, none⟩ = some (.int .i64 wt) := by simpa using B3.out.cell 5)
         | ((with_reducible refine (ready_any _ h1 h2 g3 h4 g5 g6 hM).mono ?_)
            rintro e y4 ⟨rfl, k4⟩
            have K4 := bel_t (hid (K3.out.alloc K3.out.size _)) k4.out
            have B4 := box23 (box23a B3 _) k4.out
            have cB40 : y4.cell? ⟨w.heap.size, 0, none⟩ = some (.int .i64 mn) := by simpa using B4.out.cell 0
            have cB41 : y4.cell? ⟨w.heap.size, 1, none⟩ = some (.int .i64 tm) := by simpa using B4.out.cell 1
            have cB42 : y4.cell? ⟨w.heap.size, 2, none⟩ = some (.int .i64 hv) := by simpa using B4.out.cell 2
            have cB43 : y4.cell? ⟨w.heap.size, 3, none⟩ = some (.int .i64 wn) := by simpa using B4.out.cell 3
            have cB44 : y4.cell? ⟨w.heap.size, 4, none⟩ = some (.int .i64 idl) := by simpa using B4.out.cell 4
            have cB45 : y4.cell? ⟨w.heap.size, 5, none⟩ = some (.int .i64 wt) := by simpa using B4.out.cell 5)
         | ((with_reducible refine (ready_any _ h1 h2 h3 h4 gj gi hK).mono ?_)
            rintro e y5 ⟨rfl, k5⟩
            have K5 := bel_t (hid (K4.out.alloc K4.out.size _)) k5.out
            have B5 := box23 (box23a B4 _) k5.out
            have cB50 : y5.cell? ⟨w.heap.size, 0, none⟩ = some (.int .i64 mn) := by simpa using B5.out.cell 0
            have cB51 : y5.cell? ⟨w.heap.size, 1, none⟩ = some (.int .i64 tm) := by simpa using B5.out.cell 1
            have cB52 : y5.cell? ⟨w.heap.size, 2, none⟩ = some (.int .i64 hv) := by simpa using B5.out.cell 2
            have cB53 : y5.cell? ⟨w.heap.size, 3, none⟩ = some (.int .i64 wn) := by simpa using B5.out.cell 3
            have cB54 : y5.cell? ⟨w.heap.size, 4, none⟩ = some (.int .i64 idl) := by simpa using B5.out.cell 4
            have cB55 : y5.cell? ⟨w.heap.size, 5, none⟩ = some (.int .i64 wt) := by simpa using B5.out.cell 5))))
      go_ret
      exact ⟨rfl, K5⟩
end Go.Proofs.Ytoefcdefbfdngaa
