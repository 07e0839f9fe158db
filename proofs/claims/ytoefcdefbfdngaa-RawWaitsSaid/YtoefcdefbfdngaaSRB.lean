import Derived.Test.YtoefcdefbfdngaaSRBd
namespace Go.Proofs.Ytoefcdefbfdngaa
open Go.RowKit
set_option maxRecDepth 100000 in
set_option maxHeartbeats 4000000 in
theorem waitp_any (w : World) (mn tm hv wn idl wt : Int) (_h1 : i64ok mn) (h2 : i64ok tm) (_h3 : i64ok hv) (_h4 : i64ok wn) (h5 : i64ok idl) (h6 : i64ok wt) {n : Int} {b : Bool} (hV : Hid (waitI mn tm hv wn idl wt = (n, b))) :
    Calls Try.prog 14 #[.int .i64 mn, .int .i64 tm, .int .i64 hv, .int .i64 wn, .int .i64 idl, .int .i64 wt] w fun e w' => e = .returned (.tuple #[.int .i64 n, .bool b]) ∧ Hid (Below w.heap.size w w') := by
  obtain ⟨A, hA⟩ : ∃ A, pz mn = A := ⟨_, rfl⟩
  obtain ⟨B, hB⟩ : ∃ B, pz tm = B := ⟨_, rfl⟩
  obtain ⟨C, hC⟩ : ∃ C, pz hv = C := ⟨_, rfl⟩
  obtain ⟨W, hW⟩ : ∃ W, pz wn = W := ⟨_, rfl⟩
  obtain ⟨D, hD⟩ : ∃ D, pz idl = D := ⟨_, rfl⟩
  obtain ⟨E, hE⟩ : ∃ E, pz wt = E := ⟨_, rfl⟩
  have b0 : 0 ≤ B := hB ▸ pz_le tm
  have b1 : B ≤ 9223372036854775807 := hB ▸ pz_top h2.2
  have d0 : 0 ≤ D := hD ▸ pz_le idl
  have d1 : D ≤ 9223372036854775807 := hD ▸ pz_top h5.2
  have e0 : 0 ≤ E := hE ▸ pz_le wt
  have e1 : E ≤ 9223372036854775807 := hE ▸ pz_top h6.2
  have c0 : 0 ≤ C := hC ▸ pz_le hv
  have hn : Hid (tickP A B C W D E = (n, b)) := hid (by
    have h := hV.out
    unfold waitI at h
    rw [hA, hB, hC, hD, hE, ← tick_wait b0 c0, hW] at h
    exact h)
  clear hV h2 h5 h6
  go_enter Try.func14, Try.ntmps14
  go_wp2_with (first
    | (go_at_call 15
       (with_reducible refine (newr_any _ mn tm hv wn idl wt).mono ?_)
       rintro e u1 ⟨rfl, k1⟩
       rw [hA, hB, hC, hW, hD, hE])
    | (go_at_call 16
       (with_reducible refine (ticks_any _ b0 b1 d0 d1 e0 e1 c0 hn).mono ?_)
       rintro e u2 ⟨rfl, k2⟩))
  go_ret2
  exact ⟨rfl, bel_t k1 k2.out⟩
theorem ready_way {mn tm hv wn idl wt n : Int} {b : Bool} (hR : Hid (readyI mn tm hv wn idl wt = (n, b))) : ∃ m r, Hid (tickP (pz mn) (pz tm) (pz hv) (pz wn) (pz idl) (pz wt) = (m, r)) ∧
    ((r = false ∧ n = 0 ∧ b = false) ∨ (r = true ∧ 0 < m ∧ n = 0 ∧ b = false) ∨ (r = true ∧ ¬ 0 < m ∧ b = true ∧ Hid ((if pz hv ≤ pz wn then pz hv else pz wn) = n))) := by
  obtain ⟨⟨m, r⟩, hw⟩ : ∃ z, waitP (pz mn) (pz tm) (pz hv) wn (pz idl) (pz wt) = z := ⟨_, rfl⟩
  have h := wait_ready (pz_le hv) hw
  have hr := hR.out
  unfold readyI at hr
  rw [h] at hr
  refine ⟨m, r, hid ((tick_wait (pz_le tm) (pz_le hv)).trans hw), ?_⟩
  cases r
  · left
    rw [if_neg (by simp)] at hr
    injection hr with a b
    exact ⟨rfl, a.symm, b.symm⟩
  · right
    by_cases hm : 0 < m
    · left
      rw [if_neg (by simp [hm])] at hr
      injection hr with a b
      exact ⟨rfl, hm, a.symm, b.symm⟩
    · right
      rw [if_pos ⟨rfl, hm⟩] at hr
      injection hr with a b
      exact ⟨rfl, hm, b.symm, hid a⟩
set_option maxRecDepth 100000 in
set_option maxHeartbeats 4000000 in
theorem readyp_any (w : World) (mn tm hv wn idl wt : Int) (_h1 : i64ok mn) (h2 : i64ok tm) (_h3 : i64ok hv) (_h4 : i64ok wn) (h5 : i64ok idl) (h6 : i64ok wt) {n : Int} {b : Bool} (hR : Hid (readyI mn tm hv wn idl wt = (n, b))) :
    Calls Try.prog 13 #[.int .i64 mn, .int .i64 tm, .int .i64 hv, .int .i64 wn, .int .i64 idl, .int .i64 wt] w fun e w' => e = .returned (.tuple #[.int .i64 n, .bool b]) ∧ Hid (Below w.heap.size w w') := by
  obtain ⟨m, r, hn, hz⟩ := ready_way hR
  obtain ⟨A, hA⟩ : ∃ A, pz mn = A := ⟨_, rfl⟩
  obtain ⟨B, hB⟩ : ∃ B, pz tm = B := ⟨_, rfl⟩
  obtain ⟨C, hC⟩ : ∃ C, pz hv = C := ⟨_, rfl⟩
  obtain ⟨W, hW⟩ : ∃ W, pz wn = W := ⟨_, rfl⟩
  obtain ⟨D, hD⟩ : ∃ D, pz idl = D := ⟨_, rfl⟩
  obtain ⟨E, hE⟩ : ∃ E, pz wt = E := ⟨_, rfl⟩
  have b0 : 0 ≤ B := hB ▸ pz_le tm
  have b1 : B ≤ 9223372036854775807 := hB ▸ pz_top h2.2
  have d0 : 0 ≤ D := hD ▸ pz_le idl
  have d1 : D ≤ 9223372036854775807 := hD ▸ pz_top h5.2
  have e0 : 0 ≤ E := hE ▸ pz_le wt
  have e1 : E ≤ 9223372036854775807 := hE ▸ pz_top h6.2
  have c0 : 0 ≤ C := hC ▸ pz_le hv
  rw [hA, hB, hC, hW, hD, hE] at hn
  rw [hC, hW] at hz
  clear hR h2 h5 h6
  rcases hz with ⟨rfl, rfl, rfl⟩ | ⟨rfl, hm, rfl, rfl⟩ | ⟨rfl, hm, rfl, hk⟩
  · go_enter Try.func13, Try.ntmps13
    go_wp2_with (first
      | (go_at_call 15
         (with_reducible refine (newr_any _ mn tm hv wn idl wt).mono ?_)
         rintro e u1 ⟨rfl, k1⟩
         rw [hA, hB, hC, hW, hD, hE]
         have K1 := bel_t k1 (bel_one u1 (.cells #[.int .i64 A, .int .i64 B, .int .i64 C, .int .i64 W, .int .i64 D, .int .i64 E] 34)).out)
      | (go_at_call 16
         (with_reducible refine (ticks_any _ b0 b1 d0 d1 e0 e1 c0 hn).mono ?_)
         rintro e u2 ⟨rfl, k2⟩))
    go_ret2
    exact ⟨rfl, bel_t K1 k2.out⟩
  · go_enter Try.func13, Try.ntmps13
    go_wp2_with (first
      | (go_at_call 15
         (with_reducible refine (newr_any _ mn tm hv wn idl wt).mono ?_)
         rintro e u1 ⟨rfl, k1⟩
         rw [hA, hB, hC, hW, hD, hE]
         have K1 := bel_t k1 (bel_one u1 (.cells #[.int .i64 A, .int .i64 B, .int .i64 C, .int .i64 W, .int .i64 D, .int .i64 E] 34)).out)
      | (go_at_call 16
         (with_reducible refine (ticks_any _ b0 b1 d0 d1 e0 e1 c0 hn).mono ?_)
         rintro e u2 ⟨rfl, k2⟩))
    go_ret2
    exact ⟨rfl, bel_t K1 k2.out⟩
  · go_enter Try.func13, Try.ntmps13
    go_wp2_with (first
      | (go_at_call 15
         (with_reducible refine (newr_any _ mn tm hv wn idl wt).mono ?_)
         rintro e u1 ⟨rfl, k1⟩
         rw [hA, hB, hC, hW, hD, hE]
         have K1 := bel_t k1 (bel_one u1 (.cells #[.int .i64 A, .int .i64 B, .int .i64 C, .int .i64 W, .int .i64 D, .int .i64 E] 34)).out)
      | (go_at_call 16
         (with_reducible refine (ticks_any _ b0 b1 d0 d1 e0 e1 c0 hn).mono ?_)
         rintro e u2 ⟨rfl, k2⟩
         have B0 := box_below (Box.new u1 34 #[.int .i64 A, .int .i64 B, .int .i64 C, .int .i64 W, .int .i64 D, .int .i64 E]) k2.out
         have z0 := B0.cell 0
         have z1 := B0.cell 1
         have z2 := B0.cell 2
         have z3 := B0.cell 3
         have z4 := B0.cell 4
         have z5 := B0.cell 5)
      | (go_at_call 17
         (with_reducible refine (bytes_any _ hk).mono ?_)
         rintro e u3 ⟨rfl, k3⟩))
    go_ret2
    exact ⟨rfl, bel_t (bel_t K1 k2.out) k3.out⟩
end Go.Proofs.Ytoefcdefbfdngaa
