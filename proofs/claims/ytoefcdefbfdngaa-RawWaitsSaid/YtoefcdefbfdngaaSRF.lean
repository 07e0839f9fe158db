import Derived.Test.YtoefcdefbfdngaaSRE
namespace Go.Proofs.Ytoefcdefbfdngaa
open Go.RowKit

/-! Layer 14: RawWaits, the walk. -/
set_option maxRecDepth 100000 in
set_option maxHeartbeats 4000000 in
theorem rwaits_walk (w : World) (mn tm hv wn idl wt : Int) (h1 : i64ok mn) (h2 : i64ok tm) (h3 : i64ok hv) (h4 : i64ok wn) (h5 : i64ok idl) (h6 : i64ok wt) :
    Calls Try.prog 4 #[.agg #[.int .i64 mn, .int .i64 tm, .int .i64 hv, .int .i64 wn, .int .i64 idl, .int .i64 wt]] w fun e w' => e = .returned (.bool true) ∧ Hid (Below w.heap.size w w') := by
  have K0 : Hid (Below w.heap.size w (w.alloc (.cells #[.int .i64 mn, .int .i64 tm, .int .i64 hv, .int .i64 wn, .int .i64 idl, .int .i64 wt] 23))) := hid ((Below.refl _ w).alloc (Nat.le_refl _) _)
  have B0 : Hid (Box (w.alloc (.cells #[.int .i64 mn, .int .i64 tm, .int .i64 hv, .int .i64 wn, .int .i64 idl, .int .i64 wt] 23)) w.heap.size 23 #[.int .i64 mn, .int .i64 tm, .int .i64 hv, .int .i64 wn, .int .i64 idl, .int .i64 wt]) := hid (Box.new w 23 _)
  obtain ⟨n, b, hR⟩ : ∃ n b, Hid (readyI mn tm hv wn idl wt = (n, b)) := ⟨_, _, hid rfl⟩
  obtain ⟨m, c, hW⟩ : ∃ m c, Hid (waitI mn tm hv wn idl wt = (m, c)) := ⟨_, _, hid rfl⟩
  have hmf : ∀ (fn : Fn) (first cap : Array Value) (w : World), (Instr.makeFunc fn first cap).run Try.prog w = .ok (.func fn first cap) w := fun _ _ _ _ => rfl
  cases hfair : fairL [mn, tm, hv, wn, idl, wt]
  · go_enter Try.func4, Try.ntmps4
    go_wp2_with (first
    | (go_at_call 6
       (with_reducible refine (alive_any _).mono ?_)
       rintro e y1 ⟨rfl, k1⟩
       have K1 := bel_t K0 k1.out
       have B1 := box23 B0 k1.out
       have cB10 : y1.cell? ⟨w.heap.size, 0, none⟩ = some (.int .i64 mn) := by simpa using B1.out.cell 0
       have cB11 : y1.cell? ⟨w.heap.size, 1, none⟩ = some (.int .i64 tm) := by simpa using B1.out.cell 1
       have cB12 : y1.cell? ⟨w.heap.size, 2, none⟩ = some (.int .i64 hv) := by simpa using B1.out.cell 2
       have cB13 : y1.cell? ⟨w.heap.size, 3, none⟩ = some (.int .i64 wn) := by simpa using B1.out.cell 3
       have cB14 : y1.cell? ⟨w.heap.size, 4, none⟩ = some (.int .i64 idl) := by simpa using B1.out.cell 4
       have cB15 : y1.cell? ⟨w.heap.size, 5, none⟩ = some (.int .i64 wt) := by simpa using B1.out.cell 5)
    | (go_at_call 11
       (with_reducible refine (fair_b y1 mn tm hv wn idl wt hfair).mono ?_)
       rintro e y2 ⟨rfl, k2⟩
       have K2 := bel_t K1 k2.out
       have B2 := box23 B1 k2.out
       have cB20 : y2.cell? ⟨w.heap.size, 0, none⟩ = some (.int .i64 mn) := by simpa using B2.out.cell 0
       have cB21 : y2.cell? ⟨w.heap.size, 1, none⟩ = some (.int .i64 tm) := by simpa using B2.out.cell 1
       have cB22 : y2.cell? ⟨w.heap.size, 2, none⟩ = some (.int .i64 hv) := by simpa using B2.out.cell 2
       have cB23 : y2.cell? ⟨w.heap.size, 3, none⟩ = some (.int .i64 wn) := by simpa using B2.out.cell 3
       have cB24 : y2.cell? ⟨w.heap.size, 4, none⟩ = some (.int .i64 idl) := by simpa using B2.out.cell 4
       have cB25 : y2.cell? ⟨w.heap.size, 5, none⟩ = some (.int .i64 wt) := by simpa using B2.out.cell 5))
    go_ret
    exact ⟨rfl, K2⟩
  have hf := fair_all hfair
  have f1 := hf mn (by simp)
  have f2 := hf tm (by simp)
  have f3 := hf hv (by simp)
  have f5 := hf idl (by simp)
  have f6 := hf wt (by simp)
  clear hf
  cases b
  · cases c
    · obtain ⟨rfl, hnv⟩ := wait_never f1.1 f2.1 f3.1 f5.1 f6.1 hR.out hW.out
      have d1 := hid (hnv 1 (by decide))
      have d2 := hid (hnv 1073741824 (by decide))
      have q1 : (0 : Int) ≤ 1 ∧ (1 : Int) ≤ 1073741824 := by decide
      have q2 : (0 : Int) ≤ 1073741824 ∧ (1073741824 : Int) ≤ 1073741824 := by decide
      clear hnv
      go_enter Try.func4, Try.ntmps4
      go_wp2_with (first
    | (go_at_call 6
       (with_reducible refine (alive_any _).mono ?_)
       rintro e y1 ⟨rfl, k1⟩
       have K1 := bel_t K0 k1.out
       have B1 := box23 B0 k1.out
       have cB10 : y1.cell? ⟨w.heap.size, 0, none⟩ = some (.int .i64 mn) := by simpa using B1.out.cell 0
       have cB11 : y1.cell? ⟨w.heap.size, 1, none⟩ = some (.int .i64 tm) := by simpa using B1.out.cell 1
       have cB12 : y1.cell? ⟨w.heap.size, 2, none⟩ = some (.int .i64 hv) := by simpa using B1.out.cell 2
       have cB13 : y1.cell? ⟨w.heap.size, 3, none⟩ = some (.int .i64 wn) := by simpa using B1.out.cell 3
       have cB14 : y1.cell? ⟨w.heap.size, 4, none⟩ = some (.int .i64 idl) := by simpa using B1.out.cell 4
       have cB15 : y1.cell? ⟨w.heap.size, 5, none⟩ = some (.int .i64 wt) := by simpa using B1.out.cell 5)
    | (go_at_call 11
       (with_reducible refine (fair_b y1 mn tm hv wn idl wt hfair).mono ?_)
       rintro e y2 ⟨rfl, k2⟩
       have K2 := bel_t K1 k2.out
       have B2 := box23 B1 k2.out
       have cB20 : y2.cell? ⟨w.heap.size, 0, none⟩ = some (.int .i64 mn) := by simpa using B2.out.cell 0
       have cB21 : y2.cell? ⟨w.heap.size, 1, none⟩ = some (.int .i64 tm) := by simpa using B2.out.cell 1
       have cB22 : y2.cell? ⟨w.heap.size, 2, none⟩ = some (.int .i64 hv) := by simpa using B2.out.cell 2
       have cB23 : y2.cell? ⟨w.heap.size, 3, none⟩ = some (.int .i64 wn) := by simpa using B2.out.cell 3
       have cB24 : y2.cell? ⟨w.heap.size, 4, none⟩ = some (.int .i64 idl) := by simpa using B2.out.cell 4
       have cB25 : y2.cell? ⟨w.heap.size, 5, none⟩ = some (.int .i64 wt) := by simpa using B2.out.cell 5)
    | (go_at_call 9
       (with_reducible refine (wait_any y2 h1 h2 h3 h4 h5 h6 hW).mono ?_)
       rintro e y3 ⟨rfl, k3⟩
       have K3 := bel_t K2 k3.out
       have B3 := box23 B2 k3.out
       have cB30 : y3.cell? ⟨w.heap.size, 0, none⟩ = some (.int .i64 mn) := by simpa using B3.out.cell 0
       have cB31 : y3.cell? ⟨w.heap.size, 1, none⟩ = some (.int .i64 tm) := by simpa using B3.out.cell 1
       have cB32 : y3.cell? ⟨w.heap.size, 2, none⟩ = some (.int .i64 hv) := by simpa using B3.out.cell 2
       have cB33 : y3.cell? ⟨w.heap.size, 3, none⟩ = some (.int .i64 wn) := by simpa using B3.out.cell 3
       have cB34 : y3.cell? ⟨w.heap.size, 4, none⟩ = some (.int .i64 idl) := by simpa using B3.out.cell 4
       have cB35 : y3.cell? ⟨w.heap.size, 5, none⟩ = some (.int .i64 wt) := by simpa using B3.out.cell 5)
    | (go_at_call 7
       (with_reducible refine (ready_any y3 h1 h2 h3 h4 h5 h6 hR).mono ?_)
       rintro e y4 ⟨rfl, k4⟩
       have K4 := bel_t K3 k4.out
       have B4 := box23 B3 k4.out
       have cB40 : y4.cell? ⟨w.heap.size, 0, none⟩ = some (.int .i64 mn) := by simpa using B4.out.cell 0
       have cB41 : y4.cell? ⟨w.heap.size, 1, none⟩ = some (.int .i64 tm) := by simpa using B4.out.cell 1
       have cB42 : y4.cell? ⟨w.heap.size, 2, none⟩ = some (.int .i64 hv) := by simpa using B4.out.cell 2
       have cB43 : y4.cell? ⟨w.heap.size, 3, none⟩ = some (.int .i64 wn) := by simpa using B4.out.cell 3
       have cB44 : y4.cell? ⟨w.heap.size, 4, none⟩ = some (.int .i64 idl) := by simpa using B4.out.cell 4
       have cB45 : y4.cell? ⟨w.heap.size, 5, none⟩ = some (.int .i64 wt) := by simpa using B4.out.cell 5)
    | (go_at_call 12
       (first
         | ((with_reducible refine (later_any y4 (k := 1) B4 h1 h2 h3 h4 f5 f6 q1 d1).mono ?_)
            rintro e y5 ⟨rfl, k5⟩
            have K5 := bel_t K4 k5.out
            have B5 := box23 B4 k5.out)
         | ((with_reducible refine (later_any y5 (k := 1073741824) B5 h1 h2 h3 h4 f5 f6 q2 d2).mono ?_)
            rintro e y6 ⟨rfl, k6⟩
            have K6 := bel_t K5 k6.out
            have B6 := box23 B5 k6.out))))
      go_ret
      exact ⟨rfl, K6⟩
    · obtain ⟨hm, hm2, d1, d2⟩ := wait_some f1.1 f2.1 f3.1 f5.1 f6.1 hR.out hW.out
      have d1 := hid d1
      have d2 := hid d2
      have q1 : 0 ≤ m ∧ m ≤ 1073741824 := ⟨by omega, by omega⟩
      have q2 : 0 ≤ m - 1 ∧ m - 1 ≤ 1073741824 := ⟨by omega, by omega⟩
      have hwm : IntKind.i64.wrap (m - 1) = m - 1 := by rw [IntKind.wrap_i64]; omega
      go_enter Try.func4, Try.ntmps4
      go_wp2_with (first
    | (go_at_call 6
       (with_reducible refine (alive_any _).mono ?_)
       rintro e y1 ⟨rfl, k1⟩
       have K1 := bel_t K0 k1.out
       have B1 := box23 B0 k1.out
       have cB10 : y1.cell? ⟨w.heap.size, 0, none⟩ = some (.int .i64 mn) := by simpa using B1.out.cell 0
       have cB11 : y1.cell? ⟨w.heap.size, 1, none⟩ = some (.int .i64 tm) := by simpa using B1.out.cell 1
       have cB12 : y1.cell? ⟨w.heap.size, 2, none⟩ = some (.int .i64 hv) := by simpa using B1.out.cell 2
       have cB13 : y1.cell? ⟨w.heap.size, 3, none⟩ = some (.int .i64 wn) := by simpa using B1.out.cell 3
       have cB14 : y1.cell? ⟨w.heap.size, 4, none⟩ = some (.int .i64 idl) := by simpa using B1.out.cell 4
       have cB15 : y1.cell? ⟨w.heap.size, 5, none⟩ = some (.int .i64 wt) := by simpa using B1.out.cell 5)
    | (go_at_call 11
       (with_reducible refine (fair_b y1 mn tm hv wn idl wt hfair).mono ?_)
       rintro e y2 ⟨rfl, k2⟩
       have K2 := bel_t K1 k2.out
       have B2 := box23 B1 k2.out
       have cB20 : y2.cell? ⟨w.heap.size, 0, none⟩ = some (.int .i64 mn) := by simpa using B2.out.cell 0
       have cB21 : y2.cell? ⟨w.heap.size, 1, none⟩ = some (.int .i64 tm) := by simpa using B2.out.cell 1
       have cB22 : y2.cell? ⟨w.heap.size, 2, none⟩ = some (.int .i64 hv) := by simpa using B2.out.cell 2
       have cB23 : y2.cell? ⟨w.heap.size, 3, none⟩ = some (.int .i64 wn) := by simpa using B2.out.cell 3
       have cB24 : y2.cell? ⟨w.heap.size, 4, none⟩ = some (.int .i64 idl) := by simpa using B2.out.cell 4
       have cB25 : y2.cell? ⟨w.heap.size, 5, none⟩ = some (.int .i64 wt) := by simpa using B2.out.cell 5)
    | (go_at_call 9
       (with_reducible refine (wait_any y2 h1 h2 h3 h4 h5 h6 hW).mono ?_)
       rintro e y3 ⟨rfl, k3⟩
       have K3 := bel_t K2 k3.out
       have B3 := box23 B2 k3.out
       have cB30 : y3.cell? ⟨w.heap.size, 0, none⟩ = some (.int .i64 mn) := by simpa using B3.out.cell 0
       have cB31 : y3.cell? ⟨w.heap.size, 1, none⟩ = some (.int .i64 tm) := by simpa using B3.out.cell 1
       have cB32 : y3.cell? ⟨w.heap.size, 2, none⟩ = some (.int .i64 hv) := by simpa using B3.out.cell 2
       have cB33 : y3.cell? ⟨w.heap.size, 3, none⟩ = some (.int .i64 wn) := by simpa using B3.out.cell 3
       have cB34 : y3.cell? ⟨w.heap.size, 4, none⟩ = some (.int .i64 idl) := by simpa using B3.out.cell 4
       have cB35 : y3.cell? ⟨w.heap.size, 5, none⟩ = some (.int .i64 wt) := by simpa using B3.out.cell 5)
    | (go_at_call 7
       (with_reducible refine (ready_any y3 h1 h2 h3 h4 h5 h6 hR).mono ?_)
       rintro e y4 ⟨rfl, k4⟩
       have K4 := bel_t K3 k4.out
       have B4 := box23 B3 k4.out
       have cB40 : y4.cell? ⟨w.heap.size, 0, none⟩ = some (.int .i64 mn) := by simpa using B4.out.cell 0
       have cB41 : y4.cell? ⟨w.heap.size, 1, none⟩ = some (.int .i64 tm) := by simpa using B4.out.cell 1
       have cB42 : y4.cell? ⟨w.heap.size, 2, none⟩ = some (.int .i64 hv) := by simpa using B4.out.cell 2
       have cB43 : y4.cell? ⟨w.heap.size, 3, none⟩ = some (.int .i64 wn) := by simpa using B4.out.cell 3
       have cB44 : y4.cell? ⟨w.heap.size, 4, none⟩ = some (.int .i64 idl) := by simpa using B4.out.cell 4
       have cB45 : y4.cell? ⟨w.heap.size, 5, none⟩ = some (.int .i64 wt) := by simpa using B4.out.cell 5)
    | (go_at_call 12
       (first
         | ((with_reducible refine (later_any y4 (k := m) B4 h1 h2 h3 h4 f5 f6 q1 d1).mono ?_)
            rintro e y5 ⟨rfl, k5⟩
            have K5 := bel_t K4 k5.out
            have B5 := box23 B4 k5.out)
         | ((with_reducible refine (later_any y5 (k := m - 1) B5 h1 h2 h3 h4 f5 f6 q2 d2).mono ?_)
            rintro e y6 ⟨rfl, k6⟩
            have K6 := bel_t K5 k6.out
            have B6 := box23 B5 k6.out))))
      go_ret
      exact ⟨rfl, K6⟩
  · obtain ⟨rfl, rfl⟩ := wait_done hR.out hW.out
    go_enter Try.func4, Try.ntmps4
    go_wp2_with (first
    | (go_at_call 6
       (with_reducible refine (alive_any _).mono ?_)
       rintro e y1 ⟨rfl, k1⟩
       have K1 := bel_t K0 k1.out
       have B1 := box23 B0 k1.out
       have cB10 : y1.cell? ⟨w.heap.size, 0, none⟩ = some (.int .i64 mn) := by simpa using B1.out.cell 0
       have cB11 : y1.cell? ⟨w.heap.size, 1, none⟩ = some (.int .i64 tm) := by simpa using B1.out.cell 1
       have cB12 : y1.cell? ⟨w.heap.size, 2, none⟩ = some (.int .i64 hv) := by simpa using B1.out.cell 2
       have cB13 : y1.cell? ⟨w.heap.size, 3, none⟩ = some (.int .i64 wn) := by simpa using B1.out.cell 3
       have cB14 : y1.cell? ⟨w.heap.size, 4, none⟩ = some (.int .i64 idl) := by simpa using B1.out.cell 4
       have cB15 : y1.cell? ⟨w.heap.size, 5, none⟩ = some (.int .i64 wt) := by simpa using B1.out.cell 5)
    | (go_at_call 11
       (with_reducible refine (fair_b y1 mn tm hv wn idl wt hfair).mono ?_)
       rintro e y2 ⟨rfl, k2⟩
       have K2 := bel_t K1 k2.out
       have B2 := box23 B1 k2.out
       have cB20 : y2.cell? ⟨w.heap.size, 0, none⟩ = some (.int .i64 mn) := by simpa using B2.out.cell 0
       have cB21 : y2.cell? ⟨w.heap.size, 1, none⟩ = some (.int .i64 tm) := by simpa using B2.out.cell 1
       have cB22 : y2.cell? ⟨w.heap.size, 2, none⟩ = some (.int .i64 hv) := by simpa using B2.out.cell 2
       have cB23 : y2.cell? ⟨w.heap.size, 3, none⟩ = some (.int .i64 wn) := by simpa using B2.out.cell 3
       have cB24 : y2.cell? ⟨w.heap.size, 4, none⟩ = some (.int .i64 idl) := by simpa using B2.out.cell 4
       have cB25 : y2.cell? ⟨w.heap.size, 5, none⟩ = some (.int .i64 wt) := by simpa using B2.out.cell 5)
    | (go_at_call 9
       (with_reducible refine (wait_any y2 h1 h2 h3 h4 h5 h6 hW).mono ?_)
       rintro e y3 ⟨rfl, k3⟩
       have K3 := bel_t K2 k3.out
       have B3 := box23 B2 k3.out
       have cB30 : y3.cell? ⟨w.heap.size, 0, none⟩ = some (.int .i64 mn) := by simpa using B3.out.cell 0
       have cB31 : y3.cell? ⟨w.heap.size, 1, none⟩ = some (.int .i64 tm) := by simpa using B3.out.cell 1
       have cB32 : y3.cell? ⟨w.heap.size, 2, none⟩ = some (.int .i64 hv) := by simpa using B3.out.cell 2
       have cB33 : y3.cell? ⟨w.heap.size, 3, none⟩ = some (.int .i64 wn) := by simpa using B3.out.cell 3
       have cB34 : y3.cell? ⟨w.heap.size, 4, none⟩ = some (.int .i64 idl) := by simpa using B3.out.cell 4
       have cB35 : y3.cell? ⟨w.heap.size, 5, none⟩ = some (.int .i64 wt) := by simpa using B3.out.cell 5)
    | (go_at_call 7
       (with_reducible refine (ready_any y3 h1 h2 h3 h4 h5 h6 hR).mono ?_)
       rintro e y4 ⟨rfl, k4⟩
       have K4 := bel_t K3 k4.out
       have B4 := box23 B3 k4.out
       have cB40 : y4.cell? ⟨w.heap.size, 0, none⟩ = some (.int .i64 mn) := by simpa using B4.out.cell 0
       have cB41 : y4.cell? ⟨w.heap.size, 1, none⟩ = some (.int .i64 tm) := by simpa using B4.out.cell 1
       have cB42 : y4.cell? ⟨w.heap.size, 2, none⟩ = some (.int .i64 hv) := by simpa using B4.out.cell 2
       have cB43 : y4.cell? ⟨w.heap.size, 3, none⟩ = some (.int .i64 wn) := by simpa using B4.out.cell 3
       have cB44 : y4.cell? ⟨w.heap.size, 4, none⟩ = some (.int .i64 idl) := by simpa using B4.out.cell 4
       have cB45 : y4.cell? ⟨w.heap.size, 5, none⟩ = some (.int .i64 wt) := by simpa using B4.out.cell 5))
    go_ret
    exact ⟨rfl, K4⟩
end Go.Proofs.Ytoefcdefbfdngaa
