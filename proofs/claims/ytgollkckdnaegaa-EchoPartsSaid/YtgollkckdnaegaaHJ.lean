import Derived.Test.YtgollkckdnaegaaHI
namespace Go.Proofs.Ytgollkckdnaegaa
open Go.RowKit

/-- A call has answered these bytes in a slice with no room behind them. -/
def Full (w : World) (bs : List UInt8) (e : Ending) (w' : World) : Prop := ∃ p n, e = .returned (.slice (some p) n n) ∧ Hid (bs.length = n) ∧ Hid (SlB w' w'.heap.size (some p) n bs) ∧ Hid (Below w.heap.size w w')
set_option maxRecDepth 100000 in
set_option maxHeartbeats 4000000 in
theorem repeat_any (w : World) (p : Addr) (c n : Nat) (hb : Hid (SlB w w.heap.size (some p) c [8, 32, 8])) (hn : n ≤ 300000) :
    Calls Try.prog 30 #[.slice (some p) 3 c, .int .i64 (n : Int)] w (Full w (offB n)) := by
  by_cases h0 : n = 0
  · subst h0
    go_enter Try.func30, Try.ntmps30
    go_wp2
    go_ret
    exact ⟨_, 0, rfl, hid rfl, hid (slb_lit w [] 0 #[] rfl rfl (by decide)), hid ((Below.refl _ w).alloc (Nat.le_refl _) _)⟩
  · obtain ⟨T, hT⟩ : ∃ T, 3 * n = T := ⟨_, rfl⟩
    have hTi : 3 * (n : Int) = (T : Int) := by omega
    have hmul := fun w => mul_any w n (by omega)
    rw [hTi] at hmul
    obtain ⟨D, hD1, hDn, hD⟩ : ∃ D, 1 ≤ D ∧ D ≤ n ∧ (¬ 8192 < T ∧ n = D ∨ 8192 < T ∧ D = 2730) := by
      by_cases h8 : 8192 < T
      · exact ⟨2730, by omega, by omega, Or.inr ⟨h8, rfl⟩⟩
      · exact ⟨n, by omega, by omega, Or.inl ⟨h8, rfl⟩⟩
    obtain ⟨cm, hcm⟩ : ∃ cm, 3 * D = cm := ⟨_, rfl⟩
    obtain ⟨cs, hrunM, hle, _⟩ := Lib.run_makeNoZero (P := Try.prog) w #[3] 27 5 Try.underlying27 T (by omega)
    have hcall : (callFunc 41 #[.int .i64 (T : Int)]).run Try.prog w = .ok (.value (.slice (some ⟨w.heap.size, 0, none⟩) T cs.size)) ((w.alloc (.cells cs 5)).drewN 2) := by
      rw [run_callFunc_extern Try.func41 (by kernel_rfl) (by kernel_rfl) (by kernel_rfl) (e := Extern.BytealgMakeNoZero.makeNoZero #[3] #[27]) (by kernel_rfl), hrunM]
      rfl
    clear hrunM
    have B0 := Lib.Buf.start w cs 5 T 2 hle
    obtain ⟨w1, hr1, B1⟩ := Lib.copy_part (P := Try.prog) w _ w.heap.size T [] [8, 32, 8] (.slice (some p) 3 c) 27 3 5 Try.underlying27 Try.info5s (Nat.le_refl _) B0 (slb_holds hb.out) (by show 0 + 3 ≤ T; omega)
    rw [List.length_nil, Lib.tailV_zero] at hr1
    have HB1 : Hid (Lib.Buf w w1 w.heap.size T (offB 1)) := hid B1
    clear B1 B0
    have t0 : (0 : Int) ≤ (T : Int) := by omega
    have t1 : (T : Int) ≤ (cs.size : Int) := by omega
    have t2 : ¬ ((9223372036854775807 : Int) < (T : Int)) := by omega
    have n0 : ((n : Int) == 0) = false := beq_eq_false_iff_ne.2 (by omega)
    have n1 : ¬ ((n : Int) < 0) := by omega
    rcases hD with ⟨h8, hDe⟩ | ⟨h8, hDe⟩
    · have k8 : ¬ ((8192 : Int) < (T : Int)) := by omega
      obtain rfl : T = cm := by omega
      subst hDe
      go_enter Try.func30, Try.ntmps30
      go_wp2_with (first
        | (go_at_call 40
           (with_reducible refine (hmul _).mono ?_)
           rintro e u1 ⟨rfl, hu⟩
           rw [hu]))
      clear hu u1 hmul hcall hr1
      go_loopw [10] (fun s10 wr => ∃ j bp : Nat, 1 ≤ j ∧ j ≤ n ∧ 3 * j ≤ bp ∧ bp ≤ 3 * j ∧ s10 = .int .i64 (bp : Int) ∧ Hid (Lib.Buf w wr w.heap.size T (offB j))) (fun s10 _ => T - (intOf s10).toNat)
      case atStart => exact ⟨1, 3, Nat.le_refl _, by omega, by omega, by omega, rfl, HB1⟩
      case round =>
        obtain ⟨j, bp, hj1, hjn, hbp1, hbp2, rfl, HB⟩ := hrel
        by_cases hlt : j < n
        · obtain ⟨m, mj, hm1, hm2, hmj, hmj2, hmin, hcs⟩ : ∃ m mj : Nat, m ≤ 3 * mj ∧ 3 * mj ≤ m ∧ 1 ≤ mj ∧ mj ≤ j ∧ min (bp : Int) (T : Int) = (m : Int) ∧ (bp ≤ T ∨ ¬ bp ≤ T) := by
            by_cases hle : bp ≤ T
            · exact ⟨bp, j, hbp2, hbp1, hj1, Nat.le_refl _, by omega, Or.inl hle⟩
            · exact ⟨T, n, by omega, by omega, by omega, by omega, by omega, Or.inr hle⟩
          obtain ⟨q, hq⟩ : ∃ q, q = min mj (n - j) := ⟨_, rfl⟩
          have hq1 : q ≤ mj := by omega
          have hq2 : q ≤ n - j := by omega
          have hq4 : 1 ≤ q := by omega
          have hbl : (offB j).length = bp := by rw [offB_len]; omega
          obtain ⟨w2, hr2, B2⟩ := copy_self w wr.drew w.heap.size T (offB j) m (3 * q) T (buf_drew HB.out) (by omega) (by rw [hbl]; show 3 * q = min m (T - bp); omega) (by omega)
          rw [offB_more (by omega)] at B2
          rw [hbl] at hr2
          obtain ⟨k, hk⟩ : ∃ k, 3 * q = k := ⟨_, rfl⟩
          rw [hk] at hr2
          have hk1 : 3 * q ≤ k := by omega
          have hk2 : k ≤ 3 * q := by omega
          have HB2 := hid B2
          have sl1 : ∀ W, (Instr.slice 27 (.slice (some ⟨w.heap.size, 0, none⟩) T T) (some (.int .i64 (bp : Int))) none none).run Try.prog W = .ok (Lib.tailV w.heap.size T bp) W := fun W => Lib.run_slice_tailV W 27 5 Try.underlying27 (fun w => by kernel_rfl) w.heap.size T bp (by omega)
          have hmT : (m : Int) ≤ (T : Int) := by omega
          have hbT : (bp : Int) < (T : Int) := by omega
          have hbT2 : (bp : Int) ≤ (T : Int) := by omega
          have hkk : j + q ≤ n := by omega
          clear B2 hq hk hbl
          rcases hcs with hle | hle
          all_goals
            go_wp2
            go_region
            go_wp2
            go_roundw
            case rel => exact ⟨j + q, bp + k, by omega, by omega, by omega, by omega, by go_num, HB2⟩
            case measure => simp [intOf] <;> omega
        · obtain rfl : j = n := by omega
          obtain rfl : bp = T := by omega
          clear hT
          go_wp2
          go_ret
          have hfull : (offB j).length = bp := by rw [offB_len]; omega
          exact ⟨⟨w.heap.size, 0, none⟩, bp, rfl, hid hfull, hid (buf_slb HB.out hfull (by unfold maxLen; omega)), hid HB.out.below⟩
    · have k8 : ((8192 : Int) < (T : Int)) := by omega
      subst hDe
      obtain rfl : 8190 = cm := by omega
      go_enter Try.func30, Try.ntmps30
      go_wp2_with (first
        | (go_at_call 40
           (with_reducible refine (hmul _).mono ?_)
           rintro e u1 ⟨rfl, hu⟩
           rw [hu]))
      clear hu u1 hmul hcall hr1
      go_loopw [10] (fun s10 wr => ∃ j bp : Nat, 1 ≤ j ∧ j ≤ n ∧ 3 * j ≤ bp ∧ bp ≤ 3 * j ∧ s10 = .int .i64 (bp : Int) ∧ Hid (Lib.Buf w wr w.heap.size T (offB j))) (fun s10 _ => T - (intOf s10).toNat)
      case atStart => exact ⟨1, 3, Nat.le_refl _, by omega, by omega, by omega, rfl, HB1⟩
      case round =>
        obtain ⟨j, bp, hj1, hjn, hbp1, hbp2, rfl, HB⟩ := hrel
        by_cases hlt : j < n
        · obtain ⟨m, mj, hm1, hm2, hmj, hmj2, hmin, hcs⟩ : ∃ m mj : Nat, m ≤ 3 * mj ∧ 3 * mj ≤ m ∧ 1 ≤ mj ∧ mj ≤ j ∧ min (bp : Int) (8190 : Int) = (m : Int) ∧ (bp ≤ 8190 ∨ ¬ bp ≤ 8190) := by
            by_cases hle : bp ≤ 8190
            · exact ⟨bp, j, hbp2, hbp1, hj1, Nat.le_refl _, by omega, Or.inl hle⟩
            · exact ⟨8190, 2730, by omega, by omega, by omega, by omega, by omega, Or.inr hle⟩
          obtain ⟨q, hq⟩ : ∃ q, q = min mj (n - j) := ⟨_, rfl⟩
          have hq1 : q ≤ mj := by omega
          have hq2 : q ≤ n - j := by omega
          have hq4 : 1 ≤ q := by omega
          have hbl : (offB j).length = bp := by rw [offB_len]; omega
          obtain ⟨w2, hr2, B2⟩ := copy_self w wr.drew w.heap.size T (offB j) m (3 * q) T (buf_drew HB.out) (by omega) (by rw [hbl]; show 3 * q = min m (T - bp); omega) (by omega)
          rw [offB_more (by omega)] at B2
          rw [hbl] at hr2
          obtain ⟨k, hk⟩ : ∃ k, 3 * q = k := ⟨_, rfl⟩
          rw [hk] at hr2
          have hk1 : 3 * q ≤ k := by omega
          have hk2 : k ≤ 3 * q := by omega
          have HB2 := hid B2
          have sl1 : ∀ W, (Instr.slice 27 (.slice (some ⟨w.heap.size, 0, none⟩) T T) (some (.int .i64 (bp : Int))) none none).run Try.prog W = .ok (Lib.tailV w.heap.size T bp) W := fun W => Lib.run_slice_tailV W 27 5 Try.underlying27 (fun w => by kernel_rfl) w.heap.size T bp (by omega)
          have hmT : (m : Int) ≤ (T : Int) := by omega
          have hbT : (bp : Int) < (T : Int) := by omega
          have hbT2 : (bp : Int) ≤ (T : Int) := by omega
          have hkk : j + q ≤ n := by omega
          clear B2 hq hk hbl
          rcases hcs with hle | hle
          all_goals
            go_wp2
            go_region
            go_wp2
            go_roundw
            case rel => exact ⟨j + q, bp + k, by omega, by omega, by omega, by omega, by go_num, HB2⟩
            case measure => simp [intOf] <;> omega
        · obtain rfl : j = n := by omega
          obtain rfl : bp = T := by omega
          clear hT
          go_wp2
          go_ret
          have hfull : (offB j).length = bp := by rw [offB_len]; omega
          exact ⟨⟨w.heap.size, 0, none⟩, bp, rfl, hid hfull, hid (buf_slb HB.out hfull (by unfold maxLen; omega)), hid HB.out.below⟩
end Go.Proofs.Ytgollkckdnaegaa
