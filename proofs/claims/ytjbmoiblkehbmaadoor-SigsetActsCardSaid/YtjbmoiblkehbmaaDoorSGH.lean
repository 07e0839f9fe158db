import Derived.Test.YtjbmoiblkehbmaaDoorSGG
namespace Go.Proofs.YtjbmoiblkehbmaaDoor
namespace L18
open Go.RowKit

/-! Layer 18: what the document picks. -/
section
variable {w : World}
set_option maxRecDepth 100000 in
set_option maxHeartbeats 4000000 in
theorem rpick_any (w : World) {p m : Nat} (hp : Hid (U64 p)) (hm : Hid (U64 m)) {o : Option Int} (ho : Hid (pickS p m = o)) : Calls Tryd.prog 33 #[.int .u64 p, .int .u64 m] w fun e w' => e = .returned (optV o) ∧ Hid (Below w.heap.size w w') := by
  obtain ⟨v, hv⟩ : ∃ z, Hid (blockS m = z) := ⟨_, hid rfl⟩
  have HV : Hid (U64 v) := hid (by rw [← hv.out]; exact blockS_lt m)
  obtain ⟨l2, hl2⟩ : ∃ z, Hid (listS p = z) := ⟨_, hid rfl⟩
  have HO : Hid (([9, 19, 18] ++ l2).find? (fun g => hasS p g && !hasS v g) = o) := hid (by
    rw [← ho.out, ← hl2.out, ← hv.out]
    rfl)
  have hlen2 : Hid (l2.length ≤ 22) := hid (by rw [← hl2.out]; exact listS_len p)
  have O3 := lit_own3 w [9, 19, 18] 3 w.heap.size #[.int .i64 9, .int .i64 19, .int .i64 18] rfl rfl (by decide) rfl
  have B4 : Hid (Below w.heap.size w (w.alloc (.cells #[.int .i64 9, .int .i64 19, .int .i64 18] 3))) := bel_al (hid (Below.refl _ _))
  go_enter Tryd.func33, Tryd.ntmps33
  go_wp2_with (first
    | (go_at_call 23
       (with_reducible refine (rlist_any _ hp hl2).mono ?_)
       rintro e w5 ⟨A5, n5, c5, rfl, hn5, S5, B5⟩
       have B6 := bel_t B4 B5.out
       have O5 := hid ((Kept.of_below B5.out 0 []).own O3.out (by simp))
       have hz : w.heap.size ≤ w5.heap.size := B6.out.size
       have hm5 : n5 ≤ 22 := by have := hlen2.out; have := hn5.out; omega)
    | (refine app_int _ (by rfl) (.tmp 8) (.tmp 10) rfl _ 3 3 (some ⟨_, 0, none⟩) [9, 19, 18] rfl O5 hz A5 n5 c5 l2 rfl S5 hn5.out (by omega) ?_
       intro A7 c7 w7 O7 B7))
  obtain ⟨n7, hn7⟩ : ∃ z, Hid (3 + n5 = z) := ⟨_, hid rfl⟩
  have hle7 : n7 ≤ 25 := by rw [← hn7.out]; omega
  have e7 := hn7.out
  rw [e7] at O7
  have S7 := own_sli O7.out (by rw [← e7, ← hn5.out]; simp; omega)
  have hl7 : Hid (([9, 19, 18] ++ l2).length = n7) := hid (by rw [← e7, ← hn5.out]; simp; omega)
  have B8 := hid (B6.out.trans B7.out)
  obtain ⟨L, hL⟩ : ∃ z, Hid ([9, 19, 18] ++ l2 = z) := ⟨_, hid rfl⟩
  rw [hL.out] at S7 hl7 HO
  have e8 : ((3 : Int) + n5) = (n7 : Int) := by omega
  rw [e7, e8]
  clear e7 e8
  go_loopw [13] (fun i wr => ∃ k : Nat, k ≤ n7 ∧ i = .int .i64 k ∧ Hid (Below w7.heap.size w7 wr) ∧ Hid ((L.drop k).find? (fun g => hasS p g && !hasS v g) = o)) (fun i _ => n7 - (intOf i).toNat)
  case atStart => exact ⟨0, by omega, rfl, hid (Below.refl _ _), HO⟩
  case round =>
    obtain ⟨k, hk, rfl, HB, HR⟩ := hrel
    by_cases hlt : k < n7
    · have hi : (k : Int) < n7 := by omega
      obtain ⟨b, o9, y, rfl, _, hd, c1⟩ := sli_cell (sli_up S7 HB.out).out hl7.out hlt
      have HS := find_step (p := fun g => hasS p g && !hasS v g) hd
      clear hd
      cases hq : hasS p y
      · have HQ := hid hq
        rw [hq, Bool.false_and, if_neg (by decide)] at HS
        have HE : Hid ((L.drop (k + 1)).find? (fun g => hasS p g && !hasS v g) = o) := hid (by rw [← HS]; exact HR.out)
        clear HS hq
        go_wp2_with (first
          | (go_at_call 16
             (with_reducible refine (rhas_any _ hp HQ).mono ?_)
             rintro e w9 ⟨rfl, B9⟩
             have B10 := bel_t HB B9.out))
        go_roundw
        case rel => exact ⟨k + 1, by omega, by go_num, B10, HE⟩
        case measure => simp [intOf]; omega
      · have HQ := hid hq
        cases hq2 : hasS v y
        · have HQ2 := hid hq2
          rw [hq, hq2, Bool.not_false, Bool.true_and, if_pos rfl] at HS
          have HE : Hid (o = some y) := hid (by rw [← HS]; exact HR.out.symm)
          clear HS hq hq2
          go_wp2_with (first
            | (go_at_call 16
               (first
                | ((with_reducible refine (rhas_any _ hp HQ).mono ?_)
                   rintro e w9 ⟨rfl, B9⟩
                   have B10 := bel_t HB B9.out)
                | ((with_reducible refine (rhas_any _ HV HQ2).mono ?_)
                   rintro e w11 ⟨rfl, B12⟩
                   have B13 := bel_t B11 B12.out)))
            | (go_at_call 27
               (with_reducible refine (rblock_any _ hm hv).mono ?_)
               rintro e w10 ⟨rfl, B14⟩
               have B11 := bel_t B10 B14.out))
          go_ret2
          rw [HE.out]
          exact ⟨rfl, bel_t B8 B13.out⟩
        · have HQ2 := hid hq2
          rw [hq, hq2, Bool.not_true, Bool.and_false, if_neg (by decide)] at HS
          have HE : Hid ((L.drop (k + 1)).find? (fun g => hasS p g && !hasS v g) = o) := hid (by rw [← HS]; exact HR.out)
          clear HS hq hq2
          go_wp2_with (first
            | (go_at_call 16
               (first
                | ((with_reducible refine (rhas_any _ hp HQ).mono ?_)
                   rintro e w9 ⟨rfl, B9⟩
                   have B10 := bel_t HB B9.out)
                | ((with_reducible refine (rhas_any _ HV HQ2).mono ?_)
                   rintro e w11 ⟨rfl, B12⟩
                   have B13 := bel_t B11 B12.out)))
            | (go_at_call 27
               (with_reducible refine (rblock_any _ hm hv).mono ?_)
               rintro e w10 ⟨rfl, B14⟩
               have B11 := bel_t B10 B14.out))
          go_roundw
          case rel => exact ⟨k + 1, by omega, by go_num, B13, HE⟩
          case measure => simp [intOf]; omega
    · have hi : ¬ (k : Int) < n7 := by omega
      have HE : Hid (o = none) := hid (by rw [← HR.out, List.drop_of_length_le (by rw [hl7.out]; omega)]; rfl)
      go_wp2
      go_ret2
      rw [HE.out]
      exact ⟨rfl, bel_t B8 HB.out⟩
end
end L18
end Go.Proofs.YtjbmoiblkehbmaaDoor
