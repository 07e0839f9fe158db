import Derived.Test.YtpfcjcldokghbaaNK
namespace Go.Proofs.Ytpfcjcldokghbaa
open Go.RowKit

theorem rem_ev {R : Nat} (h : R % 2 = 0) : ((R : Int).tmod 2 == 1) = false := by
  rw [Int.tmod_eq_emod_of_nonneg (by omega)]
  simp
  omega
theorem rem_od {R : Nat} (h : R % 2 = 1) : (R : Int).tmod 2 = 1 := by
  rw [Int.tmod_eq_emod_of_nonneg (by omega)]
  omega
set_option maxRecDepth 100000 in
set_option maxHeartbeats 8000000 in
theorem plain_walk (w : World) (t : Tm) (ht : t.Ok) (A : Option Addr) (c n : Nat) (bs : List UInt8) (hb : Hid (SlB w w.heap.size A c bs)) (hn : bs.length = n) :
    Calls Try.prog 5 #[.agg t.cs, .slice A n c] w fun e w' => e = .returned (.bool true) ∧ Hid (Below w.heap.size w w') := by
  have hs := cs_size ht.len
  have K0 : Hid (Below w.heap.size w (w.alloc (.cells t.cs 26))) := hid ((Below.refl _ w).alloc (Nat.le_refl _) _)
  by_cases h1 : 10000 < n
  · have k1 : (10000 : Int) < (n : Int) := by omega
    go_enter Try.func5, Try.ntmps5
    go_wp2_with (first
      | (refine bx26 (by rfl) _ (by rfl) _ (by rfl) hs ?_
         intro G0)
      | (go_at_call 7
         (with_reducible refine (call_alive _).mono ?_)
         rintro e u1 ⟨rfl, k⟩
         have K1 := bel_t K0 k.out
         clear k G0 K0))
    go_ret
    exact ⟨rfl, K1⟩
  · have k1 : ¬ (10000 : Int) < (n : Int) := by omega
    have hm : n ≤ 20000 := by omega
    go_enter Try.func5, Try.ntmps5
    go_wp2_with (first
      | (refine bx26 (by rfl) _ (by rfl) _ (by rfl) hs ?_
         intro G0)
      | (go_at_call 7
         (with_reducible refine (call_alive _).mono ?_)
         rintro e u1 ⟨rfl, k⟩
         have G1 := hid (box_below G0.out k.out)
         have K1 := bel_t K0 k.out
         clear k G0 K0)
      | (refine ld26 (by rfl) _ (by rfl) _ (by rfl) t.cs G1.out hs ?_)
      | (refine sn26 (by rfl) _ _ (by rfl) u1 _ rfl rfl (by rfl) t ht.len (by rfl) ?_
         intro u2 X2 k2
         have K2 := bel_t K1 k2.out
         have G2 := hid (box_below G1.out k2.out)
         have HG := hid (show w.heap.size < u1.heap.size from G1.out.lt)
         clear k2 G1)
      | (refine wpList_build_at rfl 37 _ rfl #[.int .i64 33, .int .i64 37, .int .i64 35, .int .i64 36, .int .i64 34, .int .i64 31, .int .i64 59] ?hc ?_
         case hc => kernel_rfl))
    generalize u1.heap.size = g at X2 HG ⊢
    clear K1 u1
    go_loopw [19] (fun i wr => ∃ j : Nat, j ≤ 7 ∧ i = .int .i64 (j : Int) ∧ Hid (Box wr g 26 (offT t j).cs) ∧ Hid (Box wr w.heap.size 26 t.cs) ∧ Hid (Below w.heap.size w wr)) (fun i _ => (7 - intOf i).toNat)
    case atStart => exact ⟨0, by omega, rfl, X2, G2, K2⟩
    case round =>
      obtain ⟨j, hj, rfl, X3, G3, K3⟩ := hrel
      clear X2 G2 K2 u2
      have hjs : (offT t j).cs.size = 24 := cs_size (offT_ok ht j).len
      by_cases hlt : j < 7
      · have hix := index_off j hlt
        go_wp2_with (first
          | (refine ld26 (by rfl) _ (by rfl) _ (by rfl) (offT t j).cs X3.out hjs ?_)
          | (go_at_call 17
             (with_reducible refine (set_any _ (offT t j) (offT_ok ht j) (opP j) false).mono ?_)
             rintro e u4 ⟨rfl, k⟩
             have X4 := hid (box_below X3.out k.out)
             have G4 := hid (box_below G3.out k.out)
             have K4 := bel_t K3 k.out
             clear k X3 G3 K3)
          | (refine st26 (by rfl) _ _ (by rfl) _ (by rfl) (offT t (j + 1)) (offT_ok ht (j + 1)).len (by rfl) _ X4.out hjs ?_
             intro u5 X5 k5
             have G5 := hid (k5.out.box G4.out (by have := HG.out; omega))
             have K5 := hid (K4.out.trans (k5.out.below (by have := HG.out; omega)))
             clear k5 X4 G4 K4))
        go_roundw
        case rel => exact ⟨j + 1, by omega, by go_num, X5, G5, K5⟩
        case measure => simp [intOf]; omega
      · obtain rfl : j = 7 := by omega
        clear hlt
        have L3 := slb_at hb K3
        have hp := map_off ht bs
        obtain ⟨l, hl⟩ : ∃ l, mapB t bs = l := ⟨_, rfl⟩
        have HM := hid hl
        have hll := map_len t bs
        rw [hl] at hll
        clear hl
        go_wp2_with (first
          | (refine ld26 (by rfl) _ (by rfl) _ (by rfl) (offT t 7).cs X3.out hjs ?_)
          | (refine ld26 (by rfl) _ (by rfl) _ (by rfl) t.cs G5.out hs ?_)
          | (go_at_call 15
             (first
               | ((with_reducible refine (map_any _ (offT t 7) (offT_ok ht 7) A n c bs L3 hn hm).mono ?_)
                  rw [hp]
                  rintro e u4 ⟨A4, n4, c4, rfl, hn4, L4, k⟩
                  have G4 := hid (box_below G3.out k.out)
                  have K4 := bel_t K3 k.out
                  have L34 := slb_at L3 k
                  clear k X3 G3 K3 L3)
               | ((with_reducible refine (map_any _ t ht A n c bs L5 hn hm).mono ?_)
                  rw [HM.out]
                  rintro e u6 ⟨A6, m, c6, rfl, hm6, L6, k⟩
                  have G6 := hid (box_below G5.out k.out)
                  have K6 := bel_t K5 k.out
                  clear k G5 K5 L5)))
          | (go_at_call 12
             (with_reducible refine (bytes_two _ A4 A c4 c n4 n bs bs hn4.out hn (Eq.refl bs) L4 L34 (by have := hn4.out; unfold maxLen; omega)).mono ?_)
             rintro e u5 ⟨rfl, k⟩
             have G5 := hid (box_below G4.out k.out)
             have K5 := bel_t K4 k.out
             have L5 := slb_at L34 k
             clear k G4 K4 L34 L4))
        clear hp hjs hj
        have hm6' := hm6.out
        go_loopw [9, 37] (fun r i wr => ∃ j R : Nat, j ≤ m ∧ i = .int .i64 (j : Int) ∧ r = .int .i64 (R : Int) ∧ Hid (runR 0 (l.take j) = R) ∧ Hid (Below u6.heap.size u6 wr)) (fun _ i _ => m - (intOf i).toNat)
        case atStart => exact ⟨0, 0, by omega, rfl, rfl, hid rfl, hid (Below.refl _ _)⟩
        case round =>
          obtain ⟨j, R, hj, rfl, rfl, HR0, HK⟩ := hrel
          by_cases hjm : j < m
          · have S1 := slb_at L6 HK
            have G := hid (box_below G6.out HK.out)
            obtain ⟨b, o, y, rfl, hy, cy⟩ := slb_cell S1.out hm6' hjm
            have HY := hid hy
            have hjm2 : (j : Int) < (m : Int) := by omega
            have hR : R ≤ 20000 := by
              have h := runR_le (l.take j) 0
              rw [HR0.out, List.length_take] at h
              omega
            have hmem : y ∈ mapB t bs := by rw [HM.out]; exact List.mem_of_getElem? hy
            have HN := hid (fun h36 h34 => no13 (t := t) h36 h34 bs y hmem)
            have HL := hid (fun h33 => low_map (t := t) h33 bs y hmem)
            have HE : Hid (hasN t.f 31 = true → hasN t.f 33 = false → ¬ y = 255 → R % 2 = 0) := hid (fun h31 h33 hx => by
              have h := run_even (t := t) h31 h33 bs (j := j) (x := y) (by rw [HM.out]; exact hy) hx
              rwa [HM.out, HR0.out] at h)
            clear hy hmem
            by_cases h13 : y = 13
            · subst h13
              have hx : ¬ (13 : UInt8) = 255 := by decide
              have HR1 : Hid (runR 0 (l.take (j + 1)) = 0) := hid (by rw [runR_take HY.out, if_neg hx])
              rw [show ((13 : UInt8).toNat : Int) = 13 from rfl] at cy
              cases h36 : hasN t.f 36
              · rcases (by omega : R % 2 = 0 ∨ R % 2 = 1) with hr2 | hr2
                · have hr1 : ((R : Int).tmod 2 == 1) = false := rem_ev hr2
                  go_wp2_with (first
                    | (refine ld26 (by rfl) _ (by rfl) _ (by rfl) t.cs G.out hs ?_)
                    | (go_at_call 18
                       (first | (with_reducible refine (has_b _ ht h36).mono ?_) | (with_reducible refine (has_b _ ht h34).mono ?_) | (with_reducible refine (has_b _ ht h33).mono ?_) | (with_reducible refine (has_b _ ht h31).mono ?_))
                       rintro e u1 ⟨rfl, k⟩
                       replace G := hid (box_below G.out k.out)
                       replace HK := bel_t HK k.out
                       clear k))
                  go_roundw
                  case rel => exact ⟨j + 1, 0, by omega, by go_num, rfl, HR1, HK⟩
                  case measure => simp [intOf]; omega
                · have hr1 : (R : Int).tmod 2 = 1 := rem_od hr2
                  cases h31 : hasN t.f 31
                  · go_wp2_with (first
                      | (refine ld26 (by rfl) _ (by rfl) _ (by rfl) t.cs G.out hs ?_)
                      | (go_at_call 18
                         (first | (with_reducible refine (has_b _ ht h36).mono ?_) | (with_reducible refine (has_b _ ht h34).mono ?_) | (with_reducible refine (has_b _ ht h33).mono ?_) | (with_reducible refine (has_b _ ht h31).mono ?_))
                         rintro e u1 ⟨rfl, k⟩
                         replace G := hid (box_below G.out k.out)
                         replace HK := bel_t HK k.out
                         clear k))
                    go_roundw
                    case rel => exact ⟨j + 1, 0, by omega, by go_num, rfl, HR1, HK⟩
                    case measure => simp [intOf]; omega
                  · cases h33 : hasN t.f 33
                    · exfalso
                      have := HE.out h31 h33 hx
                      omega
                    · go_wp2_with (first
                        | (refine ld26 (by rfl) _ (by rfl) _ (by rfl) t.cs G.out hs ?_)
                        | (go_at_call 18
                           (first | (with_reducible refine (has_b _ ht h36).mono ?_) | (with_reducible refine (has_b _ ht h34).mono ?_) | (with_reducible refine (has_b _ ht h33).mono ?_) | (with_reducible refine (has_b _ ht h31).mono ?_))
                           rintro e u1 ⟨rfl, k⟩
                           replace G := hid (box_below G.out k.out)
                           replace HK := bel_t HK k.out
                           clear k))
                      go_roundw
                      case rel => exact ⟨j + 1, 0, by omega, by go_num, rfl, HR1, HK⟩
                      case measure => simp [intOf]; omega
              · cases h34 : hasN t.f 34
                · exact absurd rfl (HN.out h36 h34)
                · rcases (by omega : R % 2 = 0 ∨ R % 2 = 1) with hr2 | hr2
                  · have hr1 : ((R : Int).tmod 2 == 1) = false := rem_ev hr2
                    go_wp2_with (first
                      | (refine ld26 (by rfl) _ (by rfl) _ (by rfl) t.cs G.out hs ?_)
                      | (go_at_call 18
                         (first | (with_reducible refine (has_b _ ht h36).mono ?_) | (with_reducible refine (has_b _ ht h34).mono ?_) | (with_reducible refine (has_b _ ht h33).mono ?_) | (with_reducible refine (has_b _ ht h31).mono ?_))
                         rintro e u1 ⟨rfl, k⟩
                         replace G := hid (box_below G.out k.out)
                         replace HK := bel_t HK k.out
                         clear k))
                    go_roundw
                    case rel => exact ⟨j + 1, 0, by omega, by go_num, rfl, HR1, HK⟩
                    case measure => simp [intOf]; omega
                  · have hr1 : (R : Int).tmod 2 = 1 := rem_od hr2
                    cases h31 : hasN t.f 31
                    · go_wp2_with (first
                        | (refine ld26 (by rfl) _ (by rfl) _ (by rfl) t.cs G.out hs ?_)
                        | (go_at_call 18
                           (first | (with_reducible refine (has_b _ ht h36).mono ?_) | (with_reducible refine (has_b _ ht h34).mono ?_) | (with_reducible refine (has_b _ ht h33).mono ?_) | (with_reducible refine (has_b _ ht h31).mono ?_))
                           rintro e u1 ⟨rfl, k⟩
                           replace G := hid (box_below G.out k.out)
                           replace HK := bel_t HK k.out
                           clear k))
                      go_roundw
                      case rel => exact ⟨j + 1, 0, by omega, by go_num, rfl, HR1, HK⟩
                      case measure => simp [intOf]; omega
                    · cases h33 : hasN t.f 33
                      · exfalso
                        have := HE.out h31 h33 hx
                        omega
                      · go_wp2_with (first
                          | (refine ld26 (by rfl) _ (by rfl) _ (by rfl) t.cs G.out hs ?_)
                          | (go_at_call 18
                             (first | (with_reducible refine (has_b _ ht h36).mono ?_) | (with_reducible refine (has_b _ ht h34).mono ?_) | (with_reducible refine (has_b _ ht h33).mono ?_) | (with_reducible refine (has_b _ ht h31).mono ?_))
                             rintro e u1 ⟨rfl, k⟩
                             replace G := hid (box_below G.out k.out)
                             replace HK := bel_t HK k.out
                             clear k))
                        go_roundw
                        case rel => exact ⟨j + 1, 0, by omega, by go_num, rfl, HR1, HK⟩
                        case measure => simp [intOf]; omega
            · have e13 : ((y.toNat : Int) == 13) = false := u8_ne h13
              by_cases h127 : 127 < y.toNat
              · have e127 : (127 : Int) < (y.toNat : Int) := by omega
                cases h33 : hasN t.f 33
                · by_cases hx : y = 255
                  · have HR1 : Hid (runR 0 (l.take (j + 1)) = R + 1) := hid (by rw [runR_take HY.out, if_pos hx, HR0.out])
                    subst hx
                    clear e13 e127
                    rw [show ((255 : UInt8).toNat : Int) = 255 from rfl] at cy
                    go_wp2_with (first
                      | (refine ld26 (by rfl) _ (by rfl) _ (by rfl) t.cs G.out hs ?_)
                      | (go_at_call 18
                         (first | (with_reducible refine (has_b _ ht h36).mono ?_) | (with_reducible refine (has_b _ ht h34).mono ?_) | (with_reducible refine (has_b _ ht h33).mono ?_) | (with_reducible refine (has_b _ ht h31).mono ?_))
                         rintro e u1 ⟨rfl, k⟩
                         replace G := hid (box_below G.out k.out)
                         replace HK := bel_t HK k.out
                         clear k))
                    go_roundw
                    case rel => exact ⟨j + 1, R + 1, by omega, by go_num, by go_num, HR1, HK⟩
                    case measure => simp [intOf]; omega
                  · have HR1 : Hid (runR 0 (l.take (j + 1)) = 0) := hid (by rw [runR_take HY.out, if_neg hx])
                    have e255 : ((y.toNat : Int) == 255) = false := u8_ne hx
                    generalize (y.toNat : Int) = Y at e13 e127 e255 cy
                    rcases (by omega : R % 2 = 0 ∨ R % 2 = 1) with hr2 | hr2
                    · have hr1 : ((R : Int).tmod 2 == 1) = false := rem_ev hr2
                      go_wp2_with (first
                        | (refine ld26 (by rfl) _ (by rfl) _ (by rfl) t.cs G.out hs ?_)
                        | (go_at_call 18
                           (first | (with_reducible refine (has_b _ ht h36).mono ?_) | (with_reducible refine (has_b _ ht h34).mono ?_) | (with_reducible refine (has_b _ ht h33).mono ?_) | (with_reducible refine (has_b _ ht h31).mono ?_))
                           rintro e u1 ⟨rfl, k⟩
                           replace G := hid (box_below G.out k.out)
                           replace HK := bel_t HK k.out
                           clear k))
                      go_roundw
                      case rel => exact ⟨j + 1, 0, by omega, by go_num, rfl, HR1, HK⟩
                      case measure => simp [intOf]; omega
                    · have hr1 : (R : Int).tmod 2 = 1 := rem_od hr2
                      cases h31 : hasN t.f 31
                      · go_wp2_with (first
                          | (refine ld26 (by rfl) _ (by rfl) _ (by rfl) t.cs G.out hs ?_)
                          | (go_at_call 18
                             (first | (with_reducible refine (has_b _ ht h36).mono ?_) | (with_reducible refine (has_b _ ht h34).mono ?_) | (with_reducible refine (has_b _ ht h33).mono ?_) | (with_reducible refine (has_b _ ht h31).mono ?_))
                             rintro e u1 ⟨rfl, k⟩
                             replace G := hid (box_below G.out k.out)
                             replace HK := bel_t HK k.out
                             clear k))
                        go_roundw
                        case rel => exact ⟨j + 1, 0, by omega, by go_num, rfl, HR1, HK⟩
                        case measure => simp [intOf]; omega
                      · exfalso
                        have := HE.out h31 h33 hx
                        omega
                · exfalso
                  have := HL.out h33
                  omega
              · have e127 : ¬ (127 : Int) < (y.toNat : Int) := by omega
                have hx : ¬ y = 255 := by intro h; subst h; exact h127 (by decide)
                have HR1 : Hid (runR 0 (l.take (j + 1)) = 0) := hid (by rw [runR_take HY.out, if_neg hx])
                have e255 : ((y.toNat : Int) == 255) = false := u8_ne hx
                generalize (y.toNat : Int) = Y at e13 e127 e255 cy
                rcases (by omega : R % 2 = 0 ∨ R % 2 = 1) with hr2 | hr2
                · have hr1 : ((R : Int).tmod 2 == 1) = false := rem_ev hr2
                  go_wp2_with (first
                    | (refine ld26 (by rfl) _ (by rfl) _ (by rfl) t.cs G.out hs ?_)
                    | (go_at_call 18
                       (first | (with_reducible refine (has_b _ ht h36).mono ?_) | (with_reducible refine (has_b _ ht h34).mono ?_) | (with_reducible refine (has_b _ ht h33).mono ?_) | (with_reducible refine (has_b _ ht h31).mono ?_))
                       rintro e u1 ⟨rfl, k⟩
                       replace G := hid (box_below G.out k.out)
                       replace HK := bel_t HK k.out
                       clear k))
                  go_roundw
                  case rel => exact ⟨j + 1, 0, by omega, by go_num, rfl, HR1, HK⟩
                  case measure => simp [intOf]; omega
                · have hr1 : (R : Int).tmod 2 = 1 := rem_od hr2
                  cases h31 : hasN t.f 31
                  · go_wp2_with (first
                      | (refine ld26 (by rfl) _ (by rfl) _ (by rfl) t.cs G.out hs ?_)
                      | (go_at_call 18
                         (first | (with_reducible refine (has_b _ ht h36).mono ?_) | (with_reducible refine (has_b _ ht h34).mono ?_) | (with_reducible refine (has_b _ ht h33).mono ?_) | (with_reducible refine (has_b _ ht h31).mono ?_))
                         rintro e u1 ⟨rfl, k⟩
                         replace G := hid (box_below G.out k.out)
                         replace HK := bel_t HK k.out
                         clear k))
                    go_roundw
                    case rel => exact ⟨j + 1, 0, by omega, by go_num, rfl, HR1, HK⟩
                    case measure => simp [intOf]; omega
                  · cases h33 : hasN t.f 33
                    · exfalso
                      have := HE.out h31 h33 hx
                      omega
                    · go_wp2_with (first
                        | (refine ld26 (by rfl) _ (by rfl) _ (by rfl) t.cs G.out hs ?_)
                        | (go_at_call 18
                           (first | (with_reducible refine (has_b _ ht h36).mono ?_) | (with_reducible refine (has_b _ ht h34).mono ?_) | (with_reducible refine (has_b _ ht h33).mono ?_) | (with_reducible refine (has_b _ ht h31).mono ?_))
                           rintro e u1 ⟨rfl, k⟩
                           replace G := hid (box_below G.out k.out)
                           replace HK := bel_t HK k.out
                           clear k))
                      go_roundw
                      case rel => exact ⟨j + 1, 0, by omega, by go_num, rfl, HR1, HK⟩
                      case measure => simp [intOf]; omega
          · obtain rfl : j = m := by omega
            have K9 := bel_t K6 HK.out
            have hfin : (j : Int) ≤ 2 * (n : Int) := by omega
            go_wp2
            go_ret
            exact ⟨rfl, K9⟩
end Go.Proofs.Ytpfcjcldokghbaa
