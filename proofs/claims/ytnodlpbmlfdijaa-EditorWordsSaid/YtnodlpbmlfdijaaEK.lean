import Derived.Test.YtnodlpbmlfdijaaEK1
namespace Go.Proofs.Ytnodlpbmlfdijaa
open Go.RowKit

set_option maxRecDepth 100000 in
set_option maxHeartbeats 8000000 in
theorem words_walk (w : World) (t : Tm) (ht : t.Ok) (A : Option Addr) (c n : Nat) (bs : List UInt8) (hb : Hid (SlB w w.heap.size A c bs)) (hn : bs.length = n) :
    Calls Try.prog 5 #[.agg t.cs, .slice A n c] w fun e w' => e = .returned (.bool true) ∧ Hid (Below w.heap.size w w') := by
  have hs := cs_size ht.len
  have K0 := old26 w t
  have L0 := slb_at hb K0
  by_cases h1 : 600 < n
  · have k1 : (600 : Int) < (n : Int) := by omega
    go_enter Try.func5, Try.ntmps5
    go_wp2_with (first
      | (refine bx26 (by rfl) _ (by rfl) _ (by rfl) hs ?_
         intro G0)
      | (go_at_call 7
         (with_reducible refine (call_alive K0).mono ?_)
         rintro e u1 ⟨rfl, k, K1⟩))
    go_ret
    exact ⟨rfl, K1⟩
  · have k1 : ¬ (600 : Int) < (n : Int) := by omega
    have hm : n ≤ 600 := by omega
    have hm6 : n ≤ 1000000 := by omega
    obtain ⟨u, hu⟩ : ∃ u, Hid (hasN t.f 42 = u) := ⟨_, hid rfl⟩
    obtain ⟨xs, hxs⟩ : ∃ xs, restL u bs = xs := ⟨_, rfl⟩
    obtain ⟨ys, hys⟩ : ∃ ys, goneL u bs = ys := ⟨_, rfl⟩
    have HX := hid hxs
    have HY := hid hys
    have HJ : Hid (xs ++ ys = bs) := hid (by rw [← hxs, ← hys, word_join])
    have HNE : Hid (0 < n → ys.length ≠ 0) := hid fun h => by
      have h2 : bs ≠ [] := by rintro rfl; simp at hn; omega
      have h3 := goneL_ne u h2
      rw [hys] at h3
      intro e
      exact h3 (List.eq_nil_of_length_eq_zero e)
    clear hxs hys
    obtain ⟨z, hz⟩ : ∃ z : Bool, Hid (decide (0 < n) = z) := ⟨_, hid rfl⟩
    cases z
    · have kz : ¬ 0 < n := by simpa using hz.out
      go_enter Try.func5, Try.ntmps5
      go_wp2_with (first
        | (refine bx26 (by rfl) _ (by rfl) _ (by rfl) hs ?_
           intro G0)
        | (refine ld26 (by rfl) _ (by rfl) _ (by rfl) t.cs G1.out hs ?_)
        | (go_at_call 7
           (with_reducible refine (call_alive K0).mono ?_)
           rintro e u1 ⟨rfl, k, K1⟩
           have G1 := hid (box_below G0.out k.out)
           have L1 := slb_at L0 k
           clear k G0)
        | (go_at_call 12
           (with_reducible refine (word_any _ t ht A n c bs hu L1 hn hm6).mono ?_)
           rw [HX.out, HY.out]
           rintro e u2 ⟨A1, n1, c1, A2, n2, c2, rfl, h1, h2, o1, o2, K2⟩
           have G2 := hid (box_below G1.out K2.out)
           have L2 := slb_at L1 K2
           have B2 := bel_t K1 K2.out
           have X2 := slb_own h1 o1
           have Y2 := slb_own h2 o2
           have hn3 : n1 + n2 = n := by have := congrArg List.length HJ.out; rw [List.length_append, h1.out, h2.out, hn] at this; exact this
           clear K2 G1 L1 K1 o1 o2)
        | (at_builtin
           (first
             | (refine app_copy_g u2 (by rfl) (.tmp 23) (.tmp 24) rfl _ rfl rfl A1 n1 c1 xs rfl X2 h1 (by omega) ?_
                intro A3 c3 u3 k3 o3
                have Y3 := slb_at Y2 k3)
             | (refine app_more_g u2 u3 (by rfl) (.tmp 25) (.tmp 26) rfl A3 n1 c3 xs rfl o3 k3 A2 n2 c2 ys rfl Y3 h1 h2 (by omega) ?_
                intro A4 c4 u4 hl4 S44 k4
                have B4 := bel_t B2 k4.out
                have G4 := hid (box_below G2.out k4.out)
                have L4 := slb_at L2 k4
                have X4 := slb_at X2 k4
                have Y4 := slb_at Y2 k4
                clear B2 G2 L2 X2 Y2 Y3 o3 k3)))
        | (go_at_call 15
           (with_reducible refine (bytes_two _ A4 A c4 c n n (xs ++ ys) bs (hl4.out.trans hn3) hn HJ.out S44 L4 (by unfold maxLen; omega)).mono ?_)
           rintro e u5 ⟨rfl, k5⟩
           have B5 := bel_t B4 k5.out
           have G5 := hid (box_below G4.out k5.out)
           have L5 := slb_at L4 k5
           have X5 := slb_at X4 k5
           have Y5 := slb_at Y4 k5
           clear B4 G4 L4 X4 Y4 S44 k5))
      clear k1 hm6 HNE HJ
      go_loopw [7] (fun x wr => ∃ (X : List UInt8) (AX : Option Addr) (nx cx : Nat), x = .slice AX nx cx ∧ nx ≤ n ∧ Hid (X.length = nx) ∧ Hid (Tow u bs X) ∧ Hid (SlB wr wr.heap.size AX cx X) ∧ Hid (SlB wr wr.heap.size A1 c1 xs) ∧ Hid (SlB wr wr.heap.size A2 c2 ys) ∧ Hid (Below w.heap.size w wr) ∧ Hid (Box wr w.heap.size 26 t.cs)) (fun x _ => lenOf x)
      case atStart => exact ⟨bs, A, n, c, rfl, Nat.le_refl _, hid hn, hid (tow_start u bs), L5, X5, Y5, B5, G5⟩
      case round =>
        obtain ⟨X, AX, nx, cx, rfl, hnx, hX, HT, SX, HXs, HYs, HB, HG⟩ := hrel
        have hx6 : nx ≤ 1000000 := by omega
        by_cases hd : nx = n1
        · subst hd
          have k2 : ¬ (nx : Int) < (nx : Int) := by omega
          have hXr : X = xs := by
            rcases tow_le HT.out with h | ⟨h, _⟩
            · rw [h, HX.out]
            · rw [HX.out, h1.out, hX.out] at h
              omega
          subst hXr
          clear HT
          go_wp2_with (first
            | (go_at_call 15
               (with_reducible refine (bytes_two _ AX A1 cx c1 nx nx X X hX.out hX.out (Eq.refl X) SX HXs (by unfold maxLen; omega)).mono ?_)
               rintro e u6 ⟨rfl, k6⟩
               have B6 := bel_t HB k6.out
               have G6 := hid (box_below HG.out k6.out)
               have X6 := slb_at HXs k6
               have Y6 := slb_at HYs k6
               clear HB HG HXs HYs SX k6))
          go_loop [9] (fun x => ∃ p, p ≤ n2 ∧ x = .slice A2 p c2 ∧ Hid (Wrd ys p)) (fun x => lenOf x)
          case atStart => exact ⟨n2, Nat.le_refl _, rfl, hid (by unfold Wrd; rw [List.take_of_length_le (by have := h2.out; omega)])⟩
          case round =>
            obtain ⟨p, hp, rfl, HW⟩ := hrel
            by_cases hp0 : p = 0
            · have HD : (ys.take p).reverse = ys.reverse.dropWhile blankB := by
                have h9 := HW.out
                unfold Wrd at h9
                rw [hp0, List.take_zero] at h9 ⊢
                exact h9
              have kp : ¬ 0 < p := by omega
              have kq : decide ((0 : Int) < (p : Int)) = false := by simpa using hp0
              have HU : Hid (∀ i y, i < p → ys[i]? = some y → u = false → blankB y = false) := hid fun i y hi hy hu0 => by
                rw [← HY.out] at hy HD
                exact wrd_all HD hi hy hu0
              clear HD
              go_wp2
              go_loopw [78] (fun i wr => ∃ j : Nat, j ≤ p ∧ i = .int .i64 (j : Int) ∧ Hid (Below w.heap.size w wr) ∧ Hid (Box wr w.heap.size 26 t.cs) ∧ Hid (SlB wr wr.heap.size A1 c1 X) ∧ Hid (SlB wr wr.heap.size A2 c2 ys)) (fun i _ => p - (intOf i).toNat)
              case atStart => exact ⟨0, Nat.zero_le _, rfl, B6, G6, X6, Y6⟩
              case round =>
                obtain ⟨j, hj, rfl, B7, G7, X7, Y7⟩ := hrel
                by_cases hjp : j < p
                · try (exfalso; omega)
                  all_goals
                    have k7 : (j : Int) < (p : Int) := by omega
                    obtain ⟨b7, o7, y7, hA7, hy7, cy7⟩ := slb_cell Y7.out h2.out (show j < n2 by omega)
                    cases hA7
                    have HYY := hid hy7
                    clear hy7
                    cases hby7 : blankB y7
                    · go_wp2_with (first
                        | (go_at_call 18
                           (with_reducible refine (blk_b _ y7 hby7).mono ?_)
                           rintro e u8 ⟨rfl, rfl⟩))
                      go_roundw
                      case rel => exact ⟨j + 1, by omega, by go_num, B7, G7, X7, Y7⟩
                      case measure => simp [intOf] <;> omega
                    · have hut : u = true := by
                        cases u
                        · have := HU.out j y7 hjp HYY.out rfl
                          rw [hby7] at this
                          cases this
                        · rfl
                      have hu7 := hu.out.trans hut
                      clear hut
                      go_wp2_with (first
                        | (go_at_call 18
                           (with_reducible refine (blk_b _ y7 hby7).mono ?_)
                           rintro e u8 ⟨rfl, rfl⟩)
                        | (refine ld26 (by rfl) _ (by rfl) _ (by rfl) t.cs G7.out hs ?_)
                        | (go_at_call 19
                           (with_reducible refine (has_b _ ht hu7).mono ?_)
                           rintro e u9 ⟨rfl, k9⟩
                           have B9 := bel_t B7 k9.out
                           have G9 := hid (box_below G7.out k9.out)
                           have X9 := slb_at X7 k9
                           have Y9 := slb_at Y7 k9))
                      go_roundw
                      case rel => exact ⟨j + 1, by omega, by go_num, B9, G9, X9, Y9⟩
                      case measure => simp [intOf]; omega
                · have k7 : ¬ (j : Int) < (p : Int) := by omega
                  by_cases hn1 : nx = 0
                  · have k8 : ((nx : Int) == 0) = true := by simp; omega
                    go_wp2
                    go_ret
                    exact ⟨rfl, B7⟩
                  · try (exfalso; omega)
                    all_goals
                      obtain ⟨q1, hq1⟩ : ∃ q1, q1 + 1 = nx := ⟨nx - 1, by omega⟩
                      have k8 : ((nx : Int) == 0) = false := by simp; omega
                      obtain ⟨b8, o8, y8, hA8, hy8, cy8⟩ := slb_cell X7.out h1.out (show q1 < nx by omega)
                      subst hA8
                      have hby8 : blankB y8 = true := by
                        have e5 := h1.out
                        rw [← HX.out] at hy8 e5
                        exact rest_last (by omega) hy8
                      have e8 : (nx : Int) - 1 = (q1 : Int) := by omega
                      have k9 : (q1 : Int) < (nx : Int) := by omega
                      clear hy8 hq1
                      go_wp2_with (first
                        | (go_at_call 18
                           (with_reducible refine (blk_b _ y8 hby8).mono ?_)
                           rintro e u8 ⟨rfl, rfl⟩))
                      go_ret
                      exact ⟨rfl, B7⟩
            · obtain ⟨q, hq⟩ : ∃ q, q + 1 = p := ⟨p - 1, by omega⟩
              have kp : 0 < p := by omega
              obtain ⟨b4, o4, y, hA4, hy, cy⟩ := slb_cell Y6.out h2.out (show q < n2 by omega)
              subst hA4
              have e4 : (p : Int) - 1 = (q : Int) := by omega
              have k4 : (q : Int) < (p : Int) := by omega
              have HYq := hid hy
              have HW1 : Hid (Wrd ys (q + 1)) := by rw [hq]; exact HW
              cases hby : blankB y
              · have HD : (ys.take p).reverse = ys.reverse.dropWhile blankB := by rw [← hq]; exact wrd_stop HW1.out hy hby
                clear hy
                have HU : Hid (∀ i y, i < p → ys[i]? = some y → u = false → blankB y = false) := hid fun i y hi hy hu0 => by
                  rw [← HY.out] at hy HD
                  exact wrd_all HD hi hy hu0
                clear HD
                go_wp2_with (first
                  | (go_at_call 18
                     (with_reducible refine (blk_b _ y hby).mono ?_)
                     rintro e u7 ⟨rfl, rfl⟩))
                go_loopw [78] (fun i wr => ∃ j : Nat, j ≤ p ∧ i = .int .i64 (j : Int) ∧ Hid (Below w.heap.size w wr) ∧ Hid (Box wr w.heap.size 26 t.cs) ∧ Hid (SlB wr wr.heap.size A1 c1 X) ∧ Hid (SlB wr wr.heap.size (some ⟨b4, o4, none⟩) c2 ys)) (fun i _ => p - (intOf i).toNat)
                case atStart => exact ⟨0, Nat.zero_le _, rfl, B6, G6, X6, Y6⟩
                case round =>
                  obtain ⟨j, hj, rfl, B7, G7, X7, Y7⟩ := hrel
                  by_cases hjp : j < p
                  · try (exfalso; omega)
                    all_goals
                      have k7 : (j : Int) < (p : Int) := by omega
                      obtain ⟨b7, o7, y7, hA7, hy7, cy7⟩ := slb_cell Y7.out h2.out (show j < n2 by omega)
                      cases hA7
                      have HYY := hid hy7
                      clear hy7
                      cases hby7 : blankB y7
                      · go_wp2_with (first
                          | (go_at_call 18
                             (with_reducible refine (blk_b _ y7 hby7).mono ?_)
                             rintro e u8 ⟨rfl, rfl⟩))
                        go_roundw
                        case rel => exact ⟨j + 1, by omega, by go_num, B7, G7, X7, Y7⟩
                        case measure => simp [intOf] <;> omega
                      · have hut : u = true := by
                          cases u
                          · have := HU.out j y7 hjp HYY.out rfl
                            rw [hby7] at this
                            cases this
                          · rfl
                        have hu7 := hu.out.trans hut
                        clear hut
                        go_wp2_with (first
                          | (go_at_call 18
                             (with_reducible refine (blk_b _ y7 hby7).mono ?_)
                             rintro e u8 ⟨rfl, rfl⟩)
                          | (refine ld26 (by rfl) _ (by rfl) _ (by rfl) t.cs G7.out hs ?_)
                          | (go_at_call 19
                             (with_reducible refine (has_b _ ht hu7).mono ?_)
                             rintro e u9 ⟨rfl, k9⟩
                             have B9 := bel_t B7 k9.out
                             have G9 := hid (box_below G7.out k9.out)
                             have X9 := slb_at X7 k9
                             have Y9 := slb_at Y7 k9))
                        go_roundw
                        case rel => exact ⟨j + 1, by omega, by go_num, B9, G9, X9, Y9⟩
                        case measure => simp [intOf]; omega
                  · have k7 : ¬ (j : Int) < (p : Int) := by omega
                    by_cases hn1 : nx = 0
                    · have k8 : ((nx : Int) == 0) = true := by simp; omega
                      go_wp2
                      go_ret
                      exact ⟨rfl, B7⟩
                    · try (exfalso; omega)
                      all_goals
                        obtain ⟨q1, hq1⟩ : ∃ q1, q1 + 1 = nx := ⟨nx - 1, by omega⟩
                        have k8 : ((nx : Int) == 0) = false := by simp; omega
                        obtain ⟨b8, o8, y8, hA8, hy8, cy8⟩ := slb_cell X7.out h1.out (show q1 < nx by omega)
                        subst hA8
                        have hby8 : blankB y8 = true := by
                          have e5 := h1.out
                          rw [← HX.out] at hy8 e5
                          exact rest_last (by omega) hy8
                        have e8 : (nx : Int) - 1 = (q1 : Int) := by omega
                        have k9 : (q1 : Int) < (nx : Int) := by omega
                        clear hy8 hq1
                        go_wp2_with (first
                          | (go_at_call 18
                             (with_reducible refine (blk_b _ y8 hby8).mono ?_)
                             rintro e u8 ⟨rfl, rfl⟩))
                        go_ret
                        exact ⟨rfl, B7⟩
              · have HW2 := hid (wrd_next HW1.out hy hby)
                have YT := hid (Y6.out.take p)
                have hf := run_front YT.out (show (ys.take p).length = p by rw [List.length_take, h2.out]; omega) (show q ≤ p by omega)
                clear hy
                go_wp2_with (first
                  | (go_at_call 18
                     (with_reducible refine (blk_b _ y hby).mono ?_)
                     rintro e u7 ⟨rfl, rfl⟩))
                go_round
                case rel => exact ⟨q, by omega, rfl, HW2⟩
                case measure => simp [lenOf]; omega
        · have hlt : n1 < nx := by
            rcases tow_le HT.out with h | ⟨h, _⟩
            · rw [h, HX.out, h1.out] at hX
              exact absurd hX.out.symm hd
            · rw [HX.out, h1.out, hX.out] at h
              exact h
          have k2 : (n1 : Int) < (nx : Int) := by omega
          have HT2 : Hid (Tow u bs (eraA u X)) := by
            rcases tow_le HT.out with h | ⟨_, h⟩
            · rw [h, HX.out, h1.out] at hX
              exact absurd hX.out.symm hd
            · exact hid h
          have hne : X ≠ [] := by
            rintro rfl
            have := hX.out
            simp at this
            omega
          have hlt2 := eraA_lt u hne
          rw [hX.out] at hlt2
          have HLT := hid hlt2
          clear hne hlt2 hd
          go_wp2_with (first
            | (refine ld26 (by rfl) _ (by rfl) _ (by rfl) t.cs HG.out hs ?_)
            | (go_at_call 10
               (with_reducible refine (erase_any _ t ht AX nx cx X hu SX hX.out hx6).mono ?_)
               rintro e u3 ⟨A3, n3, c3, A4, n4, c4, rfl, h3, h4, o3, _, k3⟩
               have B3 := bel_t HB k3.out
               have G3 := hid (box_below HG.out k3.out)
               have X3 := slb_at HXs k3
               have Y3 := slb_at HYs k3
               have S3 := slb_own h3 o3))
          go_roundw
          case rel => exact ⟨eraA u X, A3, n3, c3, rfl, by have := HLT.out; rw [h3.out] at this; omega, h3, HT2, S3, X3, Y3, B3, G3⟩
          case measure => have := HLT.out; rw [h3.out] at this; simpa [lenOf] using this
    · have kz : 0 < n := by simpa using hz.out
      go_enter Try.func5, Try.ntmps5
      go_wp2_with (first
        | (refine bx26 (by rfl) _ (by rfl) _ (by rfl) hs ?_
           intro G0)
        | (refine ld26 (by rfl) _ (by rfl) _ (by rfl) t.cs G1.out hs ?_)
        | (go_at_call 7
           (with_reducible refine (call_alive K0).mono ?_)
           rintro e u1 ⟨rfl, k, K1⟩
           have G1 := hid (box_below G0.out k.out)
           have L1 := slb_at L0 k
           clear k G0)
        | (go_at_call 12
           (with_reducible refine (word_any _ t ht A n c bs hu L1 hn hm6).mono ?_)
           rw [HX.out, HY.out]
           rintro e u2 ⟨A1, n1, c1, A2, n2, c2, rfl, h1, h2, o1, o2, K2⟩
           have G2 := hid (box_below G1.out K2.out)
           have L2 := slb_at L1 K2
           have B2 := bel_t K1 K2.out
           have X2 := slb_own h1 o1
           have Y2 := slb_own h2 o2
           have hn3 : n1 + n2 = n := by have := congrArg List.length HJ.out; rw [List.length_append, h1.out, h2.out, hn] at this; exact this
           have k6 : ((n2 : Int) == 0) = false := by
             have h5 := HNE.out (by simpa using hz.out)
             rw [h2.out] at h5
             simp
             exact h5
           clear K2 G1 L1 K1 o1 o2)
        | (at_builtin
           (first
             | (refine app_copy_g u2 (by rfl) (.tmp 23) (.tmp 24) rfl _ rfl rfl A1 n1 c1 xs rfl X2 h1 (by omega) ?_
                intro A3 c3 u3 k3 o3
                have Y3 := slb_at Y2 k3)
             | (refine app_more_g u2 u3 (by rfl) (.tmp 25) (.tmp 26) rfl A3 n1 c3 xs rfl o3 k3 A2 n2 c2 ys rfl Y3 h1 h2 (by omega) ?_
                intro A4 c4 u4 hl4 S44 k4
                have B4 := bel_t B2 k4.out
                have G4 := hid (box_below G2.out k4.out)
                have L4 := slb_at L2 k4
                have X4 := slb_at X2 k4
                have Y4 := slb_at Y2 k4
                clear B2 G2 L2 X2 Y2 Y3 o3 k3)))
        | (go_at_call 15
           (with_reducible refine (bytes_two _ A4 A c4 c n n (xs ++ ys) bs (hl4.out.trans hn3) hn HJ.out S44 L4 (by unfold maxLen; omega)).mono ?_)
           rintro e u5 ⟨rfl, k5⟩
           have B5 := bel_t B4 k5.out
           have G5 := hid (box_below G4.out k5.out)
           have L5 := slb_at L4 k5
           have X5 := slb_at X4 k5
           have Y5 := slb_at Y4 k5
           clear B4 G4 L4 X4 Y4 S44 k5))
      clear k1 hm6 HNE HJ
      go_loopw [7] (fun x wr => ∃ (X : List UInt8) (AX : Option Addr) (nx cx : Nat), x = .slice AX nx cx ∧ nx ≤ n ∧ Hid (X.length = nx) ∧ Hid (Tow u bs X) ∧ Hid (SlB wr wr.heap.size AX cx X) ∧ Hid (SlB wr wr.heap.size A1 c1 xs) ∧ Hid (SlB wr wr.heap.size A2 c2 ys) ∧ Hid (Below w.heap.size w wr) ∧ Hid (Box wr w.heap.size 26 t.cs)) (fun x _ => lenOf x)
      case atStart => exact ⟨bs, A, n, c, rfl, Nat.le_refl _, hid hn, hid (tow_start u bs), L5, X5, Y5, B5, G5⟩
      case round =>
        obtain ⟨X, AX, nx, cx, rfl, hnx, hX, HT, SX, HXs, HYs, HB, HG⟩ := hrel
        have hx6 : nx ≤ 1000000 := by omega
        by_cases hd : nx = n1
        · subst hd
          have k2 : ¬ (nx : Int) < (nx : Int) := by omega
          have hXr : X = xs := by
            rcases tow_le HT.out with h | ⟨h, _⟩
            · rw [h, HX.out]
            · rw [HX.out, h1.out, hX.out] at h
              omega
          subst hXr
          clear HT
          go_wp2_with (first
            | (go_at_call 15
               (with_reducible refine (bytes_two _ AX A1 cx c1 nx nx X X hX.out hX.out (Eq.refl X) SX HXs (by unfold maxLen; omega)).mono ?_)
               rintro e u6 ⟨rfl, k6⟩
               have B6 := bel_t HB k6.out
               have G6 := hid (box_below HG.out k6.out)
               have X6 := slb_at HXs k6
               have Y6 := slb_at HYs k6
               clear HB HG HXs HYs SX k6))
          go_loop [9] (fun x => ∃ p, p ≤ n2 ∧ x = .slice A2 p c2 ∧ Hid (Wrd ys p)) (fun x => lenOf x)
          case atStart => exact ⟨n2, Nat.le_refl _, rfl, hid (by unfold Wrd; rw [List.take_of_length_le (by have := h2.out; omega)])⟩
          case round =>
            obtain ⟨p, hp, rfl, HW⟩ := hrel
            by_cases hp0 : p = 0
            · have HD : (ys.take p).reverse = ys.reverse.dropWhile blankB := by
                have h9 := HW.out
                unfold Wrd at h9
                rw [hp0, List.take_zero] at h9 ⊢
                exact h9
              have kp : ¬ 0 < p := by omega
              have kq : decide ((0 : Int) < (p : Int)) = false := by simpa using hp0
              have HU : Hid (∀ i y, i < p → ys[i]? = some y → u = false → blankB y = false) := hid fun i y hi hy hu0 => by
                rw [← HY.out] at hy HD
                exact wrd_all HD hi hy hu0
              clear HD
              go_wp2
              go_loopw [78] (fun i wr => ∃ j : Nat, j ≤ p ∧ i = .int .i64 (j : Int) ∧ Hid (Below w.heap.size w wr) ∧ Hid (Box wr w.heap.size 26 t.cs) ∧ Hid (SlB wr wr.heap.size A1 c1 X) ∧ Hid (SlB wr wr.heap.size A2 c2 ys)) (fun i _ => p - (intOf i).toNat)
              case atStart => exact ⟨0, Nat.zero_le _, rfl, B6, G6, X6, Y6⟩
              case round =>
                obtain ⟨j, hj, rfl, B7, G7, X7, Y7⟩ := hrel
                by_cases hjp : j < p
                · try (exfalso; omega)
                  all_goals
                    have k7 : (j : Int) < (p : Int) := by omega
                    obtain ⟨b7, o7, y7, hA7, hy7, cy7⟩ := slb_cell Y7.out h2.out (show j < n2 by omega)
                    cases hA7
                    have HYY := hid hy7
                    clear hy7
                    cases hby7 : blankB y7
                    · go_wp2_with (first
                        | (go_at_call 18
                           (with_reducible refine (blk_b _ y7 hby7).mono ?_)
                           rintro e u8 ⟨rfl, rfl⟩))
                      go_roundw
                      case rel => exact ⟨j + 1, by omega, by go_num, B7, G7, X7, Y7⟩
                      case measure => simp [intOf] <;> omega
                    · have hut : u = true := by
                        cases u
                        · have := HU.out j y7 hjp HYY.out rfl
                          rw [hby7] at this
                          cases this
                        · rfl
                      have hu7 := hu.out.trans hut
                      clear hut
                      go_wp2_with (first
                        | (go_at_call 18
                           (with_reducible refine (blk_b _ y7 hby7).mono ?_)
                           rintro e u8 ⟨rfl, rfl⟩)
                        | (refine ld26 (by rfl) _ (by rfl) _ (by rfl) t.cs G7.out hs ?_)
                        | (go_at_call 19
                           (with_reducible refine (has_b _ ht hu7).mono ?_)
                           rintro e u9 ⟨rfl, k9⟩
                           have B9 := bel_t B7 k9.out
                           have G9 := hid (box_below G7.out k9.out)
                           have X9 := slb_at X7 k9
                           have Y9 := slb_at Y7 k9))
                      go_roundw
                      case rel => exact ⟨j + 1, by omega, by go_num, B9, G9, X9, Y9⟩
                      case measure => simp [intOf]; omega
                · have k7 : ¬ (j : Int) < (p : Int) := by omega
                  by_cases hn1 : nx = 0
                  · have k8 : ((nx : Int) == 0) = true := by simp; omega
                    go_wp2
                    go_ret
                    exact ⟨rfl, B7⟩
                  · try (exfalso; omega)
                    all_goals
                      obtain ⟨q1, hq1⟩ : ∃ q1, q1 + 1 = nx := ⟨nx - 1, by omega⟩
                      have k8 : ((nx : Int) == 0) = false := by simp; omega
                      obtain ⟨b8, o8, y8, hA8, hy8, cy8⟩ := slb_cell X7.out h1.out (show q1 < nx by omega)
                      subst hA8
                      have hby8 : blankB y8 = true := by
                        have e5 := h1.out
                        rw [← HX.out] at hy8 e5
                        exact rest_last (by omega) hy8
                      have e8 : (nx : Int) - 1 = (q1 : Int) := by omega
                      have k9 : (q1 : Int) < (nx : Int) := by omega
                      clear hy8 hq1
                      go_wp2_with (first
                        | (go_at_call 18
                           (with_reducible refine (blk_b _ y8 hby8).mono ?_)
                           rintro e u8 ⟨rfl, rfl⟩))
                      go_ret
                      exact ⟨rfl, B7⟩
            · obtain ⟨q, hq⟩ : ∃ q, q + 1 = p := ⟨p - 1, by omega⟩
              have kp : 0 < p := by omega
              obtain ⟨b4, o4, y, hA4, hy, cy⟩ := slb_cell Y6.out h2.out (show q < n2 by omega)
              subst hA4
              have e4 : (p : Int) - 1 = (q : Int) := by omega
              have k4 : (q : Int) < (p : Int) := by omega
              have HYq := hid hy
              have HW1 : Hid (Wrd ys (q + 1)) := by rw [hq]; exact HW
              cases hby : blankB y
              · have HD : (ys.take p).reverse = ys.reverse.dropWhile blankB := by rw [← hq]; exact wrd_stop HW1.out hy hby
                clear hy
                have HU : Hid (∀ i y, i < p → ys[i]? = some y → u = false → blankB y = false) := hid fun i y hi hy hu0 => by
                  rw [← HY.out] at hy HD
                  exact wrd_all HD hi hy hu0
                clear HD
                go_wp2_with (first
                  | (go_at_call 18
                     (with_reducible refine (blk_b _ y hby).mono ?_)
                     rintro e u7 ⟨rfl, rfl⟩))
                go_loopw [78] (fun i wr => ∃ j : Nat, j ≤ p ∧ i = .int .i64 (j : Int) ∧ Hid (Below w.heap.size w wr) ∧ Hid (Box wr w.heap.size 26 t.cs) ∧ Hid (SlB wr wr.heap.size A1 c1 X) ∧ Hid (SlB wr wr.heap.size (some ⟨b4, o4, none⟩) c2 ys)) (fun i _ => p - (intOf i).toNat)
                case atStart => exact ⟨0, Nat.zero_le _, rfl, B6, G6, X6, Y6⟩
                case round =>
                  obtain ⟨j, hj, rfl, B7, G7, X7, Y7⟩ := hrel
                  by_cases hjp : j < p
                  · try (exfalso; omega)
                    all_goals
                      have k7 : (j : Int) < (p : Int) := by omega
                      obtain ⟨b7, o7, y7, hA7, hy7, cy7⟩ := slb_cell Y7.out h2.out (show j < n2 by omega)
                      cases hA7
                      have HYY := hid hy7
                      clear hy7
                      cases hby7 : blankB y7
                      · go_wp2_with (first
                          | (go_at_call 18
                             (with_reducible refine (blk_b _ y7 hby7).mono ?_)
                             rintro e u8 ⟨rfl, rfl⟩))
                        go_roundw
                        case rel => exact ⟨j + 1, by omega, by go_num, B7, G7, X7, Y7⟩
                        case measure => simp [intOf] <;> omega
                      · have hut : u = true := by
                          cases u
                          · have := HU.out j y7 hjp HYY.out rfl
                            rw [hby7] at this
                            cases this
                          · rfl
                        have hu7 := hu.out.trans hut
                        clear hut
                        go_wp2_with (first
                          | (go_at_call 18
                             (with_reducible refine (blk_b _ y7 hby7).mono ?_)
                             rintro e u8 ⟨rfl, rfl⟩)
                          | (refine ld26 (by rfl) _ (by rfl) _ (by rfl) t.cs G7.out hs ?_)
                          | (go_at_call 19
                             (with_reducible refine (has_b _ ht hu7).mono ?_)
                             rintro e u9 ⟨rfl, k9⟩
                             have B9 := bel_t B7 k9.out
                             have G9 := hid (box_below G7.out k9.out)
                             have X9 := slb_at X7 k9
                             have Y9 := slb_at Y7 k9))
                        go_roundw
                        case rel => exact ⟨j + 1, by omega, by go_num, B9, G9, X9, Y9⟩
                        case measure => simp [intOf]; omega
                  · have k7 : ¬ (j : Int) < (p : Int) := by omega
                    by_cases hn1 : nx = 0
                    · have k8 : ((nx : Int) == 0) = true := by simp; omega
                      go_wp2
                      go_ret
                      exact ⟨rfl, B7⟩
                    · try (exfalso; omega)
                      all_goals
                        obtain ⟨q1, hq1⟩ : ∃ q1, q1 + 1 = nx := ⟨nx - 1, by omega⟩
                        have k8 : ((nx : Int) == 0) = false := by simp; omega
                        obtain ⟨b8, o8, y8, hA8, hy8, cy8⟩ := slb_cell X7.out h1.out (show q1 < nx by omega)
                        subst hA8
                        have hby8 : blankB y8 = true := by
                          have e5 := h1.out
                          rw [← HX.out] at hy8 e5
                          exact rest_last (by omega) hy8
                        have e8 : (nx : Int) - 1 = (q1 : Int) := by omega
                        have k9 : (q1 : Int) < (nx : Int) := by omega
                        clear hy8 hq1
                        go_wp2_with (first
                          | (go_at_call 18
                             (with_reducible refine (blk_b _ y8 hby8).mono ?_)
                             rintro e u8 ⟨rfl, rfl⟩))
                        go_ret
                        exact ⟨rfl, B7⟩
              · have HW2 := hid (wrd_next HW1.out hy hby)
                have YT := hid (Y6.out.take p)
                have hf := run_front YT.out (show (ys.take p).length = p by rw [List.length_take, h2.out]; omega) (show q ≤ p by omega)
                clear hy
                go_wp2_with (first
                  | (go_at_call 18
                     (with_reducible refine (blk_b _ y hby).mono ?_)
                     rintro e u7 ⟨rfl, rfl⟩))
                go_round
                case rel => exact ⟨q, by omega, rfl, HW2⟩
                case measure => simp [lenOf]; omega
        · have hlt : n1 < nx := by
            rcases tow_le HT.out with h | ⟨h, _⟩
            · rw [h, HX.out, h1.out] at hX
              exact absurd hX.out.symm hd
            · rw [HX.out, h1.out, hX.out] at h
              exact h
          have k2 : (n1 : Int) < (nx : Int) := by omega
          have HT2 : Hid (Tow u bs (eraA u X)) := by
            rcases tow_le HT.out with h | ⟨_, h⟩
            · rw [h, HX.out, h1.out] at hX
              exact absurd hX.out.symm hd
            · exact hid h
          have hne : X ≠ [] := by
            rintro rfl
            have := hX.out
            simp at this
            omega
          have hlt2 := eraA_lt u hne
          rw [hX.out] at hlt2
          have HLT := hid hlt2
          clear hne hlt2 hd
          go_wp2_with (first
            | (refine ld26 (by rfl) _ (by rfl) _ (by rfl) t.cs HG.out hs ?_)
            | (go_at_call 10
               (with_reducible refine (erase_any _ t ht AX nx cx X hu SX hX.out hx6).mono ?_)
               rintro e u3 ⟨A3, n3, c3, A4, n4, c4, rfl, h3, h4, o3, _, k3⟩
               have B3 := bel_t HB k3.out
               have G3 := hid (box_below HG.out k3.out)
               have X3 := slb_at HXs k3
               have Y3 := slb_at HYs k3
               have S3 := slb_own h3 o3))
          go_roundw
          case rel => exact ⟨eraA u X, A3, n3, c3, rfl, by have := HLT.out; rw [h3.out] at this; omega, h3, HT2, S3, X3, Y3, B3, G3⟩
          case measure => have := HLT.out; rw [h3.out] at this; simpa [lenOf] using this
end Go.Proofs.Ytnodlpbmlfdijaa
