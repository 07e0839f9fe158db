import Derived.Test.YtmbnjaahiopanaaGH
namespace Go.Proofs.Ytmbnjaahiopanaa
open Go.RowKit

set_option maxHeartbeats 4000000 in
set_option maxRecDepth 100000 in
theorem pieces_good0 (w : World) (FA : Option Addr) (fc : Nat) (fb : List UInt8) (bad : Bool) (cut : Int) (hg0 : (feedX bad (fb ++ ([] : List UInt8))).2.2 = 0) (hf : SlB w w.heap.size FA fc fb) (h0 : 0 ≤ cut) (h1 : cut < 65536) :
    Calls Try.prog 5 #[.agg #[.slice FA fb.length fc, .bool bad], .slice none 0 0, .int .u16 cut] w fun e w' => e = .returned (.bool true) ∧ Below w.heap.size w w' := by
  obtain ⟨i1, hi1, hz10, hz11, hz12⟩ := info_parts Try.info22
  obtain ⟨fn, HFN⟩ : ∃ z, Hid (fb.length = z) := ⟨_, hid rfl⟩
  have HN : Hid (([] : List UInt8).length = 0) := hid rfl
  rw [HFN.out]
  have HF := hid hf
  have HBB := hid (slb_nil w w.heap.size)
  clear hf
  by_cases hgr : great [fb, ([] : List UInt8)] = true
  · have HG := hid hgr
    clear hgr
    go_enter Try.func5, Try.ntmps5
    go_wp2_with (first
      | (go_at_call 8
         ((with_reducible refine (alive_h _).mono ?_); rintro e w1 ⟨rfl, HBx⟩)
         have HX1 := box_h (box_new w 33 _) HBx
         have c10 := HX1.out.cell 0
         have HB1 := bel_trans (bel_refl1 w _) HBx
         have HF1 := slb_at HF HB1
         have HBB1 := slb_at HBB HB1)
      | (go_at_call 9
         ((with_reducible refine (great_2 _ _ (by simp) FA none fc 0 fn 0 fb ([] : List UInt8) true HF1 HBB1 HFN HN HG).mono ?_); rintro e w2 ⟨rfl, HB2⟩)))
    go_ret
    exact ⟨rfl, (bel_trans HB1 HB2).out⟩
  · have hg : great [fb, ([] : List UInt8)] = false := by simpa using hgr
    have hle := great_two hg
    rw [HFN.out, HN.out] at hle
    obtain ⟨hle1, hle2⟩ := hle
    have HG := hid hg
    clear hgr hg
    obtain ⟨⟨ps, left, er⟩, HX⟩ : ∃ x, Hid (feedX bad (fb ++ ([] : List UInt8)) = x) := ⟨_, hid rfl⟩
    obtain ⟨⟨ps1, left1, g⟩, HX1f⟩ : ∃ x, Hid (feedX bad (fb ++ []) = x) := ⟨_, hid rfl⟩
    have hg : g = 0 := by have h := hg0; rw [HX1f.out] at h; exact h
    clear hg0
    obtain ⟨kp, HK⟩ : ∃ z, Hid (ps.length = z) := ⟨_, hid rfl⟩
    obtain ⟨m, HM⟩ : ∃ z, Hid (left.length = z) := ⟨_, hid rfl⟩
    obtain ⟨bde, HBE⟩ : ∃ z, Hid (decide (er ≠ 0) = z) := ⟨_, hid rfl⟩
    obtain ⟨kp1, HK1⟩ : ∃ z, Hid (ps1.length = z) := ⟨_, hid rfl⟩
    obtain ⟨m1, HM1⟩ : ∃ z, Hid (left1.length = z) := ⟨_, hid rfl⟩
    obtain ⟨hpg, hp0⟩ := pieces (b := []) (k := 0) HX1f.out HX.out
    have hbo := feedX_bounds bad (fb ++ ([] : List UInt8))
    rw [HX.out, List.length_append, HFN.out, HN.out] at hbo
    simp only at hbo
    rw [HK.out, HM.out] at hbo
    obtain ⟨hm1, hk1, hp1⟩ := hbo
    have HP1 : Hid (∀ p ∈ ps, p.length ≤ 1000000) := fun p hp => by have := hp1 p hp; omega
    have hbo1 := (feedX_bounds bad (fb ++ [])).1
    rw [HX1f.out, List.length_append, HFN.out, HN.out] at hbo1
    simp only at hbo1
    rw [HM1.out] at hbo1
    clear hp1
    obtain ⟨rfl, ps2, rfl, hx3⟩ := hp0 hg
    subst hg
    clear hpg hp0
    have HFX3 := hid hx3
    clear hx3
    obtain ⟨kp2, HK2⟩ : ∃ z, Hid (ps2.length = z) := ⟨_, hid rfl⟩
    have HKS : Hid (kp = kp1 + kp2) := by show _ = _; rw [← HK.out, List.length_append, HK1.out, HK2.out]
    have hks : kp = kp1 + kp2 := HKS.out
    subst hks
    have t2 : (er == er) = true := by simp
    have HBE0 : Hid (decide ((0 : Int) ≠ 0) = false) := hid rfl
    go_enter Try.func5, Try.ntmps5
    go_wp2_with (first
      | (go_at_call 8
         ((with_reducible refine (alive_h _).mono ?_); rintro e w1 ⟨rfl, HBx⟩)
         have HX1 := box_h (box_new w 33 _) HBx
         have c10 := HX1.out.cell 0
         have c11 := HX1.out.cell 1
         have HB1 := bel_trans (bel_refl1 w _) HBx
         have HF1 := slb_at HF HB1
         have HBB1 := slb_at HBB HB1)
      | (go_at_call 9
         ((with_reducible refine (great_2 _ _ (by simp) FA none fc 0 fn 0 fb ([] : List UInt8) false HF1 HBB1 HFN HN HG).mono ?_); rintro e w2 ⟨rfl, HB12⟩)
         have HX2 := box_h HX1 HB12
         have c20 := HX2.out.cell 0
         have c21 := HX2.out.cell 1
         have HB2 := bel_trans HB1 HB12
         have HF2 := slb_at HF HB2)
      | (go_at_call 13
         ((with_reducible refine (to_n _ _ FA fc fn fb false HF2 (hid (Nat.le_refl _)) HFN (by omega)).mono ?_); rintro e w3 ⟨A3, c3, rfl, HO3, HB23⟩)
         have HX3 := box_h HX2 HB23
         have HB3 := bel_trans HB2 HB23
         have HI3 := slb_own HFN HO3
         have HBB3 := slb_at HBB HB3)
      | (go_at_call 14
         ((with_reducible refine (feed_n _ _ A3 none c3 0 fn 0 _ m fb ([] : List UInt8) false _ _ _ _ HX HI3 HBB3 (hid (Nat.le_refl _)) HFN HN (by omega) HK HM HBE).mono ?_); rintro e w4 ⟨A4, c4, LA4, lc4, rfl, HFK4⟩)
         have HB34 := hid HFK4.out.bel
         have HB4 := bel_trans HB3 HB34
         have HX4 := box_h HX3 HB34
         skip))
    have HX4y := box_h HX4 (bel_refl1 w4 (.cells #[.slice A4 m c4, .bool bde] 34))
    have HXX4 := box_new w4 34 #[.slice A4 m c4, .bool bde]
    have HB4y := bel_trans HB4 (bel_refl1 w4 (.cells #[.slice A4 m c4, .bool bde] 34))
    have HB44 := bel_refl1 w4 (.cells #[.slice A4 m c4, .bool bde] 34)
    generalize hW : w4.alloc (.cells #[.slice A4 m c4, .bool bde] 34) = W4 at HX4y HXX4 HB4y HB44 ⊢
    have c40 : W4.cell? ⟨w.heap.size, 0, none⟩ = some (.slice FA fn fc) := HX4y.out.cell 0
    have c41 : W4.cell? ⟨w.heap.size, 1, none⟩ = some (.bool false) := HX4y.out.cell 1
    have HF4 : Hid (SlB W4.drew W4.drew.heap.size FA fc fb) := (slb_at HF HB4y).out
    have HX4d : Hid (Box W4.drew w.heap.size 33 #[.slice FA fn fc, .bool false]) := HX4y.out
    have HXX4d : Hid (Box W4.drew w4.heap.size 34 #[.slice A4 m c4, .bool bde]) := HXX4.out
    have HB4d : Hid (Below w.heap.size w W4.drew) := bel_drewN HB4y.out 1
    have HB44d : Hid (Below w4.heap.size w4 W4.drew) := bel_drewN HB44.out 1
    have HTK : Hid (([] : List UInt8).length = 0) := hid rfl
    have HF4y : Hid (SlB (W4.drew.alloc (.cells #[.slice none 0 0, .bool false] 34)) (W4.drew.alloc (.cells #[.slice none 0 0, .bool false] 34)).heap.size FA fc fb) := slb_alloc HF4 _
    have HX4yd := box_h HX4d (bel_refl1 W4.drew (.cells #[.slice none 0 0, .bool false] 34))
    have c42 : (W4.alloc (.cells #[.slice none 0 0, .bool false] 34)).cell? ⟨w.heap.size, 0, none⟩ = some (.slice FA fn fc) := HX4yd.out.cell 0
    have c43 : (W4.alloc (.cells #[.slice none 0 0, .bool false] 34)).cell? ⟨w.heap.size, 1, none⟩ = some (.bool false) := HX4yd.out.cell 1
    clear hW
    go_region_law (first
      | (go_simp
         go_at_call 13
         ((refine (to_n W4.drew _ FA fc fn fb false HF4 (hid (Nat.le_refl _)) HFN (by omega)).mono ?_); rintro e w5 ⟨A5, c5, rfl, HO5, HB45⟩)
         have HB5 := bel_trans HB4d HB45
         have HB45d := HB45
         have HI5 := slb_own HFN HO5
         have HT5 : Hid (SlB w5 w5.heap.size none 0 ([])) := slb_nil _ _
         have HT5y := slb_alloc HT5 (.cells #[.slice none 0 0, .bool false] 34)
         have HI5y := slb_alloc HI5 (.cells #[.slice none 0 0, .bool false] 34)
         have HY5 := box_new w5 34 #[.slice none 0 0, .bool false])
      | (go_simp
         go_at_call 13
         ((refine (to_n (W4.drew.alloc (.cells #[.slice none 0 0, .bool false] 34)) _ FA fc fn fb false HF4y (hid (Nat.le_refl _)) HFN (by omega)).mono ?_); rintro e w5 ⟨A5, c5, rfl, HO5, HB45⟩)
         have HB45d := bel_trans (bel_refl1 W4.drew _) HB45
         have HB5 := bel_trans HB4d HB45d
         have HI5 := slb_own HFN HO5
         have HT5 : Hid (SlB w5 w5.heap.size none 0 ([])) := slb_nil _ _
         have HY5e := box_h (box_new W4.drew 34 #[.slice none 0 0, .bool false]) HB45)
      | (go_simp
         go_at_call 14
         ((refine (feed_n w5 _ A5 none c5 0 fn 0 kp1 m1 fb ([]) false _ _ _ _ HX1f HI5 HT5 (hid (Nat.le_refl _)) HFN HTK (by omega) HK1 HM1 HBE0).mono ?_); rintro e w6 ⟨A6, c6, LA6, lc6, rfl, HFK6⟩)
         have HB56 := hid HFK6.out.bel
         have HY6 := box_h HY5e HB56
         have c60 : w6.cell? ⟨W4.heap.size, 0, none⟩ = some (.slice none 0 0) := HY6.out.cell 0
         have c61 : w6.cell? ⟨W4.heap.size, 1, none⟩ = some (.bool false) := HY6.out.cell 1
         have f60 : w6.frozen? ⟨W4.heap.size, 0, none⟩ = false := HY6.out.frozen 0
         have f61 : w6.frozen? ⟨W4.heap.size, 1, none⟩ = false := HY6.out.frozen 1
         have HYP1 : Hid (Box w6 W4.heap.size 34 #[.slice none 0 0, .bool false]) := HY6)
      | (go_simp
         go_at_call 14
         ((refine (feed_n w5 _ A5 none c5 0 fn 0 kp1 m1 fb ([]) false _ _ _ _ HX1f HI5 HT5 (hid (Nat.le_refl _)) HFN HTK (by omega) HK1 HM1 HBE0).mono ?_); rintro e w6 ⟨A6, c6, LA6, lc6, rfl, HFK6⟩)
         have HB56 := hid HFK6.out.bel
         have HYP3 := HFK6)
      | (go_simp
         go_at_call 14
         ((refine (feed_n (w5.alloc (.cells #[.slice none 0 0, .bool false] 34)) _ A5 none c5 0 fn 0 kp1 m1 fb ([]) false _ _ _ _ HX1f HI5y HT5y (hid (Nat.le_refl _)) HFN HTK (by omega) HK1 HM1 HBE0).mono ?_); rintro e w6 ⟨A6, c6, LA6, lc6, rfl, HFK6⟩)
         have HB56 := bel_trans (bel_refl1 w5 _) (hid HFK6.out.bel)
         have HY6 := box_h HY5 (hid HFK6.out.bel)
         have c60 := HY6.out.cell 0
         have c61 := HY6.out.cell 1
         have f60 := HY6.out.frozen 0
         have f61 := HY6.out.frozen 1
         have HYP2 := HY6))
    all_goals
      have HFa := hid (FK.of HFK6.out)
      have HB46 := bel_trans HB45d HB56
      first
        | (have hY := yr_set HYP1.out (.slice A6 m1 c6) (.bool false)
           have hB := yr_bel HB46 (y := W4.heap.size) (Nat.le_refl _) (.slice A6 m1 c6) (.bool false)
           clear c60 c61 f60 f61
           generalize (w6.setCell _ _).setCell _ _ = W9 at hY hB ⊢
           have hY2 : YR w6 W9 W4.heap.size (.slice A6 m1 c6) (.bool false) := hY
           clear hY
           generalize W4.heap.size = y at hY2 ⊢
           have HY9 := hid hY2
           clear hY2)
        | (have hY := yr_set HYP2.out (.slice A6 m1 c6) (.bool false)
           have hB := yr_bel HB46 (y := w5.heap.size) HB45d.out.size (.slice A6 m1 c6) (.bool false)
           clear c60 c61 f60 f61
           generalize (w6.setCell _ _).setCell _ _ = W9 at hY hB ⊢
           generalize w5.heap.size = y at hY ⊢
           have HY9 := hid hY
           clear hY)
        | (have hq := HYP3
           have hY := yr_new w6 (.slice A6 m1 c6) (.bool false)
           have hB := (bel_trans HB46 (bel_refl1 w6 (.cells #[.slice A6 m1 c6, .bool false] 34))).out
           generalize w6.alloc _ = W9 at hY hB ⊢
           generalize w6.heap.size = y at hY ⊢
           have HY9 := hid hY
           clear hq hY)
      have HB49 := hid hB
      clear hB
      have HFK9 := hid (HFa.out.kept HY9.out.kp (by decide) (by decide))
      have HB9 : Hid (Below w.heap.size w W9) := bel_trans HB4d HB49
      have HB49x : Hid (Below w4.heap.size w4 W9) := bel_trans HB44d HB49
      have HXX9 : Hid (Box W9 w4.heap.size 34 #[.slice A4 m c4, .bool bde]) := box_h HXX4d HB49
      have y0 : W9.cell? ⟨y, 0, none⟩ = some (.slice A6 m1 c6) := HY9.out.bx.cell 0
      have y1 : W9.cell? ⟨y, 1, none⟩ = some (.bool false) := HY9.out.bx.cell 1
      clear c40 c41 c42 c43 HF4 HF4y
      go_wp2
      have HY9a := box_h (hid HY9.out.bx) (bel_refl1 W9 (.cells #[.slice none 0 0, .bool false] 34))
      have y2 : (W9.alloc (.cells #[.slice none 0 0, .bool false] 34)).cell? ⟨y, 0, none⟩ = some (.slice A6 m1 c6) := HY9a.out.cell 0
      have y3 : (W9.alloc (.cells #[.slice none 0 0, .bool false] 34)).cell? ⟨y, 1, none⟩ = some (.bool false) := HY9a.out.cell 1
      have HS9 : Hid (SlB W9.drew W9.drew.heap.size A6 c6 left1) := FK.slb HFK9 HM1
      have HBK9 : Hid (SlB W9.drew W9.drew.heap.size none 0 ([] : List UInt8)) := slb_nil _ _
      have HS9y := slb_alloc HS9 (.cells #[.slice none 0 0, .bool false] 34)
      have HBK9y := slb_alloc HBK9 (.cells #[.slice none 0 0, .bool false] 34)
      have HDK : Hid (([] : List UInt8).length = 0) := hid rfl
      go_region_law (first
        | (go_simp
           go_at_call 14
           ((refine (feed_n W9.drew _ A6 _ c6 0 m1 0 kp2 m left1 ([]) false _ _ _ _ HFX3 HS9 HBK9 (hid (Nat.le_refl _)) HM1 HDK (by omega) HK2 HM HBE).mono ?_); rintro e w7 ⟨A7, c7, LA7, lc7, rfl, HFK7⟩)
           have HB97 := hid HFK7.out.bel
           have HZP2 := HFK7)
        | (go_simp
           go_at_call 14
           ((refine (feed_n (W9.drew.alloc (.cells #[.slice none 0 0, .bool false] 34)) _ A6 _ c6 0 m1 0 kp2 m left1 ([]) false _ _ _ _ HFX3 HS9y HBK9y (hid (Nat.le_refl _)) HM1 HDK (by omega) HK2 HM HBE).mono ?_); rintro e w7 ⟨A7, c7, LA7, lc7, rfl, HFK7⟩)
           have HB97 := bel_trans (bel_refl1 W9.drew _) (hid HFK7.out.bel)
           have HZP1 : Hid (Box w7 W9.heap.size 34 #[.slice none 0 0, .bool false]) := box_h (box_new W9.drew 34 #[.slice none 0 0, .bool false]) (hid HFK7.out.bel)
           have c70 : w7.cell? ⟨W9.heap.size, 0, none⟩ = some (.slice none 0 0) := HZP1.out.cell 0
           have c71 : w7.cell? ⟨W9.heap.size, 1, none⟩ = some (.bool false) := HZP1.out.cell 1
           have f70 : w7.frozen? ⟨W9.heap.size, 0, none⟩ = false := HZP1.out.frozen 0
           have f71 : w7.frozen? ⟨W9.heap.size, 1, none⟩ = false := HZP1.out.frozen 1))
      all_goals
        first
          | (have hZ := yr_set HZP1.out (.slice A7 m c7) (.bool bde)
             have hB := yr_bel HB97 (y := W9.heap.size) (Nat.le_refl _) (.slice A7 m c7) (.bool bde)
             clear c70 c71 f70 f71
             generalize (w7.setCell _ _).setCell _ _ = W10 at hZ hB ⊢
             generalize hz : W9.heap.size = z at hZ ⊢
             have HZ10 := hid hZ
             clear hZ hz)
          | (have hZ := yr_new w7 (.slice A7 m c7) (.bool bde)
             have hq := HZP2
             have hB := (bel_trans HB97 (bel_refl1 w7 (.cells #[.slice A7 m c7, .bool bde] 34))).out
             generalize w7.alloc _ = W10 at hZ hB ⊢
             generalize w7.heap.size = z at hZ ⊢
             have HZ10 := hid hZ
             clear hZ hq)
        have HB910 : Hid (Below W9.heap.size W9 W10) := (bel_drewN (Below.refl _ W9) 1).trans hB
        clear hB
        have HFK7k := hid ((FK.of HFK7.out).kept HZ10.out.kp (by decide) (by decide))
        have HB10 := bel_trans HB9 HB910
        have HXX10 := box_h HXX9 HB910
        have z0 := HZ10.out.bx.cell 0
        have z1 := HZ10.out.bx.cell 1
        have x0 := HXX10.out.cell 0
        have x1 := HXX10.out.cell 1
        have HFK4k := FK.bel (hid (FK.of HFK4.out)) (bel_trans HB49x HB910)
        have HFK6k := FK.bel HFK9 HB910
        clear y0 y1 y2 y3 HS9 HS9y HBK9 HBK9y
        obtain ⟨cs1, HV1, HLc1⟩ := FK.cv HFK6k
        obtain ⟨cs2, HV2, HLc2⟩ := FK.cv HFK7k
        have HS4 : Hid (Lies W10 W10.heap.size A4 (bv left)) := (FK.slb HFK4k HM).out.2.2.2
        have HS7 : Hid (Lies W10 W10.heap.size A7 (bv left)) := (FK.slb HFK7k HM).out.2.2.2
        have hcl1 : Hid (cs1.length = kp1 * 1) := by show _ = _; rw [HV1.out.1, HK1.out, Nat.mul_one]
        have hcl2 : Hid (cs2.length = kp2 * 1) := by show _ = _; rw [HV2.out.1, HK2.out, Nat.mul_one]
        go_wp2_with (first
          | (go_at_call 16
             ((with_reducible refine (same_t _ A4 A7 c4 c7 m left bde HS4 HS7 HM (by omega)).mono ?_); rintro e w11 ⟨rfl, HB11⟩)
             have HLc1b := lies_bel HLc1 HB11
             have HLc2b := lies_bel HLc2 HB11)
          | (at_builtin
             (
               refine wpList_app_g _ (by rfl) (.tmp 94) (.tmp 95) 36 rfl w11.heap.size 22 i1 _ 1 24 Try.underlying36 hi1 hz10 hz11 hz12 rfl (by decide) (some ⟨w11.heap.size, 0, none⟩) 0 0 [] rfl (lit_own (w := w11) (Nat.le_refl _) rfl) w11.heap.size LA6 kp1 lc6 cs1 rfl hcl1.out (HLc1b.out.alloc (Nat.le_refl _) _) HV1.out.one (by unfold maxLen; omega) (by omega) (by simp) ?_
               intro A12 c12 w12 ho12 hg12
               have HB12z := hid (lit_grown (w := w11) rfl hg12)
               have HO12 : Hid (w12.ownsRow w11.heap.size 22 1 (.slice A12 kp1 c12) kp1 cs1) := by
                 show World.ownsRow _ _ _ _ _ _ _
                 simpa using ho12
               have HLc2c := lies_bel HLc2b HB12z
               have hs12 : w11.heap.size ≤ w12.heap.size := HB12z.out.size
               clear ho12 hg12))
          | (at_builtin
             (
               refine wpList_app_g _ (by rfl) (.tmp 96) (.tmp 97) 36 rfl w11.heap.size 22 i1 _ 1 24 Try.underlying36 hi1 hz10 hz11 hz12 rfl (by decide) A12 kp1 c12 cs1 rfl HO12.out w12.heap.size LA7 kp2 lc7 cs2 rfl hcl2.out HLc2c.out HV2.out.one (by unfold maxLen; omega) (by omega) hs12 ?_
               intro A13 c13 w13 ho13 hg13
               have HB13z : Hid (Below w11.heap.size w11 w13) := app_bel HB12z.out HO12.out hg13
               have HB1013 := bel_trans HB11 HB13z
               have HL13 : Hid (LisV w13 w13.heap.size A13 (ps1 ++ ps2)) := lisV_own ho13 ((HV1.out.keep HB1013.out).append (HV2.out.keep HB1013.out))
               have HL4 : Hid (LisV w13 w13.heap.size LA4 (ps1 ++ ps2)) := FK.lis (FK.bel HFK4k HB1013)
               clear ho13 hg13))
          | (go_at_call 17
             ((with_reducible refine (lists_t _ LA4 A13 lc4 c13 _ (ps1 ++ ps2) HL4 HL13 HK (by omega) HP1).mono ?_); rintro e w14 ⟨d, rfl, rfl⟩)))
        all_goals
          go_ret
          exact ⟨rfl, bel_drewN (bel_trans HB10 HB1013).out d⟩
end Go.Proofs.Ytmbnjaahiopanaa
