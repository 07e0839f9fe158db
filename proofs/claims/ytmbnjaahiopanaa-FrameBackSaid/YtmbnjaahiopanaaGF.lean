import Derived.Test.YtmbnjaahiopanaaGC
import Derived.Test.YtmbnjaahiopanaaGD
namespace Go.Proofs.Ytmbnjaahiopanaa
open Go.RowKit

theorem number_l (w : World) (A : Option Addr) (c n q : Nat) (s : List UInt8) (hq : Hid (num4 s = q)) (h : Hid (Lies w w.heap.size A (bv s))) (hn : Hid (s.length = n)) (h4 : 4 ≤ n) (hl : n ≤ 1000000) :
    Calls Try.prog 18 #[.slice A n c] w fun e w' => ∃ d, e = .returned (.int .u32 q) ∧ w' = w.drewN d := by
  have h1 := hn.out
  subst h1
  have h2 := hq.out
  subst h2
  refine (number_r w _ A c s h.out h4 hl).mono ?_
  rintro e w' ⟨rfl, d, rfl⟩
  exact ⟨d, rfl, rfl⟩
theorem feedX_true (s : List UInt8) : feedX true s = ([], [], 9) := rfl
theorem feedX_false (s : List UInt8) : feedX false s = feedF s := rfl
/-- What Feed's answer is: an error of a bad framer, of bad bytes, or none. -/
theorem feedX_cases {bad : Bool} {s : List UInt8} {ps : List (List UInt8)} {left : List UInt8} {er : Int} (h : feedX bad s = (ps, left, er)) :
    (bad = true ∧ ps = [] ∧ left = [] ∧ er = 9) ∨ (bad = false ∧ left = [] ∧ er = 5) ∨ (bad = false ∧ er = 0 ∧ nextF left = (0, 3)) := by
  cases bad with
  | true =>
    rw [feedX_true] at h
    injection h with h1 h2
    injection h2 with h2 h3
    exact .inl ⟨rfl, h1.symm, h2.symm, h3.symm⟩
  | false =>
    rw [feedX_false] at h
    rcases feedF_err s with h0 | ⟨h5, hl⟩
    · have hx := feedF_left s h0
      rw [h] at h0 hx
      exact .inr (.inr ⟨rfl, h0, hx⟩)
    · rw [h] at h5 hl
      exact .inr (.inl ⟨rfl, hl, h5⟩)
theorem nextF_three {s : List UInt8} (h : nextF s = (0, 3)) (h4 : ¬ s.length < 4) : 1 ≤ num4 s ∧ num4 s ≤ 33792 ∧ s.length < 4 + num4 s := by
  by_cases hb : num4 s < 1 ∨ 33792 < num4 s
  · rw [nextF_bad h4 hb] at h; simp at h
  · by_cases hs : s.length < 4 + num4 s
    · omega
    · rw [nextF_full h4 hb hs] at h; simp at h

set_option maxHeartbeats 4000000 in
set_option maxRecDepth 100000 in
theorem bads_any (w : World) (FA A A2 : Option Addr) (fc c c2 : Nat) (fb b cb : List UInt8) (bad : Bool) (hf : SlB w w.heap.size FA fc fb) (hb : SlB w w.heap.size A c b) (hcb : SlB w w.heap.size A2 c2 cb) :
    Calls Try.prog 7 #[.agg #[.slice FA fb.length fc, .bool bad], .slice A b.length c, .slice A2 cb.length c2] w fun e w' => e = .returned (.bool true) ∧ Below w.heap.size w w' := by
  obtain ⟨fn, HFN⟩ : ∃ n, Hid (fb.length = n) := ⟨_, hid rfl⟩
  obtain ⟨n, HN⟩ : ∃ n, Hid (b.length = n) := ⟨_, hid rfl⟩
  obtain ⟨n2, HN2⟩ : ∃ n, Hid (cb.length = n) := ⟨_, hid rfl⟩
  rw [HFN.out, HN.out, HN2.out]
  have HF := hid hf
  have HBB := hid hb
  have HCB := hid hcb
  clear hf hb hcb
  by_cases hgr : great [fb, b, cb] = true
  · have HG := hid hgr
    clear hgr
    go_enter Try.func7, Try.ntmps7
    go_wp2_with (first
      | (go_at_call 8
         ((with_reducible refine (alive_h _).mono ?_); rintro e w1 ⟨rfl, HBx⟩)
         have HX1 := box_h (box_new w 33 _) HBx
         have c10 := HX1.out.cell 0
         have HB1 := bel_trans (bel_refl1 w _) HBx
         have HF1 := slb_at HF HB1
         have HBB1 := slb_at HBB HB1
         have HCB1 := slb_at HCB HB1)
      | (go_at_call 9
         ((with_reducible refine (great_3 _ _ (by simp) FA A A2 fc c c2 fn n n2 fb b cb true HF1 HBB1 HCB1 HFN HN HN2 HG).mono ?_); rintro e w2 ⟨rfl, HB2⟩)))
    go_ret
    exact ⟨rfl, (bel_trans HB1 HB2).out⟩
  · have hg : great [fb, b, cb] = false := by simpa using hgr
    have hle := great_three hg
    rw [HFN.out, HN.out, HN2.out] at hle
    obtain ⟨hle1, hle2, hle3⟩ := hle
    have HG := hid hg
    clear hgr hg
    obtain ⟨⟨ps, left, er⟩, HX⟩ : ∃ x, Hid (feedX bad (fb ++ b) = x) := ⟨_, hid rfl⟩
    obtain ⟨k, HK⟩ : ∃ z, Hid (ps.length = z) := ⟨_, hid rfl⟩
    have hbo := (feedX_bounds bad (fb ++ b)).1
    rw [HX.out, List.length_append, HFN.out, HN.out] at hbo
    simp only at hbo
    have HM0 : Hid (([] : List UInt8).length = 0) := hid rfl
    have HP0 : Hid (([] : List (List UInt8)).length = 0) := hid rfl
    have HD0 : Hid (decide ((9 : Int) ≠ 0) = true) := hid rfl
    rcases feedX_cases HX.out with ⟨rfl, rfl, rfl, rfl⟩ | ⟨rfl, rfl, rfl⟩ | ⟨rfl, rfl, hn3⟩
    · have HM : Hid (([] : List UInt8).length = 0) := hid rfl
      have HBD : Hid (decide ((9 : Int) ≠ 0) = true) := hid rfl
      go_enter Try.func7, Try.ntmps7
      go_wp2_with (first
        | (go_at_call 8
           ((with_reducible refine (alive_h _).mono ?_); rintro e w1 ⟨rfl, HBx⟩)
           have HX1 := box_h (box_new w 33 _) HBx
           have c10 := HX1.out.cell 0
           have c11 := HX1.out.cell 1
           have HB1 := bel_trans (bel_refl1 w _) HBx
           have HF1 := slb_at HF HB1
           have HBB1 := slb_at HBB HB1
           have HCB1 := slb_at HCB HB1)
        | (go_at_call 9
           ((with_reducible refine (great_3 _ _ (by simp) FA A A2 fc c c2 fn n n2 fb b cb false HF1 HBB1 HCB1 HFN HN HN2 HG).mono ?_); rintro e w2 ⟨rfl, HB12⟩)
           have HX2 := box_h HX1 HB12
           have c20 := HX2.out.cell 0
           have c21 := HX2.out.cell 1
           have HB2 := bel_trans HB1 HB12
           have HF2 := slb_at HF HB2)
        | (go_at_call 13
           ((with_reducible refine (to_n _ _ FA fc fn fb _ HF2 (hid (Nat.le_refl _)) HFN (by omega)).mono ?_); rintro e w3 ⟨A3, c3, rfl, HO3, HB23⟩)
           have HX3 := box_h HX2 HB23
           have HB3 := bel_trans HB2 HB23
           have HI3 := slb_own HFN HO3
           have HBB3 := slb_at HBB HB3)
        | (go_at_call 14
           ((with_reducible refine (feed_n _ _ A3 A c3 c fn n k 0 fb b _ true _ _ 9 HX HI3 HBB3 (hid (Nat.le_refl _)) HFN HN (by omega) HK HM HBD).mono ?_); rintro e w4 ⟨A4, c4, LA4, lc4, rfl, HFK⟩)
           have HB34 := hid HFK.out.bel
           have HB4 := bel_trans HB3 HB34
           have HX4 := box_h HX3 HB34
           have HCB4 := slb_alloc (slb_at HCB HB4) (.cells #[.slice A4 0 c4, .bool true] 34)
           have HE4 : Hid (SlB (w4.alloc (.cells #[.slice A4 0 c4, .bool true] 34)) (w4.alloc (.cells #[.slice A4 0 c4, .bool true] 34)).heap.size A4 c4 []) := slb_alloc (hid HFK.out.slb) _)
        | (go_at_call 14
           ((with_reducible refine (feed_n _ _ A4 A2 c4 c2 0 n2 0 0 [] cb true true [] [] 9 (hid (feedX_true _)) HE4 HCB4 (hid (Nat.le_refl _)) HM0 HN2 (by omega) HP0 HM0 HD0).mono ?_); rintro e w5 ⟨A5, c5, LA5, lc5, rfl, HFK5⟩)
           have HB45 := bel_trans (bel_refl1 w4 _) (hid HFK5.out.bel)
           have HB5 := bel_trans HB4 HB45
           have HXX5 := box_h (box_h (box_new w4 34 _) (hid HFK5.out.bel)) (bel_refl1 w5 (.cells #[.slice A5 0 c5, .bool true] 34))
           have HXF5 := box_h (box_h HX4 HB45) (bel_refl1 w5 (.cells #[.slice A5 0 c5, .bool true] 34))
           have k0 := HXX5.out.cell 0
           have k1 := HXX5.out.cell 1
           have k2 := HXF5.out.cell 0
           have k3 := HXF5.out.cell 1))
      go_ret
      exact ⟨rfl, (bel_trans HB5 (bel_refl1 w5 _)).out⟩
    · have HM : Hid (([] : List UInt8).length = 0) := hid rfl
      have HBD : Hid (decide ((5 : Int) ≠ 0) = true) := hid rfl
      go_enter Try.func7, Try.ntmps7
      go_wp2_with (first
        | (go_at_call 8
           ((with_reducible refine (alive_h _).mono ?_); rintro e w1 ⟨rfl, HBx⟩)
           have HX1 := box_h (box_new w 33 _) HBx
           have c10 := HX1.out.cell 0
           have c11 := HX1.out.cell 1
           have HB1 := bel_trans (bel_refl1 w _) HBx
           have HF1 := slb_at HF HB1
           have HBB1 := slb_at HBB HB1
           have HCB1 := slb_at HCB HB1)
        | (go_at_call 9
           ((with_reducible refine (great_3 _ _ (by simp) FA A A2 fc c c2 fn n n2 fb b cb false HF1 HBB1 HCB1 HFN HN HN2 HG).mono ?_); rintro e w2 ⟨rfl, HB12⟩)
           have HX2 := box_h HX1 HB12
           have c20 := HX2.out.cell 0
           have c21 := HX2.out.cell 1
           have HB2 := bel_trans HB1 HB12
           have HF2 := slb_at HF HB2)
        | (go_at_call 13
           ((with_reducible refine (to_n _ _ FA fc fn fb _ HF2 (hid (Nat.le_refl _)) HFN (by omega)).mono ?_); rintro e w3 ⟨A3, c3, rfl, HO3, HB23⟩)
           have HX3 := box_h HX2 HB23
           have HB3 := bel_trans HB2 HB23
           have HI3 := slb_own HFN HO3
           have HBB3 := slb_at HBB HB3)
        | (go_at_call 14
           ((with_reducible refine (feed_n _ _ A3 A c3 c fn n k 0 fb b _ true _ _ 5 HX HI3 HBB3 (hid (Nat.le_refl _)) HFN HN (by omega) HK HM HBD).mono ?_); rintro e w4 ⟨A4, c4, LA4, lc4, rfl, HFK⟩)
           have HB34 := hid HFK.out.bel
           have HB4 := bel_trans HB3 HB34
           have HX4 := box_h HX3 HB34
           have HCB4 := slb_alloc (slb_at HCB HB4) (.cells #[.slice A4 0 c4, .bool true] 34)
           have HE4 : Hid (SlB (w4.alloc (.cells #[.slice A4 0 c4, .bool true] 34)) (w4.alloc (.cells #[.slice A4 0 c4, .bool true] 34)).heap.size A4 c4 []) := slb_alloc (hid HFK.out.slb) _)
        | (go_at_call 14
           ((with_reducible refine (feed_n _ _ A4 A2 c4 c2 0 n2 0 0 [] cb true true [] [] 9 (hid (feedX_true _)) HE4 HCB4 (hid (Nat.le_refl _)) HM0 HN2 (by omega) HP0 HM0 HD0).mono ?_); rintro e w5 ⟨A5, c5, LA5, lc5, rfl, HFK5⟩)
           have HB45 := bel_trans (bel_refl1 w4 _) (hid HFK5.out.bel)
           have HB5 := bel_trans HB4 HB45
           have HXX5 := box_h (box_h (box_new w4 34 _) (hid HFK5.out.bel)) (bel_refl1 w5 (.cells #[.slice A5 0 c5, .bool true] 34))
           have HXF5 := box_h (box_h HX4 HB45) (bel_refl1 w5 (.cells #[.slice A5 0 c5, .bool true] 34))
           have k0 := HXX5.out.cell 0
           have k1 := HXX5.out.cell 1
           have k2 := HXF5.out.cell 0
           have k3 := HXF5.out.cell 1))
      go_ret
      exact ⟨rfl, (bel_trans HB5 (bel_refl1 w5 _)).out⟩
    · obtain ⟨m, HM⟩ : ∃ z, Hid (left.length = z) := ⟨_, hid rfl⟩
      have HBD : Hid (decide ((0 : Int) ≠ 0) = false) := hid rfl
      rw [HM.out] at hbo
      by_cases hm4 : m < 4
      · have t1 : (m : Int) < 4 := by omega
        go_enter Try.func7, Try.ntmps7
        go_wp2_with (first
          | (go_at_call 8
             ((with_reducible refine (alive_h _).mono ?_); rintro e w1 ⟨rfl, HBx⟩)
             have HX1 := box_h (box_new w 33 _) HBx
             have c10 := HX1.out.cell 0
             have c11 := HX1.out.cell 1
             have HB1 := bel_trans (bel_refl1 w _) HBx
             have HF1 := slb_at HF HB1
             have HBB1 := slb_at HBB HB1
             have HCB1 := slb_at HCB HB1)
          | (go_at_call 9
             ((with_reducible refine (great_3 _ _ (by simp) FA A A2 fc c c2 fn n n2 fb b cb false HF1 HBB1 HCB1 HFN HN HN2 HG).mono ?_); rintro e w2 ⟨rfl, HB12⟩)
             have HX2 := box_h HX1 HB12
             have c20 := HX2.out.cell 0
             have c21 := HX2.out.cell 1
             have HB2 := bel_trans HB1 HB12
             have HF2 := slb_at HF HB2)
          | (go_at_call 13
             ((with_reducible refine (to_n _ _ FA fc fn fb _ HF2 (hid (Nat.le_refl _)) HFN (by omega)).mono ?_); rintro e w3 ⟨A3, c3, rfl, HO3, HB23⟩)
             have HX3 := box_h HX2 HB23
             have HB3 := bel_trans HB2 HB23
             have HI3 := slb_own HFN HO3
             have HBB3 := slb_at HBB HB3)
          | (go_at_call 14
             ((with_reducible refine (feed_n _ _ A3 A c3 c fn n k m fb b _ false _ _ 0 HX HI3 HBB3 (hid (Nat.le_refl _)) HFN HN (by omega) HK HM HBD).mono ?_); rintro e w4 ⟨A4, c4, LA4, lc4, rfl, HFK⟩)
             have HB34 := hid HFK.out.bel
             have HB4 := bel_trans HB3 HB34
             have HX4 := box_h HX3 HB34
             have HCB4 := slb_alloc (slb_at HCB HB4) (.cells #[.slice A4 m c4, .bool false] 34)))
        go_ret
        exact ⟨rfl, (bel_trans HB4 (bel_refl1 w4 _)).out⟩
      · have t1 : ¬ ((m : Int) < 4) := by omega
        obtain ⟨q, Hq⟩ : ∃ z, Hid (num4 left = z) := ⟨_, hid rfl⟩
        obtain ⟨q1, q2, q3⟩ := nextF_three hn3 (by rw [HM.out]; exact hm4)
        rw [Hq.out] at q1 q2 q3
        rw [HM.out] at q3
        have t2 : (1 : Int) ≤ q := by omega
        have t3 : (q : Int) ≤ 33792 := by omega
        have t4 : (m : Int) - 4 < q := by omega
        have t5 : ((m : Int) - 4) % 4294967296 = (m : Int) - 4 := by omega
        have h4m : 4 ≤ m := by omega
        go_enter Try.func7, Try.ntmps7
        go_wp2_with (first
          | (go_at_call 8
             ((with_reducible refine (alive_h _).mono ?_); rintro e w1 ⟨rfl, HBx⟩)
             have HX1 := box_h (box_new w 33 _) HBx
             have c10 := HX1.out.cell 0
             have c11 := HX1.out.cell 1
             have HB1 := bel_trans (bel_refl1 w _) HBx
             have HF1 := slb_at HF HB1
             have HBB1 := slb_at HBB HB1
             have HCB1 := slb_at HCB HB1)
          | (go_at_call 9
             ((with_reducible refine (great_3 _ _ (by simp) FA A A2 fc c c2 fn n n2 fb b cb false HF1 HBB1 HCB1 HFN HN HN2 HG).mono ?_); rintro e w2 ⟨rfl, HB12⟩)
             have HX2 := box_h HX1 HB12
             have c20 := HX2.out.cell 0
             have c21 := HX2.out.cell 1
             have HB2 := bel_trans HB1 HB12
             have HF2 := slb_at HF HB2)
          | (go_at_call 13
             ((with_reducible refine (to_n _ _ FA fc fn fb _ HF2 (hid (Nat.le_refl _)) HFN (by omega)).mono ?_); rintro e w3 ⟨A3, c3, rfl, HO3, HB23⟩)
             have HX3 := box_h HX2 HB23
             have HB3 := bel_trans HB2 HB23
             have HI3 := slb_own HFN HO3
             have HBB3 := slb_at HBB HB3)
          | (go_at_call 14
             ((with_reducible refine (feed_n _ _ A3 A c3 c fn n k m fb b _ false _ _ 0 HX HI3 HBB3 (hid (Nat.le_refl _)) HFN HN (by omega) HK HM HBD).mono ?_); rintro e w4 ⟨A4, c4, LA4, lc4, rfl, HFK⟩)
             have HB34 := hid HFK.out.bel
             have HB4 := bel_trans HB3 HB34
             have HX4 := box_h HX3 HB34
             have HCB4 := slb_alloc (slb_at HCB HB4) (.cells #[.slice A4 m c4, .bool false] 34)
             have HL4 := lies_alloc (hid HFK.out.slb.2.2.2) (.cells #[.slice A4 m c4, .bool false] 34))
          | (go_at_call 18
             ((with_reducible refine (number_l _ A4 c4 m q left Hq HL4 HM h4m (by omega)).mono ?_); rintro e w5 ⟨d, rfl, rfl⟩)))
        go_ret
        exact ⟨rfl, bel_drewN (bel_trans HB4 (bel_refl1 w4 _)).out d⟩
end Go.Proofs.Ytmbnjaahiopanaa
