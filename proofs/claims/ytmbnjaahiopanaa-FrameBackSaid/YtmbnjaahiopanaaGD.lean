import Derived.Test.YtmbnjaahiopanaaGC
namespace Go.Proofs.Ytmbnjaahiopanaa
open Go.RowKit

theorem own_mut {base M base2 : Nat} {w w' : World} {e : TypeId} {size n : Nat} {v : Value} {xs : List Value} (h : w.ownsRow base2 e size v n xs) (m : Mut base M w w') (he : e ≠ 5) : w'.ownsRow base2 e size v n xs := by
  refine ⟨h.1, ?_⟩
  rcases h.2 with hn | ⟨g, cap, cur, rfl, hb, hgg, rest⟩
  · exact .inl hn
  · exact .inr ⟨g, cap, cur, rfl, hb, m.box hgg he, rest⟩
theorem slb_own {w : World} {base n c : Nat} {A : Option Addr} {bs : List UInt8} (hn : Hid (bs.length = n)) (h : Hid (w.ownsRow base 5 1 (.slice A n c) n (bv bs))) : Hid (SlB w w.heap.size A c bs) := by
  have h1 := hn.out
  subst h1
  exact own_slb (n := 0) h.out
theorem own_lo {w : World} {base n c : Nat} {A : Option Addr} {xs : List Value} (h : w.ownsRow base 5 1 (.slice A n c) n xs) : ∀ a, A = some a → base ≤ a.block := fun a e => by subst e; exact (h.lt a.block rfl).1
theorem bel_refl1 (w : World) (o : Obj) : Hid (Below w.heap.size w (w.alloc o)) := (Below.refl _ _).alloc (Nat.le_refl _) o
theorem bel_refl (w : World) : Hid (Below w.heap.size w w) := Below.refl _ _
theorem mut_lies {base M : Nat} {w w' : World} {A : Option Addr} {cs : List Value} (h : Lies w w.heap.size A cs) (hA : ∀ a, A = some a → M ≤ a.block) (m : Mut base M w w') : Hid (Lies w' w'.heap.size A cs) := (h.mut hA (Nat.le_refl _) m).more m.size
theorem box_h {w w' : World} {g : Nat} {t : TypeId} {cs : Array Value} (h : Hid (Box w g t cs)) (hb : Hid (Below w.heap.size w w')) : Hid (Box w' g t cs) := box_below h.out hb.out
theorem box_new (w : World) (t : TypeId) (cs : Array Value) : Hid (Box (w.alloc (.cells cs t)) w.heap.size t cs) := Box.new w t cs

set_option maxHeartbeats 4000000 in
set_option maxRecDepth 100000 in
theorem feeds_any (w : World) (FA A : Option Addr) (fc c : Nat) (fb b : List UInt8) (bad : Bool) (hf : SlB w w.heap.size FA fc fb) (hb : SlB w w.heap.size A c b) :
    Calls Try.prog 4 #[.agg #[.slice FA fb.length fc, .bool bad], .slice A b.length c] w fun e w' => e = .returned (.bool true) ∧ Below w.heap.size w w' := by
  obtain ⟨i0, hi0, hz0, hz1, hz2⟩ := info_parts Try.info5
  obtain ⟨fn, HFN⟩ : ∃ n, Hid (fb.length = n) := ⟨_, hid rfl⟩
  obtain ⟨n, HN⟩ : ∃ n, Hid (b.length = n) := ⟨_, hid rfl⟩
  rw [HFN.out, HN.out]
  have HF := hid hf
  have HBB := hid hb
  clear hf hb
  by_cases hgr : great [fb, b] = true
  · have HG := hid hgr
    clear hgr
    go_enter Try.func4, Try.ntmps4
    go_wp2_with (first
      | (go_at_call 8
         ((with_reducible refine (alive_h _).mono ?_); rintro e w1 ⟨rfl, HBx⟩)
         have HX1 := box_h (box_new w 33 _) HBx
         have c10 := HX1.out.cell 0
         have HB1 := bel_trans (bel_refl1 w _) HBx
         have HF1 := slb_at HF HB1
         have HBB1 := slb_at HBB HB1)
      | (go_at_call 9
         ((with_reducible refine (great_2 _ _ (by simp) FA A fc c fn n fb b true HF1 HBB1 HFN HN HG).mono ?_); rintro e w2 ⟨rfl, HB2⟩)))
    go_ret
    exact ⟨rfl, (bel_trans HB1 HB2).out⟩
  · have hg : great [fb, b] = false := by simpa using hgr
    have hle := great_two hg
    rw [HFN.out, HN.out] at hle
    obtain ⟨hle1, hle2⟩ := hle
    have HG := hid hg
    clear hgr hg
    obtain ⟨⟨ps, left, er⟩, HX⟩ : ∃ x, Hid (feedX bad (fb ++ b) = x) := ⟨_, hid rfl⟩
    obtain ⟨k, HK⟩ : ∃ z, Hid (ps.length = z) := ⟨_, hid rfl⟩
    obtain ⟨m, HM⟩ : ∃ z, Hid (left.length = z) := ⟨_, hid rfl⟩
    obtain ⟨bd, HBD⟩ : ∃ z, Hid (decide (er ≠ 0) = z) := ⟨_, hid rfl⟩
    have hbo := feedX_bounds bad (fb ++ b)
    rw [HX.out, List.length_append, HFN.out, HN.out] at hbo
    simp only at hbo
    rw [HK.out, HM.out] at hbo
    obtain ⟨hm1, hk1, hp1⟩ := hbo
    have HP1 : Hid (∀ p ∈ ps, p.length ≤ 1000000) := fun p hp => by have := hp1 p hp; omega
    clear hp1
    have t0 : (er != er) = false := by simp
    go_enter Try.func4, Try.ntmps4
    go_wp2_with (first
      | (go_at_call 8
         ((with_reducible refine (alive_h _).mono ?_); rintro e w1 ⟨rfl, HBx⟩)
         have HX1 := box_h (box_new w 33 _) HBx
         have c10 := HX1.out.cell 0
         have c11 := HX1.out.cell 1
         have HB1 := bel_trans (bel_refl1 w _) HBx
         have HF1 := slb_at HF HB1
         have HBB1 := slb_at HBB HB1)
      | (go_at_call 9
         ((with_reducible refine (great_2 _ _ (by simp) FA A fc c fn n fb b false HF1 HBB1 HFN HN HG).mono ?_); rintro e w2 ⟨rfl, HB12⟩)
         have HX2 := box_h HX1 HB12
         have c20 := HX2.out.cell 0
         have c21 := HX2.out.cell 1
         have HB2 := bel_trans HB1 HB12
         have HF2 := slb_at HF HB2)
      | (go_at_call 13
         ((with_reducible refine (to_n _ _ FA fc fn fb bad HF2 (hid (Nat.le_refl _)) HFN (by omega)).mono ?_); rintro e w3 ⟨A3, c3, rfl, HO3, HB23⟩)
         have HX3 := box_h HX2 HB23
         have HB3 := bel_trans HB2 HB23
         have HBB3 := slb_at HBB HB3)
      | (at_builtin
         (
           refine wpList_app _ rfl (.tmp 25) (.tmp 26) 22 rfl w3.heap.size 5 i0 _ 1 1 Try.underlying22 hi0 hz0 hz1 hz2 rfl (by decide) (some ⟨w3.heap.size, 0, none⟩) 0 0 [] rfl (lit_own (w := w3) (Nat.le_refl _) rfl) w3.heap.size A n c (bv b) rfl (by rw [bv_length, HN.out, Nat.mul_one]) (HBB3.out.2.2.2.alloc (Nat.le_refl _) _) (bv_one _) (by unfold maxLen; omega) (by omega) (by simp) ?_
           intro A4 c4 w4 ho4 hg4
           have HB34 := hid (lit_grown (w := w3) rfl hg4)
           have HO4 : Hid (w4.ownsRow w3.heap.size 5 1 (.slice A4 n c4) n (bv b)) := by
             show World.ownsRow _ _ _ _ _ _ _
             simpa using ho4
           have HB4 := bel_trans HB3 HB34
           have HX4 := box_h HX3 HB34
           have HI3 := slb_at (slb_own HFN HO3) HB34
           have HI4 := slb_own HN HO4
           clear ho4 hg4))
      | (go_at_call 14
         ((with_reducible refine (feed_n _ _ A3 A4 c3 c4 fn n k m fb b bad bd ps left er HX (slb_alloc HI3 _) (slb_alloc HI4 _) (hid (Nat.le_refl _)) HFN HN (by omega) HK HM HBD).mono ?_); rintro e w5 ⟨A5, c5, LA5, lc5, rfl, HFK⟩)
         have HB45 := bel_trans (bel_refl1 w4 _) (hid HFK.out.bel)
         have HXI5 := box_h (box_new w4 34 _) (hid HFK.out.bel)
         have HX5 := box_h HX4 HB45
         have HB5 := bel_trans HB4 HB45
         have HX5' := box_h HX5 (bel_refl1 w5 (.cells #[.slice A5 m c5, .bool bd] 34))
         have c50 := HX5'.out.cell 0
         have c51 := HX5'.out.cell 1
         have HF5 := slb_alloc (slb_at HF HB5) (.cells #[.slice A5 m c5, .bool bd] 34)
         have HBB5 := slb_alloc (slb_at HBB HB5) (.cells #[.slice A5 m c5, .bool bd] 34))
      | (go_at_call 15
         ((with_reducible refine (rfeed_n _ _ FA A fc c fn n k m fb b bad bd ps left er HX HF5 HBB5 (hid (Nat.le_refl _)) HFN HN (by omega) HK HM HBD).mono ?_); rintro e w6 ⟨A6, c6, LA6, lc6, rfl, HRK⟩)
         have HB56 := bel_trans (bel_refl1 w5 _) (hid HRK.out.bel)
         have HXG6 := box_h (box_new w5 34 _) (hid HRK.out.bel)
         have HXG6' := box_h HXG6 (bel_refl1 w6 (.cells #[.slice A6 m c6, .bool bd] 39))
         have c60 := HXG6'.out.cell 0
         have c61 := HXG6'.out.cell 1
         have HL5 := lies_alloc (lies_bel (hid HFK.out.slb.2.2.2) HB56) (.cells #[.slice A6 m c6, .bool bd] 39)
         have HL6 := lies_alloc (hid HRK.out.slb.2.2.2) (.cells #[.slice A6 m c6, .bool bd] 39))
      | (go_at_call 16
         ((with_reducible refine (same_t _ A5 A6 c5 c6 m left bd HL5 HL6 HM (by omega)).mono ?_); rintro e w7 ⟨rfl, HBy⟩)
         have HB67 := bel_trans (bel_refl1 w6 _) HBy
         have HB57 := bel_trans HB56 HB67
         have HLL5 : Hid (LisV w7 w7.heap.size LA5 ps) := (HFK.out.lis.below HB57.out).more HB57.out.size
         have HLL6 : Hid (LisV w7 w7.heap.size LA6 ps) := (HRK.out.lis.below HB67.out).more HB67.out.size)
      | (go_at_call 17
         ((with_reducible refine (lists_t _ LA5 LA6 lc5 lc6 k ps HLL5 HLL6 HK (by omega) HP1).mono ?_); rintro e w8 ⟨d, rfl, rfl⟩)
         skip))
    obtain ⟨M, cs, hM1, hM2, ho5, hl5, hp5, hlt5⟩ := HFK.out.more
    have hM7 : M ≤ (w7.drewN d).heap.size := Nat.le_trans hM2 HB57.out.size
    have HMU : Hid (MU (w7.drewN d) (w4.alloc (.cells #[.slice A3 fn c3, .bool bad] 34)).heap.size M ps cs) := (hp5.mu hlt5).keep (bel_drewN HB57.out d)
    have HLR : Hid ((w7.drewN d).ownsRow (w4.alloc (.cells #[.slice A3 fn c3, .bool bad] 34)).heap.size 22 1 (.slice LA5 k lc5) k cs) := own_keep hl5 (bel_drewN HB57.out d)
    have hBs : w4.heap.size ≤ (w4.alloc (.cells #[.slice A3 fn c3, .bool bad] 34)).heap.size := by simp
    have hBe : (w4.alloc (.cells #[.slice A3 fn c3, .bool bad] 34)).heap.size ≤ M := hM1
    have HLO : Hid (∀ a, A5 = some a → M ≤ a.block) := own_lo ho5
    have HLO6 : Hid (∀ a, A6 = some a → M ≤ a.block) := fun a e => Nat.le_trans hM2 (Nat.le_trans (by simp) (HRK.out.lo a e))
    clear ho5 hl5 hp5 hlt5 hM1 hM2
    generalize (w4.alloc (.cells #[.slice A3 fn c3, .bool bad] 34)).heap.size = base at HMU HLR hBs hBe
    clear c10 c11 c20 c21 c50 c51 c60 c61 HL5 HL6 HF1 HF2 HBB1 HBB3
    go_loopw [59] (fun i wr => ∃ k1 : Nat, k1 ≤ k ∧ i = .int .i64 k1 ∧ Hid (Mut base M (w7.drewN d) wr) ∧ Hid (MU wr base M ps cs)) (fun i _ => k - (intOf i).toNat)
    case atStart => exact ⟨0, Nat.zero_le _, rfl, Mut.refl _ _ _, HMU⟩
    case round =>
      obtain ⟨k1, hk1, rfl, HMT, HMW⟩ := hrel
      by_cases hlt : k1 < k
      · have HLW := hid (own_mut HLR.out HMT.out (by decide))
        obtain ⟨gl, rfl⟩ : ∃ g, LA5 = some ⟨g, 0, none⟩ := by
          rcases HLW.out.2 with ⟨_, h0⟩ | ⟨g, cap, cur, hv, _⟩
          · omega
          · injection hv with hv
            exact ⟨g, hv⟩
        obtain ⟨Ap, cp, hcp, hmp⟩ := HMW.out k1 (by rw [HK.out]; exact hlt)
        have hkl : k1 < ps.length := by rw [HK.out]; exact hlt
        obtain ⟨np, Hnp⟩ : ∃ z, Hid (ps[k1].length = z) := ⟨_, hid rfl⟩
        have hnp2 : np ≤ 1000000 := by rw [← Hnp.out]; exact HP1.out _ (List.getElem_mem _)
        rw [Hnp.out] at hcp
        have cl0 : wr.cell? ⟨gl, k1, none⟩ = some (.slice Ap np cp) := by
          rw [HLW.out.cellAt k1 (by have := HLW.out.1; omega)]
          exact hcp
        have i1 : (k1 : Int) < k := by omega
        clear hmp
        have HCP := hid hcp
        clear hcp
        obtain ⟨wo, hwo⟩ : ∃ wo : World, wo = wr := ⟨_, rfl⟩
        go_wp2
        go_loopw [65] (fun i w9 => ∃ k2 : Nat, k2 ≤ np ∧ i = .int .i64 k2 ∧ Hid (Mut base M (w7.drewN d) w9) ∧ Hid (MU w9 base M ps cs)) (fun i _ => np - (intOf i).toNat)
        case atStart => exact ⟨0, Nat.zero_le _, rfl, HMT, HMW⟩
        case round =>
          clear HMT HMW HLW cl0 hwo
          obtain ⟨k2, hk2, rfl, HMT, HMW⟩ := hrel
          by_cases hlt2 : k2 < np
          · obtain ⟨g, bx, hA, hg1, hg2, hbx, hz⟩ : ∃ g bx, Ap = some ⟨g, 0, none⟩ ∧ base ≤ g ∧ g < M ∧ Box wr g 5 bx ∧ ∀ j, j < np → ∃ z : Int, bx[j]? = some (.int .u8 z) := by
              obtain ⟨A', c', h1, h2⟩ := HMW.out k1 hkl
              rw [HCP.out] at h1
              injection h1 with h1
              injection h1 with hA
              subst hA
              obtain ⟨g, bx, h3, h4, h5, h6, h7⟩ := h2 (by rw [Hnp.out]; omega)
              exact ⟨g, bx, h3, h4, h5, h6, fun j hj => h7 j (by rw [Hnp.out]; exact hj)⟩
            subst hA
            obtain ⟨z, hz2⟩ := hz k2 hlt2
            have cc : wr.cell? ⟨g, k2, none⟩ = some (.int .u8 z) := by rw [hbx.cell]; exact hz2
            have ff : wr.frozen? ⟨g, k2, none⟩ = false := hbx.frozen k2
            have HBX := hid hbx
            have i2 : (k2 : Int) < np := by omega
            clear hz hz2 hbx
            go_wp2
            go_roundw
            case rel => exact ⟨k2 + 1, by omega, by go_num, HMT.out.store HBX.out hg1 hg2 hM7 _, HMW.out.store _⟩
            case measure => simp [intOf]; omega
          · go_wp2
            go_roundw
            case rel => exact ⟨k1 + 1, by omega, by go_num, HMT, HMW⟩
            case measure => simp [intOf]; omega
      · have HBm : Hid (Below w4.heap.size (w7.drewN d) wr) := (HMT.out.below (by omega)).mono hBs
        have HB4r : Hid (Below w4.heap.size w4 wr) := (bel_drewN (bel_trans HB45 HB57).out d).trans HBm.out
        have HBr := bel_trans HB4 HB4r
        have HXGr : Hid (Box wr w5.heap.size 34 #[.slice A5 m c5, .bool bd]) := HMT.out.box (box_below HXG6.out (bel_drewN HB67.out d)) (by decide)
        have HXWr : Hid (Box wr w6.heap.size 39 #[.slice A6 m c6, .bool bd]) := HMT.out.box (box_below (Box.new w6 39 _) (bel_drewN HBy.out d)) (by decide)
        have HXIr : Hid (Box wr w4.heap.size 34 #[.slice A3 fn c3, .bool bad]) := HMT.out.box (box_below HXI5.out (bel_drewN HB57.out d)) (by decide)
        have HXFr : Hid (Box wr w.heap.size 33 #[.slice FA fn fc, .bool bad]) := HMT.out.box (box_below HX5.out (bel_drewN HB57.out d)) (by decide)
        have HL5r : Hid (Lies wr wr.heap.size A5 (bv left)) := mut_lies (lies_bel (hid HFK.out.slb.2.2.2) (hid (bel_drewN HB57.out d))).out HLO.out HMT.out
        have HL6r : Hid (Lies wr wr.heap.size A6 (bv left)) := mut_lies (lies_bel (hid HRK.out.slb.2.2.2) (hid (bel_drewN HB67.out d))).out HLO6.out HMT.out
        have HI3r := slb_at HI3 HB4r
        have HI4r := slb_at HI4 HB4r
        have HFr := slb_at HF HBr
        have HBBr := slb_at HBB HBr
        have k0 := HXGr.out.cell 0
        have k1 := HXGr.out.cell 1
        have k2 := HXWr.out.cell 0
        have k3 := HXWr.out.cell 1
        clear HMT HMW HBm
        go_wp2_with (first
          | (go_at_call 16
             ((with_reducible refine (same_t _ A5 A6 c5 c6 m left bd HL5r HL6r HM (by omega)).mono ?_); rintro e w9 ⟨rfl, HB9⟩)
             have HXI9 := box_h HXIr HB9
             have HXF9 := box_h HXFr HB9
             have q0 := HXI9.out.cell 0
             have q1 := HXF9.out.cell 0
             have HI39 : Hid (Lies w9 w9.heap.size A3 (bv fb)) := (slb_at HI3r HB9).out.2.2.2
             have HF9 : Hid (Lies w9 w9.heap.size FA (bv fb)) := (slb_at HFr HB9).out.2.2.2)
          | (go_at_call 12
             ((with_reducible refine (bytes_t _ A3 FA c3 fc fn fb HI39 HF9 HFN (by omega)).mono ?_); rintro e w10 ⟨rfl, HB10⟩)
             have HB910 := bel_trans HB9 HB10
             have HI4x : Hid (Lies w10 w10.heap.size A4 (bv b)) := (slb_at HI4r HB910).out.2.2.2
             have HBx10 : Hid (Lies w10 w10.heap.size A (bv b)) := (slb_at HBBr HB910).out.2.2.2)
          | (go_at_call 12
             ((with_reducible refine (bytes_t _ A4 A c4 c n b HI4x HBx10 HN (by omega)).mono ?_); rintro e w11 ⟨rfl, HB11⟩)))
        go_ret
        exact ⟨rfl, (bel_trans (bel_trans HBr HB910) HB11).out⟩
end Go.Proofs.Ytmbnjaahiopanaa
