import Derived.Test.YtjncahcigbdbgaaPF
namespace Go.Proofs.Ytjncahcigbdbgaa
open Go.RowKit

/-! Layer 12: PostPlain. -/
set_option maxRecDepth 100000 in
set_option maxHeartbeats 8000000 in
theorem plain_walk (w : World) (t : Tm) (ht : t.Ok) (col : Int) (A : Option Addr) (c n : Nat) (bs : List UInt8) (hb : Hid (SlB w w.heap.size A c bs)) (hn : bs.length = n) :
    Calls Try.prog 5 #[.agg t.cs, .int .i64 col, .slice A n c] w fun e w' => e = .returned (.bool true) ∧ Hid (Below w.heap.size w w') := by
  have hs := cs_size ht.len
  have K0 := old26 w t
  have L0 := slb_at hb K0
  by_cases h1 : 2000 < n
  · have k1 : (2000 : Int) < (n : Int) := by omega
    go_enter Try.func5, Try.ntmps5
    go_wp2_with (first
      | (refine bx26 (by rfl) _ (by rfl) _ (by rfl) hs ?_
         intro G0)
      | (go_at_call 7
         (with_reducible refine (call_alive K0).mono ?_)
         rintro e u1 ⟨rfl, k, K1⟩))
    go_ret
    exact ⟨rfl, K1⟩
  · have k1 : ¬ (2000 : Int) < (n : Int) := by omega
    have hm : n ≤ 400000 := by omega
    have hmx : n ≤ maxLen := by unfold maxLen; omega
    obtain ⟨f, hf⟩ : ∃ f, Hid (poF t = f) := ⟨_, hid rfl⟩
    obtain ⟨t1, hq1⟩ : ∃ t1, Hid (setT t 70 false = t1) := ⟨_, hid rfl⟩
    have ht1 : t1.Ok := by rw [← hq1.out]; exact setT_ok ht _ _
    obtain ⟨f1, hf1⟩ : ∃ f, Hid (poF t1 = f) := ⟨_, hid rfl⟩
    have ho1 : f1.o = false := by rw [← hf1.out, ← hq1.out]; exact set_has ht 70 false (by decide)
    obtain ⟨M1, hM1⟩ : ∃ M, Hid (bytesP f1 (nrm col) bs = (bs, M)) := ⟨_, hid (Prod.ext (bytesP_off ho1 bs (nrm col)) rfl)⟩
    have hM1b : M1 ≤ 65535 := by have := bytesP_le f1 bs (nrm col) (nrm_le col); rw [hM1.out] at this; exact this
    obtain ⟨⟨ys, M⟩, hys⟩ : ∃ z, Hid (bytesP f (nrm col) bs = z) := ⟨_, hid rfl⟩
    have hMb : M ≤ 65535 := by have := bytesP_le f bs (nrm col) (nrm_le col); rw [hys.out] at this; exact this
    have hll : Hid (ys.length ≤ 2 * n) := by have := bytesP_len f bs (nrm col); rw [hys.out, hn] at this; exact hid this
    obtain ⟨o70, h70⟩ : ∃ x, hasN t.f 70 = x := ⟨_, rfl⟩
    obtain ⟨o72, h72⟩ : ∃ x, hasN t.f 72 = x := ⟨_, rfl⟩
    obtain ⟨o73, h73⟩ : ∃ x, hasN t.f 73 = x := ⟨_, rfl⟩
    have hled : Hid (o70 = true → o72 = true → o73 = false → Led ys) := hid (fun a b c => by
      have h := bytesP_led (f := f) (by rw [← hf.out]; exact h70.trans a) (by rw [← hf.out]; exact h72.trans b) (by rw [← hf.out]; exact h73.trans c) bs (nrm col)
      rwa [hys.out] at h)
    have c1 : ¬ ((M1 : Int) < 0) := by omega
    have c2 : ¬ (65535 < (M1 : Int)) := by omega
    have c3 : ¬ ((M : Int) < 0) := by omega
    have c4 : ¬ (65535 < (M : Int)) := by omega
    clear hM1b hMb ho1
    go_enter Try.func5, Try.ntmps5
    go_wp2_with (first
      | (refine bx26 (by rfl) _ (by rfl) _ (by rfl) hs ?_
         intro G0)
      | (refine ld26 (by rfl) _ (by rfl) _ (by rfl) t.cs G1.out hs ?_)
      | (refine ld26 (by rfl) _ (by rfl) _ (by rfl) t.cs G4.out hs ?_)
      | (go_at_call 7
         (with_reducible refine (call_alive K0).mono ?_)
         rintro e u1 ⟨rfl, k, K1⟩
         have G1 := hid (box_below G0.out k.out)
         have L1 := slb_at L0 k
         clear k G0)
      | (go_at_call 15
         (with_reducible refine (set_b _ ht hq1.out).mono ?_)
         rintro e u2 ⟨rfl, k2⟩
         have G2 := hid (box_below G1.out k2.out)
         have K2 := bel_t K1 k2.out
         have L2 := slb_at L1 k2
         clear k2 G1 K1 L1)
      | (go_at_call 11
         (first
           | ((with_reducible refine (retp_eq hM1 (bytesp_any _ ht1 col A n c bs hf1 L2 hn hm)).mono ?_)
              rintro e u3 ⟨A3, n3, c3', rfl, hn3, S3, k3⟩
              have G3 := hid (box_below G2.out k3.out)
              have K3 := bel_t K2 k3.out
              have L3 := slb_at L2 k3
              clear k3 G2 K2 L2)
           | ((with_reducible refine (retp_eq hys (bytesp_any _ ht col A n c bs hf L4 hn hm)).mono ?_)
              rintro e u5 ⟨A5, n5, c5, rfl, hn5, S5, k5⟩
              have hlen : n5 ≤ 2 * n := by rw [← hn5.out]; exact hll.out
              have c6 : ¬ (2 * (n : Int) < (n5 : Int)) := by omega
              have G5 := hid (box_below G4.out k5.out)
              have K5 := bel_t K4 k5.out
              clear k5 G4 K4 L4)))
      | (go_at_call 10
         (with_reducible refine (bytes_two _ A3 A c3' c n3 n bs bs hn3.out hn (Eq.refl bs) S3 L3 (by have := hn3.out; unfold maxLen; omega)).mono ?_)
         rintro e u4 ⟨rfl, k4⟩
         have G4 := hid (box_below G3.out k4.out)
         have K4 := bel_t K3 k4.out
         have L4 := slb_at L3 k4
         clear k4 G3 K3 L3 S3))
    go_loopw [61] (fun i wr => ∃ k : Nat, k ≤ n5 ∧ i = .int .i64 k ∧ Hid (SlB wr wr.heap.size A5 c5 ys) ∧ Hid (Below w.heap.size w wr) ∧ Hid (Box wr w.heap.size 26 t.cs)) (fun i _ => n5 - (intOf i).toNat)
    case atStart => exact ⟨0, Nat.zero_le _, rfl, S5, K5, G5⟩
    case round =>
      obtain ⟨k, hk, rfl, HS, HB, HG⟩ := hrel
      by_cases hlt : k < n5
      · obtain ⟨b, o, y, hA5, hy, cy⟩ := slb_cell HS.out hn5.out hlt
        by_cases h10 : y.toNat = 10
        · have e10 : (y.toNat : Int) = 10 := by omega
          have hcell := hid (slb_cell (j := k - 1) HS.out hn5.out (by omega))
          have hledk : Hid (o70 = true → o72 = true → o73 = false → ∃ j, k = j + 1 ∧ wr.cell? ⟨b, o + j, none⟩ = some (.int .u8 13)) := hid (fun p1 p2 p3 => by
            obtain ⟨hk2, hy2⟩ := List.getElem?_eq_some_iff.1 hy
            obtain ⟨j, hj, hj2, h13⟩ := hled.out p1 p2 p3 k hk2 (by rw [hy2]; exact h10)
            obtain ⟨b', o', y', hA', hy', cy'⟩ := hcell.out
            rw [hA5] at hA'
            cases hA'
            refine ⟨j, hj, ?_⟩
            have e : k - 1 = j := by omega
            rw [e] at hy' cy'
            rw [List.getElem?_eq_getElem hj2] at hy'
            cases hy'
            rw [cy', h13]
            rfl)
          rw [e10] at cy
          subst hA5
          clear hy e10 h10 hcell
          cases o70
          · go_wp2_with (first
              | (refine ld26 (by rfl) _ (by rfl) _ (by rfl) t.cs HG.out hs ?_)
              | (go_at_call 16
                 (with_reducible refine (has_b _ ht h70).mono ?_)
                 rintro e u6 ⟨rfl, k6⟩
                 have G6 := hid (box_below HG.out k6.out)
                 have B6 := bel_t HB k6.out
                 have S6 := slb_at HS k6))
            go_roundw
            case rel => exact ⟨k + 1, by omega, by go_num, S6, B6, G6⟩
            case measure => simp [intOf] <;> omega
          · cases o72
            · go_wp2_with (first
                | (refine ld26 (by rfl) _ (by rfl) _ (by rfl) t.cs HG.out hs ?_)
                | (go_at_call 16
                   (first | (with_reducible refine (has_b _ ht h70).mono ?_) | (with_reducible refine (has_b _ ht h72).mono ?_))
                   rintro e u6 ⟨rfl, k6⟩
                   replace HG := hid (box_below HG.out k6.out)
                   replace HB := bel_t HB k6.out
                   replace HS := slb_at HS k6
                   clear k6))
              go_roundw
              case rel => exact ⟨k + 1, by omega, by go_num, HS, HB, HG⟩
              case measure => simp [intOf] <;> omega
            · cases o73
              · obtain ⟨j, rfl, cj⟩ := hledk.out rfl rfl rfl
                have CJ := hid cj
                have e1 : (((j + 1 : Nat) : Int)) - 1 = (j : Int) := by omega
                have e0 : ((((j + 1 : Nat) : Int)) == 0) = false := beq_eq_false_iff_ne.2 (by omega)
                obtain ⟨q, hq⟩ : ∃ q, j + 1 = q := ⟨_, rfl⟩
                have hjq : (j : Int) < (n5 : Int) := by omega
                rw [hq] at e1 e0 cy hk hlt ⊢
                have HQ := hid hq
                clear hq cj
                go_wp2_with (first
                  | (refine ld26 (by rfl) _ (by rfl) _ (by rfl) t.cs HG.out hs ?_)
                  | (go_at_call 16
                     (first
                       | ((with_reducible refine (has_b _ ht h70).mono ?_)
                          rintro e u6 ⟨rfl, k6⟩
                          have cj6 := hid (((k6.out.cell (p := ⟨b, o + j, none⟩) (World.block_lt_of_cell? _ _ CJ.out)).trans CJ.out))
                          replace HG := hid (box_below HG.out k6.out)
                          replace HB := bel_t HB k6.out
                          replace HS := slb_at HS k6
                          clear k6)
                       | ((with_reducible refine (has_b _ ht h72).mono ?_)
                          rintro e u7 ⟨rfl, k6⟩
                          have cj7 := hid (((k6.out.cell (p := ⟨b, o + j, none⟩) (World.block_lt_of_cell? _ _ cj6.out)).trans cj6.out))
                          replace HG := hid (box_below HG.out k6.out)
                          replace HB := bel_t HB k6.out
                          replace HS := slb_at HS k6
                          clear k6)
                       | ((with_reducible refine (has_b _ ht h73).mono ?_)
                          rintro e u8 ⟨rfl, k6⟩
                          have cj8 := (((k6.out.cell (p := ⟨b, o + j, none⟩) (World.block_lt_of_cell? _ _ cj7.out)).trans cj7.out))
                          replace HG := hid (box_below HG.out k6.out)
                          replace HB := bel_t HB k6.out
                          replace HS := slb_at HS k6
                          clear k6))))
                go_roundw
                case rel => exact ⟨q + 1, by omega, by go_num, HS, HB, HG⟩
                case measure => simp [intOf] <;> omega
              · go_wp2_with (first
                  | (refine ld26 (by rfl) _ (by rfl) _ (by rfl) t.cs HG.out hs ?_)
                  | (go_at_call 16
                     (first | (with_reducible refine (has_b _ ht h70).mono ?_) | (with_reducible refine (has_b _ ht h72).mono ?_) | (with_reducible refine (has_b _ ht h73).mono ?_))
                     rintro e u6 ⟨rfl, k6⟩
                     replace HG := hid (box_below HG.out k6.out)
                     replace HB := bel_t HB k6.out
                     replace HS := slb_at HS k6
                     clear k6))
                go_roundw
                case rel => exact ⟨k + 1, by omega, by go_num, HS, HB, HG⟩
                case measure => simp [intOf] <;> omega
        · have k10 : (((y.toNat : Int)) == 10) = false := beq_eq_false_iff_ne.2 (by omega)
          subst hA5
          clear hy h10
          go_wp2
          go_roundw
          case rel => exact ⟨k + 1, by omega, by go_num, HS, HB, HG⟩
          case measure => simp [intOf] <;> omega
      · go_wp2
        go_ret
        exact ⟨rfl, HB⟩
end Go.Proofs.Ytjncahcigbdbgaa
