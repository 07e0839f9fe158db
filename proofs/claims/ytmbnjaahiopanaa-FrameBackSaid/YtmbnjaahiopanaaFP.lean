import Derived.Test.YtmbnjaahiopanaaFO
namespace Go.Proofs.Ytmbnjaahiopanaa
open Go.RowKit

set_option maxHeartbeats 2000000 in
set_option maxRecDepth 100000 in
theorem puts_any (w : World) (A : Option Addr) (c : Nat) (p : List UInt8) (hs : SlB w w.heap.size A c p) :
    Calls Try.prog 3 #[.slice A p.length c] w fun e w' => e = .returned (.bool true) ∧ Below w.heap.size w w' := by
  obtain ⟨i0, hi0, hz0, hz1, hz2⟩ := info_parts Try.info5
  obtain ⟨n, Hn⟩ : ∃ n, Hid (p.length = n) := ⟨_, hid rfl⟩
  rw [Hn.out]
  have HS := hid hs
  clear hs
  by_cases hgr : great [p] = true
  · have HG := hid hgr
    clear hgr
    go_enter Try.func3, Try.ntmps3
    go_wp2_with (first
      | (go_at_call 8
         ((with_reducible refine (alive_h _).mono ?_); rintro e w1 ⟨rfl, HB1⟩)
         have HS1 := slb_at HS HB1)
      | (go_at_call 9
         ((with_reducible refine (great_1 _ _ (by simp) A c n p true HS1 Hn HG).mono ?_); rintro e w2 ⟨rfl, HB2⟩)))
    go_ret
    exact ⟨rfl, (bel_trans HB1 HB2).out⟩
  · have hg : great [p] = false := by simpa using hgr
    have hle : n ≤ 200000 := by rw [← Hn.out]; exact great_one hg
    have HG := hid hg
    clear hgr hg
    obtain ⟨⟨er, bs⟩, HX⟩ : ∃ x, Hid (putF p = x) := ⟨_, hid rfl⟩
    obtain ⟨m, Hm⟩ : ∃ z, Hid (bs.length = z) := ⟨_, hid rfl⟩
    have hm3 : m ≤ 33796 := by
      have := putF_len p
      rw [HX.out] at this
      rw [← Hm.out]
      exact this
    have t0 : (er != er) = false := by simp
    go_enter Try.func3, Try.ntmps3
    go_wp2_with (first
      | (go_at_call 8
         ((with_reducible refine (alive_h _).mono ?_); rintro e w1 ⟨rfl, HB1⟩)
         have HS1 := slb_at HS HB1)
      | (go_at_call 9
         ((with_reducible refine (great_1 _ _ (by simp) A c n p false HS1 Hn HG).mono ?_); rintro e w2 ⟨rfl, HB12⟩)
         have HB2 := bel_trans HB1 HB12
         have HS2 := slb_at HS HB2)
      | (at_builtin
         (
           refine wpList_app _ rfl (.tmp 14) (.tmp 15) 22 rfl w2.heap.size 5 i0 _ 1 1 Try.underlying22 hi0 hz0 hz1 hz2 rfl (by decide) (some ⟨w2.heap.size, 0, none⟩) 0 0 [] rfl (lit_own (w := w2) (Nat.le_refl _) rfl) w2.heap.size A n c (bv p) rfl (by rw [bv_length, Hn.out, Nat.mul_one]) (HS2.out.2.2.2.alloc (Nat.le_refl _) _) (bv_one _) (by unfold maxLen; omega) (by omega) (by simp) ?_
           intro A3 c3 w3 ho3 hg3
           have HB23 := hid (lit_grown (w := w2) rfl hg3)
           have HO3 : Hid (w3.ownsRow w2.heap.size 5 1 (.slice A3 n c3) n (bv p)) := by
             show World.ownsRow _ _ _ _ _ _ _
             simpa using ho3
           have HB3 := bel_trans HB2 HB23
           have HS3 := slb_at HS HB3
           have HI3 : Hid (SlB w3 w3.heap.size A3 c3 p) := by
             have h := HO3.out
             rw [← Hn.out] at h
             exact own_slb (n := 0) h
           clear ho3 hg3))
      | (go_at_call 10
         ((with_reducible refine (put_n _ _ A3 c3 n m p bs er HX HI3 (hid (Nat.le_refl _)) Hn (by unfold maxLen; omega) Hm).mono ?_); rintro e w4 ⟨A4, c4, rfl, HO4, HB34⟩)
         have HB4 := bel_trans HB3 HB34
         have HS4 := slb_at HS HB4)
      | (go_at_call 11
         ((with_reducible refine (rput_n _ _ A c n m p bs er HX HS4 (hid (Nat.le_refl _)) Hn (by unfold maxLen; omega) Hm).mono ?_); rintro e w5 ⟨A5, c5, rfl, HO5, HB45⟩)
         have HO45 := hid (own_keep HO4.out HB45.out)
         have HB35 := bel_trans HB34 HB45
         have HC4 := hid (Lies.own HO45.out)
         have HC5 := hid (Lies.own HO5.out))
      | (go_at_call 12
         ((with_reducible refine (bytes_t _ A4 A5 c4 c5 m bs HC4 HC5 Hm (by omega)).mono ?_); rintro e w6 ⟨rfl, HB56⟩)
         have HO46 := hid (own_keep HO45.out HB56.out)
         have HB36 := bel_trans HB35 HB56))
    clear HC4 HC5 HO45 HO5 HO4
    go_loopw [38] (fun i wr => ∃ (k : Nat) (xs : List Value), k ≤ m ∧ i = .int .i64 k ∧ wr.ownsRow w3.heap.size 5 1 (.slice A4 m c4) m xs ∧ AllU8 xs ∧ Below w3.heap.size w3 wr) (fun i _ => m - (intOf i).toNat)
    case atStart => exact ⟨0, bv bs, Nat.zero_le _, rfl, HO46.out, allu8_bv _, HB36.out⟩
    case round =>
      clear HB36 HO46 HB35 HB56 HB45 HB34 HB4 HS4
      obtain ⟨k2, xs, hk2, rfl, hro, hau, hbw⟩ := hrel
      by_cases hlt2 : k2 < m
      · obtain ⟨g, rfl⟩ : ∃ g, A4 = some ⟨g, 0, none⟩ := by
          rcases hro.2 with ⟨_, h0⟩ | ⟨g, cap, cur, hv, _⟩
          · omega
          · injection hv with hv
            exact ⟨g, hv⟩
        have hlen : xs.length = m := by have := hro.1; omega
        obtain ⟨z, hz⟩ := hau k2 (by omega)
        have cc : wr.cell? ⟨g, k2, none⟩ = some (.int .u8 z) := by
          rw [hro.cellAt k2 (by omega), ← hz]
          exact List.getElem?_eq_getElem _
        have ff : wr.frozen? ⟨g, k2, none⟩ = false := hro.frozenAt k2
        have hi1 : (k2 : Int) < m := by omega
        have HRO := hid hro
        have HAU := hid hau
        have HBW := hid hbw
        clear hro hau hbw hz
        go_wp2
        go_roundw
        case rel => exact ⟨k2 + 1, _, by omega, by go_num, (HRO.out.stored k2 _).1, allu8_set HAU.out k2 _, app_bel HBW.out HRO.out (HRO.out.stored k2 _).2⟩
        case measure => simp [intOf]; omega
      · have HI9 := slb_at HI3 (hid hbw)
        have HS9 := slb_at HS3 (hid hbw)
        have HB9 := bel_trans HB3 (hid hbw)
        have HC9 : Hid (Lies wr wr.heap.size A3 (bv p)) := HI9.out.2.2.2
        have HC8 : Hid (Lies wr wr.heap.size A (bv p)) := HS9.out.2.2.2
        clear hro hau hbw
        go_wp2_with (first
          | (go_at_call 12
             ((with_reducible refine (bytes_t _ A3 A c3 c n p HC9 HC8 Hn (by omega)).mono ?_); rintro e w7 ⟨rfl, HB67⟩)))
        go_ret
        exact ⟨rfl, (bel_trans HB9 HB67).out⟩
end Go.Proofs.Ytmbnjaahiopanaa
