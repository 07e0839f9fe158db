import Derived.Test.YtjncahcigbdbgaaPF
namespace Go.Proofs.Ytjncahcigbdbgaa
open Go.RowKit

/-! Layer 12: PostIs. -/
set_option maxRecDepth 100000 in
set_option maxHeartbeats 8000000 in
theorem is_walk (w : World) (t : Tm) (ht : t.Ok) (col : Int) (A : Option Addr) (c n : Nat) (bs : List UInt8) (hb : Hid (SlB w w.heap.size A c bs)) (hn : bs.length = n) :
    Calls Try.prog 3 #[.agg t.cs, .int .i64 col, .slice A n c] w fun e w' => e = .returned (.bool true) ∧ Hid (Below w.heap.size w w') := by
  have hs := cs_size ht.len
  have K0 := old26 w t
  have L0 := slb_at hb K0
  by_cases h1 : 2000 < n
  · have k1 : (2000 : Int) < (n : Int) := by omega
    go_enter Try.func3, Try.ntmps3
    go_wp2_with (first
      | (refine bx26 (by rfl) _ (by rfl) _ (by rfl) hs ?_
         intro G0)
      | (go_at_call 7
         (with_reducible refine (call_alive K0).mono ?_)
         rintro e u1 ⟨rfl, k, K1⟩))
    go_ret
    exact ⟨rfl, K1⟩
  · have k1 : ¬ (2000 : Int) < (n : Int) := by omega
    have hm : n ≤ 400000 := by omega
    have hmx : n ≤ maxLen := by unfold maxLen; omega
    obtain ⟨f, hf⟩ : ∃ f, Hid (poF t = f) := ⟨_, hid rfl⟩
    obtain ⟨⟨xs, M⟩, hxs⟩ : ∃ z, Hid (bytesP f (nrm col) bs = z) := ⟨_, hid rfl⟩
    have hll : Hid (xs.length ≤ 4000) := by have := bytesP_len f bs (nrm col); rw [hxs.out] at this; exact hid (by have h2 : xs.length ≤ 2 * bs.length := this; omega)
    go_enter Try.func3, Try.ntmps3
    go_wp2_with (first
      | (refine bx26 (by rfl) _ (by rfl) _ (by rfl) hs ?_
         intro G0)
      | (go_at_call 7
         (with_reducible refine (call_alive K0).mono ?_)
         rintro e u1 ⟨rfl, k, K1⟩
         have G1 := hid (box_below G0.out k.out)
         have L1 := slb_at L0 k
         clear k G0)
      | (at_builtin
         (refine app_copy u1 rfl (.tmp 23) (.tmp 24) rfl rfl A n c bs rfl L1 hn (by omega) ?_)
         intro A2 c2 u2 k2 M2
         have L2 := slb_at L1 k2
         have G2 := hid (box_below G1.out k2.out)
         have K2 := bel_t K1 k2.out
         clear k2 G1 K1 L1))
    go_loopw [28] (fun i wr => ∃ k : Nat, k ≤ n ∧ i = .int .i64 k ∧ Hid (SlB wr wr.heap.size A2 c2 bs) ∧ Hid (SlB wr wr.heap.size A c bs) ∧ Hid (Below w.heap.size w wr) ∧ Hid (Box wr w.heap.size 26 t.cs)) (fun i _ => n - (intOf i).toNat)
    case atStart => exact ⟨0, Nat.zero_le _, rfl, M2, L2, K2, G2⟩
    case round =>
      obtain ⟨k, hk, rfl, HM, HL, HB, HG⟩ := hrel
      by_cases hlt : k < n
      · obtain ⟨b, o, y, rfl, hy, cy⟩ := slb_cell HL.out hn hlt
        obtain ⟨⟨x, M3⟩, hx⟩ : ∃ z, Hid (byteP f (nrm col) y = z) := ⟨_, hid rfl⟩
        have hxl : Hid (x.length ≤ 2) := by have := byteP_len f (nrm col) y; rw [hx.out] at this; exact hid this
        clear hy
        go_wp2_with (first
          | (refine ld26 (by rfl) _ (by rfl) _ (by rfl) t.cs HG.out hs ?_)
          | (refine ld26 (by rfl) _ (by rfl) _ (by rfl) t.cs G4.out hs ?_)
          | (go_at_call 8
             (with_reducible refine (retp_eq hx (bytep_any _ ht col y hf)).mono ?_)
             rintro e u4 ⟨A4, n4, c4, rfl, hn4, S4, k4⟩
             have G4 := hid (box_below HG.out k4.out)
             have B4 := bel_t HB k4.out
             have L4 := slb_at HL k4
             have M4 := slb_at HM k4
             clear k4)
          | (go_at_call 9
             (with_reducible refine (retp_eq hx (byter_any _ ht col y hf)).mono ?_)
             rintro e u5 ⟨A5, n5, c5, rfl, hn5, S5, k5⟩
             have G5 := hid (box_below G4.out k5.out)
             have B5 := bel_t B4 k5.out
             have L5 := slb_at L4 k5
             have M5 := slb_at M4 k5
             have S45 := slb_at S4 k5
             clear k5 G4 B4 L4 M4 S4)
          | (go_at_call 10
             (with_reducible refine (bytes_two _ A4 A5 c4 c5 n4 n5 x x hn4.out hn5.out (Eq.refl x) S45 S5 (by have := hn4.out; have := hxl.out; unfold maxLen; omega)).mono ?_)
             rintro e u6 ⟨rfl, k6⟩
             have G6 := hid (box_below G5.out k6.out)
             have B6 := bel_t B5 k6.out
             have L6 := slb_at L5 k6
             have M6 := slb_at M5 k6
             clear k6))
        go_roundw
        case rel => exact ⟨k + 1, by omega, by go_num, M6, L6, B6, G6⟩
        case measure => simp [intOf] <;> omega
      · go_wp2_with (first
          | (refine ld26 (by rfl) _ (by rfl) _ (by rfl) t.cs HG.out hs ?_)
          | (refine ld26 (by rfl) _ (by rfl) _ (by rfl) t.cs G4.out hs ?_)
          | (go_at_call 11
             (with_reducible refine (retp_eq hxs (bytesp_any _ ht col A2 n c2 bs hf HM hn hm)).mono ?_)
             rintro e u4 ⟨A4, n4, c4, rfl, hn4, S4, k4⟩
             have G4 := hid (box_below HG.out k4.out)
             have B4 := bel_t HB k4.out
             have L4 := slb_at HL k4
             have M4 := slb_at HM k4
             clear k4)
          | (go_at_call 12
             (with_reducible refine (retp_eq hxs (bytesr_any _ ht col A n c bs hf L4 hn hm)).mono ?_)
             rintro e u5 ⟨A5, n5, c5, rfl, hn5, S5, k5⟩
             have B5 := bel_t B4 k5.out
             have L5 := slb_at L4 k5
             have M5 := slb_at M4 k5
             have S45 := slb_at S4 k5
             clear k5 G4 B4 L4 M4 S4)
          | (go_at_call 10
             (first
               | ((with_reducible refine (bytes_two _ A4 A5 c4 c5 n4 n5 xs xs hn4.out hn5.out (Eq.refl xs) S45 S5 (by have := hn4.out; have := hll.out; unfold maxLen; omega)).mono ?_)
                  rintro e u6 ⟨rfl, k6⟩
                  have B6 := bel_t B5 k6.out
                  have L6 := slb_at L5 k6
                  have M6 := slb_at M5 k6
                  clear k6 S45 S5)
               | ((with_reducible refine (bytes_two _ A2 A c2 c n n bs bs hn hn (Eq.refl bs) M6 L6 hmx).mono ?_)
                  rintro e u7 ⟨rfl, k7⟩
                  have B7 := bel_t B6 k7.out))))
        go_ret
        exact ⟨rfl, B7⟩
end Go.Proofs.Ytjncahcigbdbgaa
