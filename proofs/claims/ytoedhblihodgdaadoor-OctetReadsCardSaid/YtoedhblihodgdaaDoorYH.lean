import Derived.Test.YtoedhblihodgdaaDoorYG
namespace Go.Proofs.YtoedhblihodgdaaDoor
open Go.RowKit

def AllU8 (xs : List Value) : Prop := ∀ j (h : j < xs.length), ∃ z : Int, xs[j] = .int .u8 z
theorem allu8_bv (bs : List UInt8) : AllU8 (bv bs) := fun j h => ⟨((bs[j]'(by simpa [bv] using h)).toNat : Int), by simp [bv]⟩
theorem allu8_set {xs : List Value} (h : AllU8 xs) (k : Nat) (z : Int) : AllU8 (xs.set k (.int .u8 z)) := fun j hj => by
  rw [List.getElem_set]
  split
  · exact ⟨_, rfl⟩
  · exact h j (by simpa using hj)

set_option maxHeartbeats 4000000 in
set_option maxRecDepth 100000 in
theorem writes_any (w : World) (A : Option Addr) (c : Nat) (l : List Fd) (m : Int) (hl : FdsV w w.heap.size A l) (hc : l.length ≤ c) (hc2 : c ≤ maxLen) (hs : Sized l) (hm : w.cell? ⟨0, 0, none⟩ = some (.int .i64 m)) :
    Calls Tryd.prog 3 #[.slice A l.length c] w fun e w' => e = .returned (.bool true) ∧ Below w.heap.size w w' := by
  have HL := hid hl
  have HS := hid hs
  have HM := hid hm
  have HWF := hid (fds_wf hl)
  have hpos : 0 < w.heap.size := World.block_lt_of_cell? w _ hm
  clear hl hs hm
  unfold maxLen at hc2
  by_cases hgr : great l = true
  · have HG := hid hgr
    clear hgr
    go_enter Tryd.func3, Tryd.ntmps3
    go_wp2_with (first
      | (go_at_call 8
         ((with_reducible refine (alive_any _ m HM.out).mono ?_); rintro e w1 ⟨rfl, hb⟩)
         have HB1 := hid hb
         have HL1 := fds_at HL HB1
         clear hb)
      | (go_at_call 9
         ((with_reducible refine (great_any _ _ A c l HL1.out (Nat.le_refl _) (by unfold maxLen; omega)).mono ?_); rintro e w2 ⟨rfl, hb⟩)
         rw [HG.out]
         have HB2 := bel_trans HB1 (hid hb)
         clear hb))
    go_ret
    exact ⟨rfl, HB2.out⟩
  · have hg : great l = false := by simpa using hgr
    have hle : l.length ≤ 100 := by
      simp only [great, Bool.or_eq_false_iff, decide_eq_false_iff_not] at hg
      omega
    have HG := hid hg
    clear hgr hg
    obtain ⟨⟨er, bs⟩, HX⟩ : ∃ x, Hid (writeF l = x) := ⟨_, hid rfl⟩
    obtain ⟨n, HN⟩ : ∃ z, Hid (bs.length = z) := ⟨_, hid rfl⟩
    have hn3 : n ≤ 33792 := by
      have := writeF_len l
      rw [HX.out] at this
      rw [← HN.out]
      exact this
    have t0 : (er != er) = false := by simp
    go_enter Tryd.func3, Tryd.ntmps3
    go_wp2_with (first
      | (go_at_call 8
         ((with_reducible refine (alive_any _ m HM.out).mono ?_); rintro e w1 ⟨rfl, hb⟩)
         have HB1 := hid hb
         have HL1 := fds_at HL HB1
         clear hb)
      | (go_at_call 9
         ((with_reducible refine (great_any _ _ A c l HL1.out (Nat.le_refl _) (by unfold maxLen; omega)).mono ?_); rintro e w2 ⟨rfl, hb⟩)
         rw [HG.out]
         have HB2 := bel_trans HB1 (hid hb)
         have HL2 := fds_at HL HB2
         clear hb)
      | (go_at_call 10
         ((with_reducible refine (copy_n _ A c l.length l HL2 HS rfl (by omega)).mono ?_); rintro e w3 ⟨A3, c3, rfl, HI3, HBx, ⟨hc3, hc3'⟩⟩)
         have HB3 := bel_trans HB2 HBx
         have HL3 := fds_at HL HB3
         have hz3 : w.heap.size ≤ w3.heap.size := HB3.out.size)
      | (go_at_call 11
         ((with_reducible refine (write_o _ A3 c3 l.length l er bs HX rfl HI3 hc3 hc3' n HN.out).mono ?_); rintro e w4 ⟨A4, c4, rfl, HO4, HBy⟩)
         have HB34 := HBy
         have HB4 := bel_trans HB3 HBy
         have HL4 := fds_at HL HB4
         have hz4 : w3.heap.size ≤ w4.heap.size := HBy.out.size)
      | (go_at_call 12
         ((with_reducible refine (rwrite_o _ A c l.length l er bs HX rfl HL4 (by omega) n HN.out).mono ?_); rintro e w5 ⟨A5, c5, rfl, HO5, HBz⟩)
         have HO45 := hid (own_keep HO4.out HBz.out)
         have HB35 := bel_trans HB34 HBz
         have HB5 := bel_trans HB4 HBz
         have HL5 := fds_at HL HB5
         have HI5 := fds_at HI3 HB35
         have HC4 := hid (Lies.own HO45.out)
         have HC5 := hid (Lies.own HO5.out))
      | (go_at_call 13
         ((with_reducible refine (bytes_t _ A4 A5 c4 c5 n bs HC4 HC5 HN.out (by omega)).mono ?_); rintro e w6 ⟨rfl, HB56⟩)
         have HO46 := hid (own_keep HO45.out HB56.out)
         have HB36 := bel_trans HB35 HB56
         have HB6 := bel_trans HB5 HB56
         have HL6 := fds_at HL HB6
         have HI6 := fds_at HI5 HB56)
      | (go_at_call 14
         ((with_reducible refine (same_n _ A3 A c3 c l.length l.length l l HI6 HL6 rfl rfl (by omega) (by omega) (hid rfl)).mono ?_); rintro e w7 ⟨rfl, HB67⟩)
         have HO47 := hid (own_keep HO46.out HB67.out)
         have HB37 := bel_trans HB36 HB67
         have HB7 := bel_trans HB6 HB67
         have HL7 := fds_at HL HB7))
    have hz7 : w3.heap.size ≤ w7.heap.size := HB37.out.size
    go_loopw [44] (fun i wr => ∃ k : Nat, k ≤ l.length ∧ i = .int .i64 k ∧ Hid (Below w7.heap.size w7 wr)) (fun i _ => l.length - (intOf i).toNat)
    case atStart => exact ⟨0, Nat.zero_le _, rfl, Below.refl _ _⟩
    case round =>
      obtain ⟨k, hk, rfl, HBW⟩ := hrel
      have hszr : w7.heap.size ≤ wr.heap.size := HBW.out.size
      by_cases hlt : k < l.length
      · obtain ⟨b, o, rfl, hb7, hcells⟩ := HL7.out (by intro e; rw [e] at hlt; simp at hlt)
        obtain ⟨tA, tc, lA, lc, hfd, e0, e1, e2, e3⟩ := hcells k hlt
        have c0 := (HBW.out.cell (p := ⟨b, _, none⟩) hb7).trans e0
        have c1 := (HBW.out.cell (p := ⟨b, _, none⟩) hb7).trans e1
        have c2' := (HBW.out.cell (p := ⟨b, _, none⟩) hb7).trans e2
        have c3' := (HBW.out.cell (p := ⟨b, _, none⟩) hb7).trans e3
        have hwf := HWF.out l[k] (List.getElem_mem hlt)
        obtain ⟨f, Hf⟩ : ∃ f, Hid (l[k] = f) := ⟨_, hid rfl⟩
        rw [Hf.out] at c0 c1 c2' c3' hwf hfd
        obtain ⟨hfn, hfk, _⟩ := hwf
        clear e0 e1 e2 e3 hcells Hf
        obtain ⟨z, HZ⟩ : ∃ z, Hid (rsz f = z) := ⟨_, hid rfl⟩
        have t1 : ((z : Int) != z) = false := by simp
        have HFD1 : Hid (∀ o, FdV (wr.alloc o).drew w7.heap.size (.agg #[.int .i64 f.kind, .int .u32 f.n, .slice tA f.text.length tc, .slice lA f.list.length lc]) f) := fun o => hfd.keep (bel_drewN (HBW.out.alloc hszr _) 1)
        have HX1 : Hid (Box (wr.alloc (.cells #[.int .i64 f.kind, .int .u32 f.n, .slice tA f.text.length tc, .slice lA f.list.length lc] 37)).drew wr.heap.size 37 #[.int .i64 f.kind, .int .u32 f.n, .slice tA f.text.length tc, .slice lA f.list.length lc]) := Box.new wr 37 _
        have HB1x : Hid (Below w7.heap.size w7 (wr.alloc (.cells #[.int .i64 f.kind, .int .u32 f.n, .slice tA f.text.length tc, .slice lA f.list.length lc] 37)).drew) := bel_drewN (HBW.out.alloc hszr _) 1
        clear hfd
        go_wp2
        go_region_law (first
          | (go_simp
             go_at_call 15
             ((with_reducible refine (size_r _ w7.heap.size _ f z HFD4 hz4x HZ.out).mono ?_); rintro e w5x ⟨rfl, HB5x⟩)
             have HBE := hid (HB4x.out.trans (HB5x.out.mono hz4x)))
          | (go_simp
             go_at_call 16
             ((with_reducible refine (rsize_r _ w7.heap.size _ f z HFD4 hz4x HZ.out).mono ?_); rintro e w5x ⟨rfl, HB5x⟩)
             have HBE := hid (HB4x.out.trans (HB5x.out.mono hz4x)))
          | (go_simp
             go_at_call 15
             ((with_reducible refine (size_r _ w7.heap.size _ f z (hid (HFD1.out _)) (by simp; omega) HZ.out).mono ?_); rintro e w4x ⟨rfl, HBy4⟩)
             have hx4 := box_below HX1.out HBy4.out
             have c40 : w4x.cell? ⟨wr.heap.size, 0, none⟩ = some (.int .i64 f.kind) := hx4.cell 0
             have c41 : w4x.cell? ⟨wr.heap.size, 1, none⟩ = some (.int .u32 f.n) := hx4.cell 1
             have c42 : w4x.cell? ⟨wr.heap.size, 2, none⟩ = some (.slice tA f.text.length tc) := hx4.cell 2
             have c43 : w4x.cell? ⟨wr.heap.size, 3, none⟩ = some (.slice lA f.list.length lc) := hx4.cell 3
             have HB4x : Hid (Below w7.heap.size w7 w4x) := (HB1x.out).trans (HBy4.out.mono (by simp; omega))
             have HFD4 := hid ((HFD1.out _).keep (HBy4.out.mono (by simp; omega)))
             have hz4x : w7.heap.size ≤ w4x.heap.size := HB4x.out.size
             clear hx4 HBy4)
          | (go_simp
             go_at_call 16
             ((with_reducible refine (rsize_r _ w7.heap.size _ f z (hid (HFD1.out _)) (by simp; omega) HZ.out).mono ?_); rintro e w4x ⟨rfl, HBy4⟩)
             have hx4 := box_below HX1.out HBy4.out
             have c40 : w4x.cell? ⟨wr.heap.size, 0, none⟩ = some (.int .i64 f.kind) := hx4.cell 0
             have c41 : w4x.cell? ⟨wr.heap.size, 1, none⟩ = some (.int .u32 f.n) := hx4.cell 1
             have c42 : w4x.cell? ⟨wr.heap.size, 2, none⟩ = some (.slice tA f.text.length tc) := hx4.cell 2
             have c43 : w4x.cell? ⟨wr.heap.size, 3, none⟩ = some (.slice lA f.list.length lc) := hx4.cell 3
             have HB4x : Hid (Below w7.heap.size w7 w4x) := (HB1x.out).trans (HBy4.out.mono (by simp; omega))
             have HFD4 := hid ((HFD1.out _).keep (HBy4.out.mono (by simp; omega)))
             have hz4x : w7.heap.size ≤ w4x.heap.size := HB4x.out.size
             clear hx4 HBy4))
        all_goals
          go_wp2
          go_roundw
          case rel => exact ⟨k + 1, by omega, by go_num, HBE⟩
          case measure => simp [intOf]; omega
      · have HB3W := bel_trans HB37 HBW
        have HO4W := hid (own_keep HO47.out HBW.out)
        clear HL1 HL2 HL4 HL5 HL6 HI5 HI6 HC4 HC5 HO4 HO5 HO45 HO46 HO47 HBW hszr
        go_wp2
        go_loopw [56] (fun i wr => ∃ (k : Nat) (xs : List Value), k ≤ n ∧ i = .int .i64 k ∧ wr.ownsRow w3.heap.size 5 1 (.slice A4 n c4) n xs ∧ AllU8 xs ∧ Below w3.heap.size w3 wr) (fun i _ => n - (intOf i).toNat)
        case atStart => exact ⟨0, bv bs, Nat.zero_le _, rfl, HO4W.out, allu8_bv _, HB3W.out⟩
        case round =>
          clear HB3W HO4W
          obtain ⟨k2, xs, hk2, rfl, hro, hau, hbw⟩ := hrel
          by_cases hlt2 : k2 < n
          · obtain ⟨g, rfl⟩ : ∃ g, A4 = some ⟨g, 0, none⟩ := by
              rcases hro.2 with ⟨_, h0⟩ | ⟨g, cap, cur, hv, _⟩
              · omega
              · injection hv with hv
                exact ⟨g, hv⟩
            have hlen : xs.length = n := by have := hro.1; omega
            obtain ⟨z, hz⟩ := hau k2 (by omega)
            have cc : wr.cell? ⟨g, k2, none⟩ = some (.int .u8 z) := by
              rw [hro.cellAt k2 (by omega), ← hz]
              exact List.getElem?_eq_getElem _
            have ff : wr.frozen? ⟨g, k2, none⟩ = false := hro.frozenAt k2
            have HRO := hid hro
            have HAU := hid hau
            have HBW := hid hbw
            clear hro hau hbw hz
            go_wp2
            go_roundw
            case rel => exact ⟨k2 + 1, _, by omega, by go_num, (HRO.out.stored k2 _).1, allu8_set HAU.out k2 _, app_bel HBW.out HRO.out (HRO.out.stored k2 _).2⟩
            case measure => simp [intOf]; omega
          · have HI9 := fds_at HI3 (hid hbw)
            have HL9 := fds_at HL3 (hid hbw)
            have HB9 := bel_trans HB3 (hid hbw)
            clear hro hau hbw
            go_wp2_with (first
              | (go_at_call 14
                 ((with_reducible refine (same_n _ A3 A c3 c l.length l.length l l HI9 HL9 rfl rfl (by omega) (by omega) (hid rfl)).mono ?_); rintro e w7 ⟨rfl, HB67⟩)))
            go_ret
            exact ⟨rfl, (bel_trans HB9 HB67).out⟩
end Go.Proofs.YtoedhblihodgdaaDoor
