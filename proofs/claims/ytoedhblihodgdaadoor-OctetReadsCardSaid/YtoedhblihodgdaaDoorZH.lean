import Derived.Test.YtoedhblihodgdaaDoorZG
namespace Go.Proofs.YtoedhblihodgdaaDoor
open Go.RowKit

theorem rread_n (W : World) (kA : Option Addr) (kc kn : Nat) (ks : List Int) (A : Option Addr) (c n : Nat) (bs : List UInt8) (er : Int) (fs : List Fd) (fn : Nat) (hX : Hid (readF ks bs = (er, fs))) (hfn : fs.length = fn) (hkn : ks.length = kn) (hn : bs.length = n)
    (hk : Hid (Lies W W.heap.size kA (ks.map (Value.int .i64)))) (hkl : kn ≤ 1000) (hb : Hid (SlB W W.heap.size A c bs)) (hl : n ≤ 100000) :
    Calls Tryd.prog 18 #[.slice kA kn kc, .slice A n c] W fun e w2 => ∃ A1 c1, e = .returned (.tuple #[.slice A1 fn c1, .int .i64 er]) ∧ Hid (∃ cs, w2.ownsRow W.heap.size 37 4 (.slice A1 fs.length c1) fs.length cs ∧ FlatF w2 W.heap.size fs cs) ∧ Hid (Below W.heap.size W w2) := by
  subst hfn; subst hkn; subst hn
  refine (rread_any W kA kc ks A c bs hk.out hkl hb.out hl).mono ?_
  rw [hX.out]
  rintro e w2 ⟨A1, c1, cs, rfl, ho, hf, hb⟩
  exact ⟨A1, c1, rfl, ⟨cs, ho, hf⟩, hb⟩

set_option maxHeartbeats 4000000 in
set_option maxRecDepth 100000 in
theorem reads_any (w : World) (kA : Option Addr) (kc : Nat) (ks : List Int) (A : Option Addr) (c : Nat) (bs : List UInt8) (m : Int)
    (hk : Lies w w.heap.size kA (ks.map (Value.int .i64))) (hkm : ks.length ≤ maxLen) (hb : SlB w w.heap.size A c bs) (hm : w.cell? ⟨0, 0, none⟩ = some (.int .i64 m)) :
    Calls Tryd.prog 4 #[.slice kA ks.length kc, .slice A bs.length c] w fun e w' => e = .returned (.bool true) ∧ Below w.heap.size w w' := by
  have hbc := hb.1
  have hbm := hb.2.1
  unfold maxLen at hkm hbm
  have HK := hid hk
  have HB := hid hb
  have HM := hid hm
  have hpos : 0 < w.heap.size := World.block_lt_of_cell? w _ hm
  clear hk hb hm
  by_cases h1 : 100 < ks.length
  · go_enter Tryd.func4, Tryd.ntmps4
    go_wp2_with (
      go_at_call 8
      ((with_reducible refine (alive_any _ m HM.out).mono ?_); rintro e w1 ⟨rfl, hb⟩)
      have HB1 := hid hb
      clear hb)
    go_ret
    exact ⟨rfl, HB1.out⟩
  · have hd1 : decide (100 < (ks.length : Int)) = false := by simp; omega
    by_cases h2 : 100000 < bs.length
    · have hd2 : (100000 : Int) < bs.length := by omega
      go_enter Tryd.func4, Tryd.ntmps4
      go_wp2_with (
        go_at_call 8
        ((with_reducible refine (alive_any _ m HM.out).mono ?_); rintro e w1 ⟨rfl, hb⟩)
        have HB1 := hid hb
        clear hb)
      go_ret
      exact ⟨rfl, HB1.out⟩
    · have hd2 : decide (100000 < (bs.length : Int)) = false := by simp; omega
      have hkl : ks.length ≤ 100 := by omega
      have hbl : bs.length ≤ 100000 := by omega
      clear h1 h2 hbc hbm hkm
      obtain ⟨⟨er, fs⟩, HX⟩ : ∃ x, Hid (readF ks bs = x) := ⟨_, hid rfl⟩
      obtain ⟨hwf, hfl⟩ := readF_wf ks bs
      rw [HX.out] at hwf hfl
      have HWF := hid hwf
      obtain ⟨N, HN⟩ : ∃ z, Hid (fs.length = z) := ⟨_, hid rfl⟩
      have hN : N ≤ 100 := by
        have h : fs.length ≤ ks.length := hfl
        rw [HN.out] at h
        omega
      have t0 : (er != er) = false := by simp
      obtain ⟨i5, hi5, hz5, hz51, hz52⟩ := info_parts Tryd.info5
      obtain ⟨i3, hi3, hz3, hz31, hz32⟩ := info_parts Tryd.info3
      clear hwf hfl
      go_enter Tryd.func4, Tryd.ntmps4
      go_wp2_with (first
        | (go_at_call 8
           ((with_reducible refine (alive_any _ m HM.out).mono ?_); rintro e w1 ⟨rfl, hb⟩)
           have HB1 := hid hb
           have HK1 := lies_at HK HB1
           have HS1 := slb_at HB HB1
           have HM1 := hm_below HM HB1 hpos
           have hz1 : w.heap.size ≤ w1.heap.size := hb.size
           clear hb)
        | (at_builtin
           (
             refine wpList_app _ rfl (.tmp 23) (.tmp 24) 26 rfl w1.heap.size 5 i5 _ 1 1 Tryd.underlying26 hi5 hz5 hz51 hz52 rfl (by decide) _ 0 0 [] rfl (lit_own (Nat.le_refl _) rfl) w1.heap.size A bs.length c (bv bs) rfl ?g1 ?g2 (bv_one _) ?g3 ?g4 ?g5 ?_
             case g1 => rw [bv_length, Nat.mul_one]
             case g2 => exact HS1.out.2.2.2.alloc (Nat.le_refl _) _
             case g3 => unfold maxLen; omega
             case g4 => omega
             case g5 => simp
             intro A2 c2 w2 ho2 hg2
             simp only [Nat.zero_add, List.nil_append] at ho2 ⊢
             have HB12 : Hid (Below w1.heap.size w1 w2) := lit_grown rfl hg2
             have HB2 := bel_trans HB1 HB12
             have HK2 := lies_at HK HB2
             have HO2 := hid ho2
             clear ho2 hg2))
        | (at_builtin
           (
             refine wpList_app _ rfl (.tmp 26) (.tmp 27) 39 rfl w2.heap.size 3 i3 _ 1 8 Tryd.underlying39 hi3 hz3 hz31 hz32 rfl (by decide) _ 0 0 [] rfl (lit_own (Nat.le_refl _) rfl) w2.heap.size kA ks.length kc (ks.map (Value.int .i64)) rfl ?k1 ?k2 (ints_oneCell .i64 ks) ?k3 ?k4 ?k5 ?_
             case k1 => simp
             case k2 => exact HK2.out.alloc (Nat.le_refl _) _
             case k3 => unfold maxLen; omega
             case k4 => omega
             case k5 => simp
             intro A3 c3 w3 ho3 hg3
             simp only [Nat.zero_add, List.nil_append] at ho3 ⊢
             have HB23 : Hid (Below w2.heap.size w2 w3) := lit_grown rfl hg3
             have HB3 := bel_trans HB2 HB23
             have HKI3 : Hid (Lies w3 w3.heap.size A3 (ks.map (Value.int .i64))) := Lies.own ho3
             have HO23 := hid (own_keep HO2.out HB23.out)
             have HSI3 := hid (own_slb (n := 0) HO23.out)
             have HK3 := lies_at HK HB3
             have HS3 := slb_at HB HB3
             have HM3 := hm_below HM HB3 hpos
             clear ho3 hg3))
        | (go_at_call 17
           ((with_reducible refine (read_n _ A3 c3 ks.length ks A2 c2 bs.length bs m er fs N HX HN.out rfl rfl HKI3 (by omega) HSI3 HM3).mono ?_); rintro e w4 ⟨A4, c4, rfl, HR4, HB34⟩)
           have HB4 := bel_trans HB3 HB34
           have HK4 := lies_at HK HB4
           have HS4 := slb_at HB HB4)
        | (go_at_call 18
           ((with_reducible refine (rread_n _ kA kc ks.length ks A c bs.length bs er fs N HX HN.out rfl rfl HK4 (by omega) HS4 hbl).mono ?_); rintro e w5 ⟨A5, c5, rfl, HR5, HB45⟩)
           have HB35 := bel_trans HB34 HB45
           have HB5 := bel_trans HB4 HB45
           have HF45 : Hid (FdsV w5 w5.heap.size A4 fs) := by
             obtain ⟨cs, ho, hf⟩ := HR4.out
             exact (fds_at (hid (flat_fds ho hf HWF.out)) HB45)
           have HF5 : Hid (FdsV w5 w5.heap.size A5 fs) := by
             obtain ⟨cs, ho, hf⟩ := HR5.out
             exact flat_fds ho hf HWF.out)
        | (go_at_call 14
           ((with_reducible refine (same_n _ A4 A5 c4 c5 N N fs fs HF45 HF5 HN.out HN.out (by omega) (by omega) (hid rfl)).mono ?_); rintro e w6 ⟨rfl, HB56⟩)
           have HB36 := bel_trans HB35 HB56
           have HB46 := bel_trans HB45 HB56
           have HB6 := bel_trans HB5 HB56
           have HTX : Hid (0 < N → ∃ g cur, A4 = some ⟨g, 0, none⟩ ∧ w3.heap.size ≤ g ∧ Txts w6 w3.heap.size g cur N) := fun h0 => by
             obtain ⟨cs, ho, hf⟩ := HR4.out
             rw [HN.out] at ho
             exact txts_at (own_keep ho HB46.out) (flat_keep hf HB46.out) HN.out h0))
      have hz6 : w3.heap.size ≤ w6.heap.size := HB36.out.size
      clear HF45 HF5 HR4 HR5 HK1 HS1 HM1 HK2 HK3 HS3 HM3 HKI3 HSI3 HK4 HS4
      go_loopw [52] (fun i wr => ∃ k : Nat, k ≤ N ∧ i = .int .i64 k ∧ Hid (Below w3.heap.size w3 wr) ∧ Hid (0 < N → ∃ g cur, A4 = some ⟨g, 0, none⟩ ∧ w3.heap.size ≤ g ∧ Txts wr w3.heap.size g cur N)) (fun i _ => N - (intOf i).toNat)
      case atStart => exact ⟨0, Nat.zero_le _, rfl, HB36, HTX⟩
      case round =>
        clear HTX
        obtain ⟨k, hk, rfl, HBW, HT⟩ := hrel
        by_cases hlt : k < N
        · obtain ⟨g, cur, rfl, hg3, htx⟩ := HT.out (by omega)
          obtain ⟨tA, tn, tc, xs, q1, q2, _⟩ := htx.2 k hlt
          have hcaps := own_caps q2
          have hcm := hcaps.2
          have htn := hcaps.1
          unfold maxLen at hcm
          have HQ1 := hid q1
          have cT : wr.cell? ⟨g, k * 4 + 2, none⟩ = some (.slice tA tn tc) := by rw [htx.1.cell]; exact q1
          have HTX := hid htx
          clear htx q1 q2 hcaps HT
          go_wp2
          go_loopw [61] (fun i wr => ∃ q : Nat, q ≤ tn ∧ i = .int .i64 q ∧ Hid (Below w3.heap.size w3 wr) ∧ Hid (Txts wr w3.heap.size g cur N)) (fun i _ => tn - (intOf i).toNat)
          case atStart => exact ⟨0, Nat.zero_le _, rfl, HBW, HTX⟩
          case round =>
            clear HBW HTX cT
            obtain ⟨q, hq, rfl, HBW, HTX⟩ := hrel
            by_cases hltq : q < tn
            · obtain ⟨tA', tn', tc', xs, q1, q2, q3⟩ := HTX.out.2 k hlt
              have hq1 := HQ1.out
              rw [hq1] at q1
              injection q1 with q1
              injection q1 with e1 e2 e3
              subst e1; subst e2; subst e3
              obtain ⟨gt, rfl⟩ : ∃ gt, tA = some ⟨gt, 0, none⟩ := by
                rcases q2.2 with ⟨_, h0⟩ | ⟨g', cap, cur', hv, _⟩
                · omega
                · injection hv with hv
                  exact ⟨g', hv⟩
              obtain ⟨hge, cs', hbox⟩ := own_box q2 gt (by simp [Value.ownBlock])
              have hlen : xs.length = tn := by have := q2.1; omega
              obtain ⟨z, hz⟩ := q3 q (by omega)
              have cT : wr.cell? ⟨g, k * 4 + 2, none⟩ = some (.slice (some ⟨gt, 0, none⟩) tn tc) := by rw [HTX.out.1.cell]; exact hq1
              have cc : wr.cell? ⟨gt, q, none⟩ = some (.int .u8 z) := by
                rw [q2.cellAt q (by omega), ← hz]
                exact List.getElem?_eq_getElem _
              have ff : wr.frozen? ⟨gt, q, none⟩ = false := q2.frozenAt q
              have HBX := hid hbox
              have hkN : (k : Int) < N := by omega
              have hqn : (q : Int) < tn := by omega
              clear q2 q3 hq1 hbox hz
              go_wp2
              go_region
              go_wp2
              go_roundw
              case rel =>
                refine ⟨q + 1, by omega, by go_num, ?_, ?_⟩
                · exact bel_drewN (HBW.out.trans (((Kept.refl w3.heap.size [5] wr).store HBX.out hge (by simp) _).below HBW.out.size)) 1
                · exact txts_store HTX.out HBX.out _
              case measure => simp [intOf]; omega
            · go_wp2
              go_roundw
              case rel => exact ⟨k + 1, by omega, by go_num, HBW, fun _ => ⟨g, cur, rfl, hg3, HTX.out⟩⟩
              case measure => simp [intOf]; omega
        · have HI9 : Hid (Lies wr wr.heap.size A2 (bv bs)) := (lies_bel (hid (Lies.own HO23.out)) HBW)
          have HB9 : Hid (Lies wr wr.heap.size A (bv bs)) := (slb_at HB (bel_trans HB3 HBW)).out.2.2.2
          clear HT
          go_wp2_with (first
            | (go_at_call 13
               ((with_reducible refine (bytes_t _ A2 A c2 c bs.length bs HI9 HB9 rfl hbl).mono ?_); rintro e w9 ⟨rfl, HBZ⟩)))
          go_ret
          exact ⟨rfl, (bel_trans (bel_trans HB3 HBW) HBZ).out⟩
end Go.Proofs.YtoedhblihodgdaaDoor
