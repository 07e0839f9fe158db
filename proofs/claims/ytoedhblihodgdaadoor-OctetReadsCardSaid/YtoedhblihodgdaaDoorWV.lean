import Derived.Test.YtoedhblihodgdaaDoorWU
namespace Go.Proofs.YtoedhblihodgdaaDoor
open Go.RowKit

set_option maxHeartbeats 1000000 in
set_option maxRecDepth 100000 in
theorem again_any (w : World) (kA : Option Addr) (kc : Nat) (ks : List Int) (A : Option Addr) (c : Nat) (bs : List UInt8) (m : Int)
    (hk : Lies w w.heap.size kA (ks.map (Value.int .i64))) (hkm : ks.length ≤ maxLen) (hb : SlB w w.heap.size A c bs) (hm : w.cell? ⟨0, 0, none⟩ = some (.int .i64 m)) :
    Calls Tryd.prog 6 #[.slice kA ks.length kc, .slice A bs.length c] w fun e w' => e = .returned (.bool true) ∧ Below w.heap.size w w' := by
  have hbc := hb.1
  have hbm := hb.2.1
  unfold maxLen at hkm hbm
  have HK := hid hk
  have HB := hid hb
  have HM := hid hm
  have hpos : 0 < w.heap.size := World.block_lt_of_cell? w _ hm
  clear hk hb hm
  by_cases h1 : 100 < ks.length
  · go_enter Tryd.func6, Tryd.ntmps6
    go_wp2_with (
      go_at_call 8
      ((with_reducible refine (alive_any _ m HM.out).mono ?_); rintro e w1 ⟨rfl, hb⟩)
      have HB1 := hid hb
      clear hb)
    go_ret
    exact ⟨rfl, HB1.out⟩
  · have hd1 : decide (100 < (ks.length : Int)) = false := by simp; omega
    by_cases h2 : 33792 < bs.length
    · have hd2 : (33792 : Int) < bs.length := by omega
      go_enter Tryd.func6, Tryd.ntmps6
      go_wp2_with (
        go_at_call 8
        ((with_reducible refine (alive_any _ m HM.out).mono ?_); rintro e w1 ⟨rfl, hb⟩)
        have HB1 := hid hb
        clear hb)
      go_ret
      exact ⟨rfl, HB1.out⟩
    · have hd2 : decide (33792 < (bs.length : Int)) = false := by simp; omega
      obtain ⟨⟨er, fs⟩, HX⟩ : ∃ x, Hid (readF ks bs = x) := ⟨_, hid rfl⟩
      by_cases her : er = 0
      · subst her
        have hz := readF_zero (ks := ks) (bs := bs) (by omega) (by rw [HX.out])
        rw [HX.out] at hz
        obtain ⟨hrd, hok⟩ := hz
        obtain ⟨hlen, hbl, hflt, hwf⟩ := rdl_len ks fs bs hrd
        have HW : Hid (writeF fs = (0, encs fs)) := writeF_ok hok
        have hWf : ∀ f ∈ fs, Wf f := fun f hf => by
          obtain ⟨i, hi, rfl⟩ := List.getElem_of_mem hf
          have hkk := (kindsB_iff fs).1 hok.1 i hi
          simp only [kindB, Bool.and_eq_true, decide_eq_true_eq] at hkk
          exact ⟨(hwf _ hf).1, by omega, fun s hs => Nat.le_trans ((hwf _ hf).2 s hs) (by unfold maxLen; omega)⟩
        have HWF := hid hWf
        have HRD := hid hrd
        have HOK := hid hok
        have HFL := hid hflt
        clear hrd hok hflt hwf hWf
        have hbl' : (encs fs).length = bs.length := hbl
        have HBL := hid hbl
        have hle : fs.length ≤ 100 := by omega
        have HLE := hid hlen
        have e1 : ((encs fs).length : Int) = bs.length := by omega
        have e2 : (fs.length : Int) = ks.length := by omega
        clear hbl hbl' e1 e2 hlen
        go_enter Tryd.func6, Tryd.ntmps6
        go_wp2_with (first
          | (go_at_call 8
             ((with_reducible refine (alive_any _ m HM.out).mono ?_); rintro e w1 ⟨rfl, hb⟩)
             have HB1 := hid hb
             have HK1 := lies_at HK HB1
             have HS1 := slb_at HB HB1
             have HM1 := hm_below HM HB1 hpos
             clear hb)
          | (go_at_call 17
             ((with_reducible refine (read_n _ _ _ ks.length ks _ c bs.length bs m 0 fs ks.length HX HLE.out rfl rfl HK1 (by omega) HS1 HM1).mono ?_); rintro e w2 ⟨A2, c2, rfl, HR2, HBx⟩)
             have HB2 := bel_trans HB1 HBx
             have HF2 : Hid (FdsV w2 w2.heap.size A2 fs) := by
               obtain ⟨cs, ho, hf⟩ := HR2.out
               exact flat_fds ho hf HWF.out
             have hc2 : ks.length ≤ c2 ∧ c2 ≤ maxLen := by
               obtain ⟨cs, ho, hf⟩ := HR2.out
               have := own_caps ho
               rw [HLE.out] at this
               exact this)
          | (go_at_call 11
             ((with_reducible refine (write_c _ _ c2 ks.length fs _ _ HW HLE.out HF2 hc2.1 hc2.2).mono ?_); rintro e w3 ⟨A3, c3, rfl, HL3, HBy, HC3⟩)
             rw [HBL.out] at HC3 ⊢
             have HB3 := bel_trans HB2 HBy
             have hc3x : Hid (bs.length ≤ c3 ∧ c3 ≤ maxLen) := HC3
             have HF3 := fds_at HF2 HBy
             have HK3 := lies_at HK HB3
             have HS3 := slb_at HB HB3))
        have hsz3 : w.heap.size ≤ w3.heap.size := HB3.out.size
        go_loopw [57, 9] (fun i v wr => ∃ k : Nat, k ≤ ks.length ∧ i = .int .i64 k ∧ v = .int .i64 (encs (fs.take k)).length ∧ Hid (Below w3.heap.size w3 wr)) (fun i _ _ => ks.length - (intOf i).toNat)
        case atStart => exact ⟨0, Nat.zero_le _, rfl, by simp [encs], Below.refl _ _⟩
        case round =>
          obtain ⟨k, hk, rfl, rfl, HBW⟩ := hrel
          by_cases hlt : k < ks.length
          · have hltf : k < fs.length := by rw [HLE.out]; exact hlt
            have HF4 := fds_at HF3 HBW
            have HL4 := lies_at HL3 HBW
            have HK4 := lies_at HK3 HBW
            have HS4 := slb_at HS3 HBW
            obtain ⟨b, o, rfl, hbw, hcells⟩ := HF4.out (by intro e; rw [e] at hltf; simp at hltf)
            obtain ⟨tA, tc, lA, lc, hfd, c0, c1, c2', c3'⟩ := hcells k hltf
            obtain ⟨kb, ko, rfl, hkb, hkc⟩ := HK4.out (by intro e; have := congrArg List.length e; simp at this; rw [this] at hlt; simp at hlt)
            have ck : wr.cell? ⟨kb, ko + k, none⟩ = some (.int .i64 ks[k]) := hkc k _ (by simp [hlt])
            obtain ⟨hkind, hround⟩ := round_at HRD.out HOK.out HFL.out (by omega) k hltf hlt
            rw [hkind] at c0 hfd
            have HFD := hid hfd
            have HCK := hid ck
            clear hfd hcells hkc ck HRD HOK HFL HWF HF2 HF3 HF4 HX HW HR2 HK1 HS1 HK3 HK4 HLE HK hkind
            obtain ⟨f, Hf⟩ : ∃ f, Hid (fs[k] = f) := ⟨_, hid rfl⟩
            obtain ⟨kd, Hkd⟩ : ∃ f, Hid (ks[k] = f) := ⟨_, hid rfl⟩
            obtain ⟨a, Ha⟩ : ∃ f, Hid ((encs (fs.take k)).length = f) := ⟨_, hid rfl⟩
            obtain ⟨a2, Ha2⟩ : ∃ f, Hid ((encs (fs.take (k + 1))).length = f) := ⟨_, hid rfl⟩
            obtain ⟨n, Hn⟩ : ∃ z, Hid ((enc f).length = z) := ⟨_, hid rfl⟩
            rw [Hf.out, Hkd.out, Ha.out, Ha2.out, Hn.out] at hround
            rw [Hf.out] at c1 c2' c3'
            rw [Hkd.out] at c0
            rw [Hf.out, Hkd.out] at HFD
            rw [Hkd.out] at HCK
            rw [Ha.out]
            have HOKf : Hid (writeF [f] = (0, enc f)) := hround.ok
            have hfit := hround.fits
            have HNX := hid hround.next
            have HSM := hid hround.same
            have HBO := hid hround.bool
            clear hround Hf Hkd Ha
            by_cases hk2 : kd = 2
            · subst hk2
              obtain ⟨rfl, x, y, hx, hy, hxy⟩ := HBO.out rfl
              have t1 : ((2 : Int) == 2) = true := rfl
              have t2 : ((2 : Int) != 2) = false := rfl
              have ha1 : (a : Int) < bs.length := by omega
              have ha2 : a < (encs fs).length := by have := HBL.out; omega
              have hne2 : bs ≠ [] := by
                rintro rfl
                simp at hfit
              have hne1 : encs fs ≠ [] := by
                intro e
                rw [e] at ha2
                simp at ha2
              obtain ⟨b1, o1, rfl, hb1, hx1⟩ := HL4.out (by simpa [bv] using hne1)
              obtain ⟨b2, o2, rfl, hb2, hx2⟩ := HS4.out.2.2.2 (by simpa [bv] using hne2)
              have HD1 : Hid (wr.cell? ⟨b1, o1 + a, none⟩ = some (.int .u8 y.toNat)) := hx1 a _ (by simp [bv, hy])
              have HD2 : Hid (wr.cell? ⟨b2, o2 + a, none⟩ = some (.int .u8 x.toNat)) := hx2 a _ (by simp [bv, hx])
              clear hx1 hx2 hne1 hne2 hx hy ha2
              have hxn : (((x.toNat : Int) != 0) = false ∧ ((y.toNat : Int) == 1) = false) ∨ (((x.toNat : Int) != 0) = true ∧ ((y.toNat : Int) == 1) = true) := by
                by_cases h0 : x = 0
                · left
                  rw [if_pos h0] at hxy
                  subst h0; subst hxy
                  exact ⟨rfl, rfl⟩
                · right
                  rw [if_neg h0] at hxy
                  subst hxy
                  refine ⟨?_, rfl⟩
                  have : x.toNat ≠ 0 := fun h => h0 (UInt8.toNat_inj.1 h)
                  simp
                  omega
              clear hxy
              rcases hxn with ⟨t5, t6⟩ | ⟨t5, t6⟩
              · go_wp2_with (first
                  | (go_at_call 15
                     ((with_reducible refine (size_box _ _ _ f 1 HFD HOKf Hn.out).mono ?_); rintro e w5 ⟨rfl, HB5, hx5⟩)
                     have e0 : w5.cell? ⟨wr.heap.size, 0, none⟩ = some (.int .i64 2) := hx5 0 _ rfl
                     have e1 : w5.cell? ⟨kb, ko + k, none⟩ = some (.int .i64 2) := (HB5.out.cell (p := ⟨kb, _, none⟩) hkb).trans HCK.out
                     have e2 : w5.cell? ⟨b1, o1 + a, none⟩ = some (.int .u8 y.toNat) := (HB5.out.cell (p := ⟨b1, _, none⟩) hb1).trans HD1.out
                     have e3 : w5.cell? ⟨b2, o2 + a, none⟩ = some (.int .u8 x.toNat) := (HB5.out.cell (p := ⟨b2, _, none⟩) hb2).trans HD2.out
                     clear hx5))
                go_quiet (fail)
                go_wp2
                go_roundw
                case rel => exact ⟨k + 1, by omega, by go_num, by rw [Ha2.out, HNX.out]; go_num, bel_drewN (bel_trans HBW HB5).out _⟩
                case measure => simp [intOf]; omega
              · go_wp2_with (first
                  | (go_at_call 15
                     ((with_reducible refine (size_box _ _ _ f 1 HFD HOKf Hn.out).mono ?_); rintro e w5 ⟨rfl, HB5, hx5⟩)
                     have e0 : w5.cell? ⟨wr.heap.size, 0, none⟩ = some (.int .i64 2) := hx5 0 _ rfl
                     have e1 : w5.cell? ⟨kb, ko + k, none⟩ = some (.int .i64 2) := (HB5.out.cell (p := ⟨kb, _, none⟩) hkb).trans HCK.out
                     have e2 : w5.cell? ⟨b1, o1 + a, none⟩ = some (.int .u8 y.toNat) := (HB5.out.cell (p := ⟨b1, _, none⟩) hb1).trans HD1.out
                     have e3 : w5.cell? ⟨b2, o2 + a, none⟩ = some (.int .u8 x.toNat) := (HB5.out.cell (p := ⟨b2, _, none⟩) hb2).trans HD2.out
                     clear hx5))
                go_quiet (fail)
                go_wp2
                go_roundw
                case rel => exact ⟨k + 1, by omega, by go_num, by rw [Ha2.out, HNX.out]; go_num, bel_drewN (bel_trans HBW HB5).out _⟩
                case measure => simp [intOf]; omega
            · have t2 : (kd == 2) = false := by simpa using hk2
              have t2' : (kd != 2) = true := by simpa using hk2
              have t3 : (kd != kd) = false := by simp
              obtain ⟨r, r2, hr, hr2⟩ := HSM.out hk2
              have HRR := hid hr
              have HRR2 := hid hr2
              clear hr hr2 hk2
              by_cases hn0 : n = 0
              · have q3 : a + n ≤ c := by omega
                have q4 : a + n ≤ c3 := by have := HC3.out.1; omega
                have q5 : c3 ≤ 9223372036854775807 := by have := HC3.out.2; unfold maxLen at this; omega
                have HN0 := hid hn0
                clear hn0
                go_wp2_with (first
                  | (go_at_call 15
                     ((with_reducible refine (size_box _ _ _ f n HFD HOKf Hn.out).mono ?_); rintro e w5 ⟨rfl, HB5, hx5⟩)
                     have e0 : w5.cell? ⟨wr.heap.size, 0, none⟩ = some (.int .i64 kd) := hx5 0 _ rfl
                     have HCK5 : Hid (w5.cell? ⟨kb, ko + k, none⟩ = some (.int .i64 kd)) := (HB5.out.cell (p := ⟨kb, _, none⟩) hkb).trans HCK.out
                     have e1 := HCK5.out
                     have HC13 : Hid (∀ d X Y c c', Calls Tryd.prog 13 #[.slice X n c, .slice Y n c'] (w5.drewN d) fun e w' => e = .returned (.bool true) ∧ Quiet (w5.drewN d) w') := fun d X Y c c' => by
                       have := bytes_any (w5.drewN d) 0 0 X Y c c' [] [] Lies.nil_ Lies.nil_ (Nat.zero_le _) (Nat.zero_le _)
                       rw [HN0.out]
                       simpa using this
                     clear hx5)
                  | (go_at_call 13; fail_if_success skip))
                go_quiet (first
                  | (go_at_call 13; first | exact quiet_two (HC13.out _ _ _ _ _) | exact quiet_any (HC13.out _ _ _ _ _)))
                go_wp2
                go_roundw
                case rel => exact ⟨k + 1, by omega, by go_num, by rw [Ha2.out, HNX.out]; go_num, bel_drewN (bel_trans HBW HB5).out _⟩
                case measure => simp [intOf]; omega
              · have hne1 : encs fs ≠ [] := by
                  intro e
                  have h5 := HBL.out
                  rw [e] at h5
                  simp at h5
                  omega
                have hne2 : bs ≠ [] := by
                  rintro rfl
                  simp at hfit
                  omega
                obtain ⟨b1, o1, rfl, hb1, hx1⟩ := HL4.out (by simpa [bv] using hne1)
                obtain ⟨b2, o2, rfl, hb2, hx2⟩ := HS4.out.2.2.2 (by simpa [bv] using hne2)
                clear hx1 hx2 hne1 hne2
                have q1 : c ≠ a := by omega
                have q2 : c3 ≠ a := by have := HC3.out.1; omega
                have q3 : a + n ≤ c := by omega
                have q4 : a + n ≤ c3 := by have := HC3.out.1; omega
                have q5 : c3 ≤ 9223372036854775807 := by have := HC3.out.2; unfold maxLen at this; omega
                clear hn0
                go_wp2_with (first
                  | (go_at_call 15
                     ((with_reducible refine (size_box _ _ _ f n HFD HOKf Hn.out).mono ?_); rintro e w5 ⟨rfl, HB5, hx5⟩)
                     have e0 : w5.cell? ⟨wr.heap.size, 0, none⟩ = some (.int .i64 kd) := hx5 0 _ rfl
                     have HCK5 : Hid (w5.cell? ⟨kb, ko + k, none⟩ = some (.int .i64 kd)) := (HB5.out.cell (p := ⟨kb, _, none⟩) hkb).trans HCK.out
                     have e1 := HCK5.out
                     have L1 := lies_at HL4 HB5
                     have L2 : Hid (Lies w5 w5.heap.size (some ⟨b2, o2, none⟩) (bv bs)) := (slb_at HS4 HB5).out.2.2.2
                     have HC13 : Hid (∀ d c c', Calls Tryd.prog 13 #[.slice (some ⟨b2, o2 + a, none⟩) n c, .slice (some ⟨b1, o1 + a, none⟩) n c'] (w5.drewN d) fun e w' => e = .returned (.bool true) ∧ Quiet (w5.drewN d) w') := fun d c c' =>
                       same_cut (w5.drewN d) b2 o2 b1 o1 c c' n a bs (encs fs) (enc f) r r2 Hn.out (by unfold maxLen; omega) HRR.out HRR2.out (L2.out.drewN d) (L1.out.drewN d)
                     clear hx5)
                  | (go_at_call 13; fail_if_success skip))
                go_quiet (first
                  | (go_at_call 13; first | exact quiet_two (HC13.out _ _ _) | exact quiet_any (HC13.out _ _ _)))
                go_wp2
                go_roundw
                case rel => exact ⟨k + 1, by omega, by go_num, by rw [Ha2.out, HNX.out]; go_num, bel_drewN (bel_trans HBW HB5).out _⟩
                case measure => simp [intOf]; omega
          · go_wp2
            go_ret
            exact ⟨rfl, (bel_trans HB3 HBW).out⟩
      · have HE : Hid (fs = []) := by
          have h := readF_err (ks := ks) (bs := bs) (by rw [HX.out]; exact her)
          rw [HX.out] at h
          exact h
        have HL0 : fs.length = 0 := congrArg List.length HE.out
        have t1 : (er != 0) = true := by simpa using her
        clear her
        go_enter Tryd.func6, Tryd.ntmps6
        go_wp2_with (first
          | (go_at_call 8
             ((with_reducible refine (alive_any _ m HM.out).mono ?_); rintro e w1 ⟨rfl, hb⟩)
             have HB1 := hid hb
             have HK1 := lies_at HK HB1
             have HS1 := slb_at HB HB1
             have HM1 := hm_below HM HB1 hpos
             clear hb)
          | (go_at_call 17
             ((with_reducible refine (read_n _ _ _ ks.length ks _ c bs.length bs m er fs 0 HX HL0 rfl rfl HK1 (by omega) HS1 HM1).mono ?_); rintro e w2 ⟨A2, c2, rfl, HR2, HBx⟩)
             have HB2 := bel_trans HB1 HBx))
        go_ret
        exact ⟨rfl, HB2.out⟩
end Go.Proofs.YtoedhblihodgdaaDoor
