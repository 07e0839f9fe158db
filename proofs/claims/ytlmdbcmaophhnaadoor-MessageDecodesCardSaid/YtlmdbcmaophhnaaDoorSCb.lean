import Derived.Test.YtlmdbcmaophhnaaDoorSB
import Derived.BigRegion
namespace Go.Proofs.YtlmdbcmaophhnaaDoor
open Go.RowKit

theorem wz_90 (W : World) (s0 : ByteArray) (a1 : Nat) (a2 : Nat) (a3 : Nat) (A4 : Option Addr) (n4 c4 : Nat) (hs : s0.size ≤ maxLen) :
    Calls Tryd.prog 21 #[.agg #[.int .i64 90, .int .u32 0, .int .u32 a1, .int .u32 a2, .int .u32 a3, .int .u32 0, .string s0, .string ⟨#[]⟩, .bool false, .slice A4 n4 c4]] W fun e w' => e = .returned (.bool (wordOk 1 s0)) ∧ Below W.heap.size W w' :=
  words21_90 0 a1 a2 a3 0 n4 c4 s0 ⟨#[]⟩ false A4 W hs

set_option maxHeartbeats 8000000 in
set_option maxRecDepth 100000 in
theorem rdec_90 (w : World) (A : Option Addr) (c n : Nat) (r : List UInt8) (hn : ((90 : UInt8) :: r).length = n) (hb : SlB w w.heap.size A c ((90 : UInt8) :: r)) (hl : n ≤ 100000) :
    Calls Tryd.prog 16 #[.slice A n c] w (DecodeR (decF ((90 : UInt8) :: r)) w) := by
  have HB := hid hb
  have HN := hid hn
  obtain ⟨bk, o, rfl, hbk, hcells⟩ := hb.2.2.2 (by simp [bv])
  have cb : w.cell? ⟨bk, o, none⟩ = some (.int .u8 90) := hcells 0 _ rfl
  have cb1 : ∀ ob, (w.alloc ob).cell? ⟨bk, o, none⟩ = some (.int .u8 90) := fun ob => ((bel1 w ob).cell (p := ⟨bk, o, none⟩) hbk).trans cb
  have hn1 : 0 < n := by rw [← hn]; simp
  have hn2 : (0 : Int) < n := by omega
  have hn3 : ((n : Int) == 0) = false := by simp; omega
  clear hcells hb hn
  obtain ⟨i3, hi3, hz3, hz31, hz32⟩ := info_parts Tryd.info3m
  obtain ⟨⟨er, fs⟩, HRD⟩ : ∃ x, Hid (readF [1, 4, 3, 3, 3, 6] ((90 : UInt8) :: r) = x) := ⟨_, hid rfl⟩
  have HDE : Hid (decF ((90 : UInt8) :: r) = if er = 0 then putsF [.name, .sender, .window, .packet, .rest] (fs.drop 1) { zeroM with kind := 90 } else (er, zeroM)) := by
    have h : decF ((90 : UInt8) :: r) = if (readF [1, 4, 3, 3, 3, 6] ((90 : UInt8) :: r)).1 = 0 then putsF [.name, .sender, .window, .packet, .rest] ((readF [1, 4, 3, 3, 3, 6] ((90 : UInt8) :: r)).2.drop 1) { zeroM with kind := 90 } else ((readF [1, 4, 3, 3, 3, 6] ((90 : UInt8) :: r)).1, zeroM) := rfl
    rw [HRD.out] at h
    exact h
  obtain ⟨fn, HFN⟩ : ∃ x, Hid (fs.length = x) := ⟨_, hid rfl⟩
  go_enter Tryd.func16, Tryd.ntmps16
  go_wp2_with (
    go_at_call 20
    ((with_reducible refine (fz_90 _).mono ?_); rintro e w1 ⟨HB1, A1, rfl, HF1⟩)
    have HX0 : Hid (Box w1 w.heap.size 25 #[.int .i64 0, .int .u32 0, .int .u32 0, .int .u32 0, .int .u32 0, .int .u32 0, .string ⟨#[]⟩, .string ⟨#[]⟩, .bool false, .slice none 0 0]) := box_below (box_below (Box.new w 25 _) (bel1 _ _)) HB1.out
    have HX1 : Hid (Box w1 (w.heap.size + 1) 25 #[.int .i64 90, .int .u32 0, .int .u32 0, .int .u32 0, .int .u32 0, .int .u32 0, .string ⟨#[]⟩, .string ⟨#[]⟩, .bool false, .slice none 0 0]) := by
      have h := box_below (Box.new (w.alloc (.cells #[.int .i64 0, .int .u32 0, .int .u32 0, .int .u32 0, .int .u32 0, .int .u32 0, .string ⟨#[]⟩, .string ⟨#[]⟩, .bool false, .slice none 0 0] 25)) 25 #[.int .i64 90, .int .u32 0, .int .u32 0, .int .u32 0, .int .u32 0, .int .u32 0, .string ⟨#[]⟩, .string ⟨#[]⟩, .bool false, .slice none 0 0]) HB1.out
      have e : (w.alloc (.cells #[.int .i64 0, .int .u32 0, .int .u32 0, .int .u32 0, .int .u32 0, .int .u32 0, .string ⟨#[]⟩, .string ⟨#[]⟩, .bool false, .slice none 0 0] 25)).heap.size = w.heap.size + 1 := by simp
      rw [e] at h
      exact h
    have HBW := bel_trans (bel2_h w _ _) HB1
    have hsz1 : w.heap.size + 2 ≤ w1.heap.size := by have := HB1.out.size; simpa using this)
  go_loopw [32, 7] (fun i v wr => ∃ (k : Nat) (A' : Option Addr) (c' : Nat), k ≤ 5 ∧ i = .int .i64 k ∧ v = .slice A' (k + 1) c' ∧ Hid (Below w1.heap.size w1 wr) ∧ Hid (wr.ownsRow w1.heap.size 3 1 (.slice A' (k + 1) c') (k + 1) (kv (1 :: (([4, 3, 3, 3, 6] : List Int).take k))))) (fun i _ _ => 5 - (intOf i).toNat)
  case atStart => exact ⟨0, _, _, Nat.zero_le _, rfl, rfl, bel1 w1 _, World.ownsRow_lit (base := w1.heap.size) (e := 3) (size := 1) w1 #[.int .i64 1] 1 (Nat.le_refl _) (by unfold maxLen; omega) (by simp)⟩
  case round =>
    obtain ⟨k, A', c', hk, rfl, rfl, HBR, HO⟩ := hrel
    by_cases hlt : k < 5
    · obtain ⟨lb, lo, rfl, hlb, hlc⟩ := (HF1.out.below HBR.out) (by simp)
      obtain ⟨fn0, tn, tc, ln, lc, tA, lA, d0, d1, d2, d3⟩ := hlc k hlt
      have HT : Hid (([4, 3, 3, 3, 6] : List Int).take (k + 1) = ([4, 3, 3, 3, 6] : List Int).take k ++ [([4, 3, 3, 3, 6] : List Int)[k]]) := take_snoc ([4, 3, 3, 3, 6] : List Int) k hlt
      clear hlc
      have hszr : w1.heap.size ≤ wr.heap.size := HBR.out.size
      obtain ⟨kd, HK⟩ : ∃ z, Hid (([4, 3, 3, 3, 6] : List Int)[k] = z) := ⟨_, hid rfl⟩
      rw [HK.out] at d0 HT
      go_wp2_with (
        at_builtin
        go_loud (
        refine wpList_app _ rfl (.tmp 36) (.tmp 39) 64 rfl w1.heap.size 3 i3 _ 1 8 Tryd.underlying64 hi3 hz3 hz31 hz32 rfl ?g1 A' (k + 1) c' (kv (1 :: ([4, 3, 3, 3, 6] : List Int).take k)) rfl ((HO.out.alloc _).alloc _) _ _ 1 1 [.int .i64 kd] rfl ?g2 (lies_l2 _ _ _ _) (one1m _) ?g3 ?g4 ?g5 ?_
        case g1 => omega
        case g2 => rfl
        case g3 => unfold maxLen; omega
        case g4 => omega
        case g5 => simp; omega
        intro A6 c6 w6 ho6 hg6
        have HB6 := hid (HBR.out.trans (((((Kept.refl w1.heap.size [3] wr).alloc _).alloc _).grown hg6 (fun q hq => by obtain ⟨a, cs, b⟩ := own_box ((HO.out.alloc _).alloc _) q hq; exact ⟨a, 3, cs, by simp, b⟩)).below hszr))
        have HO6 := hid ho6
        clear ho6 hg6))
      go_roundw
      case rel => exact ⟨k + 1, A6, c6, by omega, by go_num, rfl, HB6, hid (by rw [HT.out]; simpa [kv] using HO6.out)⟩
      case measure => simp [intOf]; omega
    · have hkn : k = 5 := by omega
      subst hkn
      have hown := HO.out
      have HLK : Hid (Lies wr wr.heap.size A' (([1, 4, 3, 3, 3, 6] : List Int).map (Value.int .i64))) := hid (Lies.own hown)
      have HBWR := bel_trans HBW HBR
      have HSB : Hid (SlB wr wr.heap.size (some ⟨bk, o, none⟩) c ((90 : UInt8) :: r)) := slb_at HB HBWR
      have HX0r := box_p HX0 HBR
      have HX1r := box_p HX1 HBR
      have hszr : w1.heap.size ≤ wr.heap.size := HBR.out.size
      clear hown HO HX0 HX1 HF1
      by_cases her : er = 0
      · subst her
        have HP : Hid (decF ((90 : UInt8) :: r) = putsF [.name, .sender, .window, .packet, .rest] (fs.drop 1) { zeroM with kind := 90 }) := by show _ = _; rw [HDE.out, if_pos rfl]
        obtain ⟨xs, rfl, hxk, hbit⟩ := readF_facts (ps := [.name, .sender, .window, .packet, .rest]) (b0 := 90) (r := r) HRD.out
        obtain ⟨f0, f1, f2, f3, f4, rfl⟩ : ∃ f0 f1 f2 f3 f4, xs = [f0, f1, f2, f3, f4] := by
          have hlen := congrArg List.length hxk
          simp only [List.length_map] at hlen
          match xs, hlen with
          | [f0, f1, f2, f3, f4], _ => exact ⟨_, _, _, _, _, rfl⟩
        obtain ⟨n0, N0⟩ : ∃ x, Hid (f0.text.length = x) := ⟨_, hid rfl⟩
        obtain ⟨n1, N1⟩ : ∃ x, Hid (f1.text.length = x) := ⟨_, hid rfl⟩
        obtain ⟨n2, N2⟩ : ∃ x, Hid (f2.text.length = x) := ⟨_, hid rfl⟩
        obtain ⟨n3, N3⟩ : ∃ x, Hid (f3.text.length = x) := ⟨_, hid rfl⟩
        obtain ⟨n4, N4⟩ : ∃ x, Hid (f4.text.length = x) := ⟨_, hid rfl⟩
        obtain ⟨s0, S0⟩ : ∃ x : ByteArray, Hid ((⟨f0.text.toArray⟩ : ByteArray) = x) := ⟨_, hid rfl⟩
        clear hbit hxk
        obtain rfl : fn = 6 := HFN.out.symm
        have HE : Hid (decF ((90 : UInt8) :: r) = if wordOk 1 s0 = true then (0, { zeroM with kind := 90, name := s0, sender := f1.n, window := f2.n, packet := f3.n, data := f4.text }) else (4, zeroM)) := by
          show _ = _
          rw [HP.out, ← S0.out]
          first | (simp [putsF, Pl.ok, Pl.put]; done) | (simp [putsF, Pl.ok, Pl.put]; rfl) | rfl
        clear HP HDE
        obtain ⟨bw, HBW0⟩ : ∃ x, Hid (wordOk 1 s0 = x) := ⟨_, hid rfl⟩
        rw [HBW0.out] at HE
        go_wp2_with (
          (go_at_call 24
           ((with_reducible refine (rread_x wr A' c' 6 [1, 4, 3, 3, 3, 6] (some ⟨bk, o, none⟩) c n ((90 : UInt8) :: r) 0 (⟨1, ((90 : UInt8)).toNat, [], []⟩ :: [f0, f1, f2, f3, f4]) 6 HRD rfl rfl HN HLK (by omega) HSB hl).mono ?_); rintro e w6 ⟨A6, c6, rfl, hcs, HB6⟩)
           obtain ⟨cs, ho6, hf6⟩ := hcs.out
           obtain ⟨tAk, tck, lAk, lck, rk, rfl, hk1, hk2, tA0, tc0, lA0, lc0, r0, rfl, ht0, hl0, tA1, tc1, lA1, lc1, r1, rfl, ht1, hl1, tA2, tc2, lA2, lc2, r2, rfl, ht2, hl2, tA3, tc3, lA3, lc3, r3, rfl, ht3, hl3, tA4, tc4, lA4, lc4, r4, rfl, ht4, hl4, hre⟩ := hf6
           have hre : _ = [] := hre
           subst hre
           obtain ⟨fb, rfl, hfb, hfl, hc6, hc6m, hcc⟩ := own_at ho6 (by simp)
           have hfb1 : w.heap.size + 1 < fb := by omega
           have hfb2 : ¬ fb = w.heap.size + 1 := by omega
           have hfb3 : ¬ w.heap.size + 1 = fb := by omega
           have hfb4 : ¬ w.heap.size = fb := by omega
           have hci : (6 : Int) ≤ c6 := by have : (6 : Nat) ≤ c6 := hc6; omega
           have hc1 : ¬ (c6 = 1) := by have : (6 : Nat) ≤ c6 := hc6; omega
           unfold maxLen at hc6m
           have HX06 := box_p HX0r HB6
           have HX16 := box_p HX1r HB6
           have y01 : w6.cell? ⟨fb, 5, none⟩ = some (.int .u32 f0.n) := hcc 5 _ rfl
           have y02 : w6.cell? ⟨fb, 6, none⟩ = some (.slice tA0 n0 tc0) := by have h := hcc 6 _ rfl; rw [N0.out] at h; exact h
           have y11 : w6.cell? ⟨fb, 9, none⟩ = some (.int .u32 f1.n) := hcc 9 _ rfl
           have y12 : w6.cell? ⟨fb, 10, none⟩ = some (.slice tA1 n1 tc1) := by have h := hcc 10 _ rfl; rw [N1.out] at h; exact h
           have y21 : w6.cell? ⟨fb, 13, none⟩ = some (.int .u32 f2.n) := hcc 13 _ rfl
           have y22 : w6.cell? ⟨fb, 14, none⟩ = some (.slice tA2 n2 tc2) := by have h := hcc 14 _ rfl; rw [N2.out] at h; exact h
           have y31 : w6.cell? ⟨fb, 17, none⟩ = some (.int .u32 f3.n) := hcc 17 _ rfl
           have y32 : w6.cell? ⟨fb, 18, none⟩ = some (.slice tA3 n3 tc3) := by have h := hcc 18 _ rfl; rw [N3.out] at h; exact h
           have y41 : w6.cell? ⟨fb, 21, none⟩ = some (.int .u32 f4.n) := hcc 21 _ rfl
           have y42 : w6.cell? ⟨fb, 22, none⟩ = some (.slice tA4 n4 tc4) := by have h := hcc 22 _ rfl; rw [N4.out] at h; exact h
           have mc0 : w6.cell? ⟨w.heap.size + 1, 0, none⟩ = some (.int .i64 90) := HX16.out.cell 0
           have mf0 : w6.frozen? ⟨w.heap.size + 1, 0, none⟩ = false := HX16.out.frozen 0
           have mc1 : w6.cell? ⟨w.heap.size + 1, 1, none⟩ = some (.int .u32 0) := HX16.out.cell 1
           have mf1 : w6.frozen? ⟨w.heap.size + 1, 1, none⟩ = false := HX16.out.frozen 1
           have mc2 : w6.cell? ⟨w.heap.size + 1, 2, none⟩ = some (.int .u32 0) := HX16.out.cell 2
           have mf2 : w6.frozen? ⟨w.heap.size + 1, 2, none⟩ = false := HX16.out.frozen 2
           have mc3 : w6.cell? ⟨w.heap.size + 1, 3, none⟩ = some (.int .u32 0) := HX16.out.cell 3
           have mf3 : w6.frozen? ⟨w.heap.size + 1, 3, none⟩ = false := HX16.out.frozen 3
           have mc4 : w6.cell? ⟨w.heap.size + 1, 4, none⟩ = some (.int .u32 0) := HX16.out.cell 4
           have mf4 : w6.frozen? ⟨w.heap.size + 1, 4, none⟩ = false := HX16.out.frozen 4
           have mc5 : w6.cell? ⟨w.heap.size + 1, 5, none⟩ = some (.int .u32 0) := HX16.out.cell 5
           have mf5 : w6.frozen? ⟨w.heap.size + 1, 5, none⟩ = false := HX16.out.frozen 5
           have mc6 : w6.cell? ⟨w.heap.size + 1, 6, none⟩ = some (.string ⟨#[]⟩) := HX16.out.cell 6
           have mf6 : w6.frozen? ⟨w.heap.size + 1, 6, none⟩ = false := HX16.out.frozen 6
           have mc7 : w6.cell? ⟨w.heap.size + 1, 7, none⟩ = some (.string ⟨#[]⟩) := HX16.out.cell 7
           have mf7 : w6.frozen? ⟨w.heap.size + 1, 7, none⟩ = false := HX16.out.frozen 7
           have mc8 : w6.cell? ⟨w.heap.size + 1, 8, none⟩ = some (.bool false) := HX16.out.cell 8
           have mf8 : w6.frozen? ⟨w.heap.size + 1, 8, none⟩ = false := HX16.out.frozen 8
           have mc9 : w6.cell? ⟨w.heap.size + 1, 9, none⟩ = some (.slice none 0 0) := HX16.out.cell 9
           have mf9 : w6.frozen? ⟨w.heap.size + 1, 9, none⟩ = false := HX16.out.frozen 9
           have hcv0_0 : (convert 23 9 (.slice tA0 n0 tc0)).run Tryd.prog w6.drew = .ok (.string s0) w6.drew := conv_sets [] HX16.out ht0 N0.out S0.out
           have hsz0 := size_own ht0 S0.out
           have HD := hid (data_own ht4 N4.out (show w.heap.size ≤ wr.heap.size by omega))
           have HBF := bel_trans HBWR HB6
           clear hcs ht0 hl0 ht1 hl1 ht2 hl2 ht3 hl3 ht4 hl4 hk1 hk2 ho6 hcc))
        go_region
        cases bw with
        | false =>
          go_wp2_with (
            (go_at_call 21
             ((with_reducible refine (wz_90 _ s0 f1.n f2.n f3.n tA4 n4 tc4 hsz0).mono ?_); rw [HBW0.out]; rintro e w8 ⟨rfl, hb8⟩)
             obtain ⟨k68, hx08, hx18⟩ := rd_tail [(6, .string s0), (2, .int .u32 f1.n), (3, .int .u32 f2.n), (4, .int .u32 f3.n), (9, .slice tA4 n4 tc4)] HX06.out HX16.out hb8
             have HX08 := hid hx08
             have HX18 := hid hx18
             have K68 := hid k68
             have HB8 : Hid (Below w.heap.size w w8) := hid (HBF.out.trans ((K68.out.below (by have := HX16.out.lt; omega)).mono (by omega)))
             clear hx08 hx18 k68 hb8
             have rc0 : w8.cell? ⟨w.heap.size, 0, none⟩ = some (.int .i64 0) := HX08.out.cell 0
             have rf0 : w8.frozen? ⟨w.heap.size, 0, none⟩ = false := HX08.out.frozen 0
             have rc1 : w8.cell? ⟨w.heap.size, 1, none⟩ = some (.int .u32 0) := HX08.out.cell 1
             have rf1 : w8.frozen? ⟨w.heap.size, 1, none⟩ = false := HX08.out.frozen 1
             have rc2 : w8.cell? ⟨w.heap.size, 2, none⟩ = some (.int .u32 0) := HX08.out.cell 2
             have rf2 : w8.frozen? ⟨w.heap.size, 2, none⟩ = false := HX08.out.frozen 2
             have rc3 : w8.cell? ⟨w.heap.size, 3, none⟩ = some (.int .u32 0) := HX08.out.cell 3
             have rf3 : w8.frozen? ⟨w.heap.size, 3, none⟩ = false := HX08.out.frozen 3
             have rc4 : w8.cell? ⟨w.heap.size, 4, none⟩ = some (.int .u32 0) := HX08.out.cell 4
             have rf4 : w8.frozen? ⟨w.heap.size, 4, none⟩ = false := HX08.out.frozen 4
             have rc5 : w8.cell? ⟨w.heap.size, 5, none⟩ = some (.int .u32 0) := HX08.out.cell 5
             have rf5 : w8.frozen? ⟨w.heap.size, 5, none⟩ = false := HX08.out.frozen 5
             have rc6 : w8.cell? ⟨w.heap.size, 6, none⟩ = some (.string ⟨#[]⟩) := HX08.out.cell 6
             have rf6 : w8.frozen? ⟨w.heap.size, 6, none⟩ = false := HX08.out.frozen 6
             have rc7 : w8.cell? ⟨w.heap.size, 7, none⟩ = some (.string ⟨#[]⟩) := HX08.out.cell 7
             have rf7 : w8.frozen? ⟨w.heap.size, 7, none⟩ = false := HX08.out.frozen 7
             have rc8 : w8.cell? ⟨w.heap.size, 8, none⟩ = some (.bool false) := HX08.out.cell 8
             have rf8 : w8.frozen? ⟨w.heap.size, 8, none⟩ = false := HX08.out.frozen 8
             have rc9 : w8.cell? ⟨w.heap.size, 9, none⟩ = some (.slice none 0 0) := HX08.out.cell 9
             have rf9 : w8.frozen? ⟨w.heap.size, 9, none⟩ = false := HX08.out.frozen 9
             ))
          refine bodyPost_ret (v := .tuple #[.agg (zeroM.cells none 0), .int .i64 4]) (by simp [results, Tryd.results16, go_sem, zeroM, Mg.cells, rc0, rc1, rc2, rc3, rc4, rc5, rc6, rc7, rc8, rc9]) rfl ?_
          rw [HE.out, if_neg (by simp)]
          exact decodeR_err _ _ _ (bel_ten HB8.out (Nat.le_refl _) _ _ _ _ _ _ _ _ _ _)
        | true =>
          go_wp2_with (
            (go_at_call 21
             ((with_reducible refine (wz_90 _ s0 f1.n f2.n f3.n tA4 n4 tc4 hsz0).mono ?_); rw [HBW0.out]; rintro e w8 ⟨rfl, hb8⟩)
             obtain ⟨k68, hx08, hx18⟩ := rd_tail [(6, .string s0), (2, .int .u32 f1.n), (3, .int .u32 f2.n), (4, .int .u32 f3.n), (9, .slice tA4 n4 tc4)] HX06.out HX16.out hb8
             have HX08 := hid hx08
             have HX18 := hid hx18
             have K68 := hid k68
             have HB8 : Hid (Below w.heap.size w w8) := hid (HBF.out.trans ((K68.out.below (by have := HX16.out.lt; omega)).mono (by omega)))
             clear hx08 hx18 k68 hb8
             have rc0 : w8.cell? ⟨w.heap.size, 0, none⟩ = some (.int .i64 0) := HX08.out.cell 0
             have rf0 : w8.frozen? ⟨w.heap.size, 0, none⟩ = false := HX08.out.frozen 0
             have rc1 : w8.cell? ⟨w.heap.size, 1, none⟩ = some (.int .u32 0) := HX08.out.cell 1
             have rf1 : w8.frozen? ⟨w.heap.size, 1, none⟩ = false := HX08.out.frozen 1
             have rc2 : w8.cell? ⟨w.heap.size, 2, none⟩ = some (.int .u32 0) := HX08.out.cell 2
             have rf2 : w8.frozen? ⟨w.heap.size, 2, none⟩ = false := HX08.out.frozen 2
             have rc3 : w8.cell? ⟨w.heap.size, 3, none⟩ = some (.int .u32 0) := HX08.out.cell 3
             have rf3 : w8.frozen? ⟨w.heap.size, 3, none⟩ = false := HX08.out.frozen 3
             have rc4 : w8.cell? ⟨w.heap.size, 4, none⟩ = some (.int .u32 0) := HX08.out.cell 4
             have rf4 : w8.frozen? ⟨w.heap.size, 4, none⟩ = false := HX08.out.frozen 4
             have rc5 : w8.cell? ⟨w.heap.size, 5, none⟩ = some (.int .u32 0) := HX08.out.cell 5
             have rf5 : w8.frozen? ⟨w.heap.size, 5, none⟩ = false := HX08.out.frozen 5
             have rc6 : w8.cell? ⟨w.heap.size, 6, none⟩ = some (.string ⟨#[]⟩) := HX08.out.cell 6
             have rf6 : w8.frozen? ⟨w.heap.size, 6, none⟩ = false := HX08.out.frozen 6
             have rc7 : w8.cell? ⟨w.heap.size, 7, none⟩ = some (.string ⟨#[]⟩) := HX08.out.cell 7
             have rf7 : w8.frozen? ⟨w.heap.size, 7, none⟩ = false := HX08.out.frozen 7
             have rc8 : w8.cell? ⟨w.heap.size, 8, none⟩ = some (.bool false) := HX08.out.cell 8
             have rf8 : w8.frozen? ⟨w.heap.size, 8, none⟩ = false := HX08.out.frozen 8
             have rc9 : w8.cell? ⟨w.heap.size, 9, none⟩ = some (.slice none 0 0) := HX08.out.cell 9
             have rf9 : w8.frozen? ⟨w.heap.size, 9, none⟩ = false := HX08.out.frozen 9
             have gc0 : w8.cell? ⟨w.heap.size + 1, 0, none⟩ = some (.int .i64 90) := HX18.out.cell 0
             have gc1 : w8.cell? ⟨w.heap.size + 1, 1, none⟩ = some (.int .u32 0) := HX18.out.cell 1
             have gc2 : w8.cell? ⟨w.heap.size + 1, 2, none⟩ = some (.int .u32 f1.n) := HX18.out.cell 2
             have gc3 : w8.cell? ⟨w.heap.size + 1, 3, none⟩ = some (.int .u32 f2.n) := HX18.out.cell 3
             have gc4 : w8.cell? ⟨w.heap.size + 1, 4, none⟩ = some (.int .u32 f3.n) := HX18.out.cell 4
             have gc5 : w8.cell? ⟨w.heap.size + 1, 5, none⟩ = some (.int .u32 0) := HX18.out.cell 5
             have gc6 : w8.cell? ⟨w.heap.size + 1, 6, none⟩ = some (.string s0) := HX18.out.cell 6
             have gc7 : w8.cell? ⟨w.heap.size + 1, 7, none⟩ = some (.string ⟨#[]⟩) := HX18.out.cell 7
             have gc8 : w8.cell? ⟨w.heap.size + 1, 8, none⟩ = some (.bool false) := HX18.out.cell 8
             have gc9 : w8.cell? ⟨w.heap.size + 1, 9, none⟩ = some (.slice tA4 n4 tc4) := HX18.out.cell 9
             ))
          refine bodyPost_ret (v := .tuple #[.agg #[.int .i64 90, .int .u32 0, .int .u32 f1.n, .int .u32 f2.n, .int .u32 f3.n, .int .u32 0, .string s0, .string ⟨#[]⟩, .bool false, .slice tA4 n4 tc4], .int .i64 0]) (by simp [results, Tryd.results16, go_sem, rc0, rc1, rc2, rc3, rc4, rc5, rc6, rc7, rc8, rc9]) rfl ?_
          rw [show decF ((90 : UInt8) :: r) = (0, { zeroM with kind := 90, name := s0, sender := f1.n, window := f2.n, packet := f3.n, data := f4.text }) from HE.out]
          exact decodeR_ok { zeroM with kind := 90, name := s0, sender := f1.n, window := f2.n, packet := f3.n, data := f4.text } tA4 tc4 n4 N4.out ((kept_ten HX08.out (Nat.le_refl _) _ _ _ _ _ _ _ _ _ _).own (K68.out.own HD.out (by decide)) (by decide)) (bel_ten HB8.out (Nat.le_refl _) _ _ _ _ _ _ _ _ _ _)
      · have HE : Hid (decF ((90 : UInt8) :: r) = (er, zeroM)) := by show _ = _; rw [HDE.out, if_neg her]
        have hz : (er != 0) = true := by simpa using her
        clear her HDE
        go_wp2_with (
          (go_at_call 24
           ((with_reducible refine (rread_x wr A' c' 6 [1, 4, 3, 3, 3, 6] (some ⟨bk, o, none⟩) c n ((90 : UInt8) :: r) er fs fn HRD HFN.out rfl HN HLK (by omega) HSB hl).mono ?_); rintro e w6 ⟨A6, c6, rfl, hcs, HB6⟩)
           have HX06 := box_p HX0r HB6
           have rc0 : w6.cell? ⟨w.heap.size, 0, none⟩ = some (.int .i64 0) := HX06.out.cell 0
           have rf0 : w6.frozen? ⟨w.heap.size, 0, none⟩ = false := HX06.out.frozen 0
           have rc1 : w6.cell? ⟨w.heap.size, 1, none⟩ = some (.int .u32 0) := HX06.out.cell 1
           have rf1 : w6.frozen? ⟨w.heap.size, 1, none⟩ = false := HX06.out.frozen 1
           have rc2 : w6.cell? ⟨w.heap.size, 2, none⟩ = some (.int .u32 0) := HX06.out.cell 2
           have rf2 : w6.frozen? ⟨w.heap.size, 2, none⟩ = false := HX06.out.frozen 2
           have rc3 : w6.cell? ⟨w.heap.size, 3, none⟩ = some (.int .u32 0) := HX06.out.cell 3
           have rf3 : w6.frozen? ⟨w.heap.size, 3, none⟩ = false := HX06.out.frozen 3
           have rc4 : w6.cell? ⟨w.heap.size, 4, none⟩ = some (.int .u32 0) := HX06.out.cell 4
           have rf4 : w6.frozen? ⟨w.heap.size, 4, none⟩ = false := HX06.out.frozen 4
           have rc5 : w6.cell? ⟨w.heap.size, 5, none⟩ = some (.int .u32 0) := HX06.out.cell 5
           have rf5 : w6.frozen? ⟨w.heap.size, 5, none⟩ = false := HX06.out.frozen 5
           have rc6 : w6.cell? ⟨w.heap.size, 6, none⟩ = some (.string ⟨#[]⟩) := HX06.out.cell 6
           have rf6 : w6.frozen? ⟨w.heap.size, 6, none⟩ = false := HX06.out.frozen 6
           have rc7 : w6.cell? ⟨w.heap.size, 7, none⟩ = some (.string ⟨#[]⟩) := HX06.out.cell 7
           have rf7 : w6.frozen? ⟨w.heap.size, 7, none⟩ = false := HX06.out.frozen 7
           have rc8 : w6.cell? ⟨w.heap.size, 8, none⟩ = some (.bool false) := HX06.out.cell 8
           have rf8 : w6.frozen? ⟨w.heap.size, 8, none⟩ = false := HX06.out.frozen 8
           have rc9 : w6.cell? ⟨w.heap.size, 9, none⟩ = some (.slice none 0 0) := HX06.out.cell 9
           have rf9 : w6.frozen? ⟨w.heap.size, 9, none⟩ = false := HX06.out.frozen 9
           have HBF := bel_trans HBWR HB6
           clear hcs))
        refine bodyPost_ret (v := .tuple #[.agg (zeroM.cells none 0), .int .i64 er]) (by simp [results, Tryd.results16, go_sem, zeroM, Mg.cells, rc0, rc1, rc2, rc3, rc4, rc5, rc6, rc7, rc8, rc9]) rfl ?_
        rw [HE.out]
        exact decodeR_err _ _ _ (bel_ten HBF.out (Nat.le_refl _) _ _ _ _ _ _ _ _ _ _)
theorem wz_91 (W : World) (a0 : Nat) (a1 : Nat) (a2 : Nat) (a3 : Nat) (A4 : Option Addr) (n4 c4 : Nat)  :
    Calls Tryd.prog 21 #[.agg #[.int .i64 91, .int .u32 a0, .int .u32 a1, .int .u32 a2, .int .u32 a3, .int .u32 0, .string ⟨#[]⟩, .string ⟨#[]⟩, .bool false, .slice A4 n4 c4]] W fun e w' => e = .returned (.bool (true)) ∧ Below W.heap.size W w' :=
  words21_91 a0 a1 a2 a3 0 n4 c4 ⟨#[]⟩ ⟨#[]⟩ false A4 W

set_option maxHeartbeats 8000000 in
set_option maxRecDepth 100000 in
theorem rdec_91 (w : World) (A : Option Addr) (c n : Nat) (r : List UInt8) (hn : ((91 : UInt8) :: r).length = n) (hb : SlB w w.heap.size A c ((91 : UInt8) :: r)) (hl : n ≤ 100000) :
    Calls Tryd.prog 16 #[.slice A n c] w (DecodeR (decF ((91 : UInt8) :: r)) w) := by
  have HB := hid hb
  have HN := hid hn
  obtain ⟨bk, o, rfl, hbk, hcells⟩ := hb.2.2.2 (by simp [bv])
  have cb : w.cell? ⟨bk, o, none⟩ = some (.int .u8 91) := hcells 0 _ rfl
  have cb1 : ∀ ob, (w.alloc ob).cell? ⟨bk, o, none⟩ = some (.int .u8 91) := fun ob => ((bel1 w ob).cell (p := ⟨bk, o, none⟩) hbk).trans cb
  have hn1 : 0 < n := by rw [← hn]; simp
  have hn2 : (0 : Int) < n := by omega
  have hn3 : ((n : Int) == 0) = false := by simp; omega
  clear hcells hb hn
  obtain ⟨i3, hi3, hz3, hz31, hz32⟩ := info_parts Tryd.info3m
  obtain ⟨⟨er, fs⟩, HRD⟩ : ∃ x, Hid (readF [1, 3, 3, 3, 3, 6] ((91 : UInt8) :: r) = x) := ⟨_, hid rfl⟩
  have HDE : Hid (decF ((91 : UInt8) :: r) = if er = 0 then putsF [.chan, .sender, .window, .packet, .rest] (fs.drop 1) { zeroM with kind := 91 } else (er, zeroM)) := by
    have h : decF ((91 : UInt8) :: r) = if (readF [1, 3, 3, 3, 3, 6] ((91 : UInt8) :: r)).1 = 0 then putsF [.chan, .sender, .window, .packet, .rest] ((readF [1, 3, 3, 3, 3, 6] ((91 : UInt8) :: r)).2.drop 1) { zeroM with kind := 91 } else ((readF [1, 3, 3, 3, 3, 6] ((91 : UInt8) :: r)).1, zeroM) := rfl
    rw [HRD.out] at h
    exact h
  obtain ⟨fn, HFN⟩ : ∃ x, Hid (fs.length = x) := ⟨_, hid rfl⟩
  go_enter Tryd.func16, Tryd.ntmps16
  go_wp2_with (
    go_at_call 20
    ((with_reducible refine (fz_91 _).mono ?_); rintro e w1 ⟨HB1, A1, rfl, HF1⟩)
    have HX0 : Hid (Box w1 w.heap.size 25 #[.int .i64 0, .int .u32 0, .int .u32 0, .int .u32 0, .int .u32 0, .int .u32 0, .string ⟨#[]⟩, .string ⟨#[]⟩, .bool false, .slice none 0 0]) := box_below (box_below (Box.new w 25 _) (bel1 _ _)) HB1.out
    have HX1 : Hid (Box w1 (w.heap.size + 1) 25 #[.int .i64 91, .int .u32 0, .int .u32 0, .int .u32 0, .int .u32 0, .int .u32 0, .string ⟨#[]⟩, .string ⟨#[]⟩, .bool false, .slice none 0 0]) := by
      have h := box_below (Box.new (w.alloc (.cells #[.int .i64 0, .int .u32 0, .int .u32 0, .int .u32 0, .int .u32 0, .int .u32 0, .string ⟨#[]⟩, .string ⟨#[]⟩, .bool false, .slice none 0 0] 25)) 25 #[.int .i64 91, .int .u32 0, .int .u32 0, .int .u32 0, .int .u32 0, .int .u32 0, .string ⟨#[]⟩, .string ⟨#[]⟩, .bool false, .slice none 0 0]) HB1.out
      have e : (w.alloc (.cells #[.int .i64 0, .int .u32 0, .int .u32 0, .int .u32 0, .int .u32 0, .int .u32 0, .string ⟨#[]⟩, .string ⟨#[]⟩, .bool false, .slice none 0 0] 25)).heap.size = w.heap.size + 1 := by simp
      rw [e] at h
      exact h
    have HBW := bel_trans (bel2_h w _ _) HB1
    have hsz1 : w.heap.size + 2 ≤ w1.heap.size := by have := HB1.out.size; simpa using this)
  go_loopw [32, 7] (fun i v wr => ∃ (k : Nat) (A' : Option Addr) (c' : Nat), k ≤ 5 ∧ i = .int .i64 k ∧ v = .slice A' (k + 1) c' ∧ Hid (Below w1.heap.size w1 wr) ∧ Hid (wr.ownsRow w1.heap.size 3 1 (.slice A' (k + 1) c') (k + 1) (kv (1 :: (([3, 3, 3, 3, 6] : List Int).take k))))) (fun i _ _ => 5 - (intOf i).toNat)
  case atStart => exact ⟨0, _, _, Nat.zero_le _, rfl, rfl, bel1 w1 _, World.ownsRow_lit (base := w1.heap.size) (e := 3) (size := 1) w1 #[.int .i64 1] 1 (Nat.le_refl _) (by unfold maxLen; omega) (by simp)⟩
  case round =>
    obtain ⟨k, A', c', hk, rfl, rfl, HBR, HO⟩ := hrel
    by_cases hlt : k < 5
    · obtain ⟨lb, lo, rfl, hlb, hlc⟩ := (HF1.out.below HBR.out) (by simp)
      obtain ⟨fn0, tn, tc, ln, lc, tA, lA, d0, d1, d2, d3⟩ := hlc k hlt
      have HT : Hid (([3, 3, 3, 3, 6] : List Int).take (k + 1) = ([3, 3, 3, 3, 6] : List Int).take k ++ [([3, 3, 3, 3, 6] : List Int)[k]]) := take_snoc ([3, 3, 3, 3, 6] : List Int) k hlt
      clear hlc
      have hszr : w1.heap.size ≤ wr.heap.size := HBR.out.size
      obtain ⟨kd, HK⟩ : ∃ z, Hid (([3, 3, 3, 3, 6] : List Int)[k] = z) := ⟨_, hid rfl⟩
      rw [HK.out] at d0 HT
      go_wp2_with (
        at_builtin
        go_loud (
        refine wpList_app _ rfl (.tmp 36) (.tmp 39) 64 rfl w1.heap.size 3 i3 _ 1 8 Tryd.underlying64 hi3 hz3 hz31 hz32 rfl ?g1 A' (k + 1) c' (kv (1 :: ([3, 3, 3, 3, 6] : List Int).take k)) rfl ((HO.out.alloc _).alloc _) _ _ 1 1 [.int .i64 kd] rfl ?g2 (lies_l2 _ _ _ _) (one1m _) ?g3 ?g4 ?g5 ?_
        case g1 => omega
        case g2 => rfl
        case g3 => unfold maxLen; omega
        case g4 => omega
        case g5 => simp; omega
        intro A6 c6 w6 ho6 hg6
        have HB6 := hid (HBR.out.trans (((((Kept.refl w1.heap.size [3] wr).alloc _).alloc _).grown hg6 (fun q hq => by obtain ⟨a, cs, b⟩ := own_box ((HO.out.alloc _).alloc _) q hq; exact ⟨a, 3, cs, by simp, b⟩)).below hszr))
        have HO6 := hid ho6
        clear ho6 hg6))
      go_roundw
      case rel => exact ⟨k + 1, A6, c6, by omega, by go_num, rfl, HB6, hid (by rw [HT.out]; simpa [kv] using HO6.out)⟩
      case measure => simp [intOf]; omega
    · have hkn : k = 5 := by omega
      subst hkn
      have hown := HO.out
      have HLK : Hid (Lies wr wr.heap.size A' (([1, 3, 3, 3, 3, 6] : List Int).map (Value.int .i64))) := hid (Lies.own hown)
      have HBWR := bel_trans HBW HBR
      have HSB : Hid (SlB wr wr.heap.size (some ⟨bk, o, none⟩) c ((91 : UInt8) :: r)) := slb_at HB HBWR
      have HX0r := box_p HX0 HBR
      have HX1r := box_p HX1 HBR
      have hszr : w1.heap.size ≤ wr.heap.size := HBR.out.size
      clear hown HO HX0 HX1 HF1
      by_cases her : er = 0
      · subst her
        have HP : Hid (decF ((91 : UInt8) :: r) = putsF [.chan, .sender, .window, .packet, .rest] (fs.drop 1) { zeroM with kind := 91 }) := by show _ = _; rw [HDE.out, if_pos rfl]
        obtain ⟨xs, rfl, hxk, hbit⟩ := readF_facts (ps := [.chan, .sender, .window, .packet, .rest]) (b0 := 91) (r := r) HRD.out
        obtain ⟨f0, f1, f2, f3, f4, rfl⟩ : ∃ f0 f1 f2 f3 f4, xs = [f0, f1, f2, f3, f4] := by
          have hlen := congrArg List.length hxk
          simp only [List.length_map] at hlen
          match xs, hlen with
          | [f0, f1, f2, f3, f4], _ => exact ⟨_, _, _, _, _, rfl⟩
        obtain ⟨n0, N0⟩ : ∃ x, Hid (f0.text.length = x) := ⟨_, hid rfl⟩
        obtain ⟨n1, N1⟩ : ∃ x, Hid (f1.text.length = x) := ⟨_, hid rfl⟩
        obtain ⟨n2, N2⟩ : ∃ x, Hid (f2.text.length = x) := ⟨_, hid rfl⟩
        obtain ⟨n3, N3⟩ : ∃ x, Hid (f3.text.length = x) := ⟨_, hid rfl⟩
        obtain ⟨n4, N4⟩ : ∃ x, Hid (f4.text.length = x) := ⟨_, hid rfl⟩
        clear hbit hxk
        obtain rfl : fn = 6 := HFN.out.symm
        have HE : Hid (decF ((91 : UInt8) :: r) = (0, { zeroM with kind := 91, chan := f0.n, sender := f1.n, window := f2.n, packet := f3.n, data := f4.text })) := by
          show _ = _
          rw [HP.out]
          first | (simp [putsF, Pl.ok, Pl.put]; done) | (simp [putsF, Pl.ok, Pl.put]; rfl) | rfl
        clear HP HDE
        go_wp2_with (
          (go_at_call 24
           ((with_reducible refine (rread_x wr A' c' 6 [1, 3, 3, 3, 3, 6] (some ⟨bk, o, none⟩) c n ((91 : UInt8) :: r) 0 (⟨1, ((91 : UInt8)).toNat, [], []⟩ :: [f0, f1, f2, f3, f4]) 6 HRD rfl rfl HN HLK (by omega) HSB hl).mono ?_); rintro e w6 ⟨A6, c6, rfl, hcs, HB6⟩)
           obtain ⟨cs, ho6, hf6⟩ := hcs.out
           obtain ⟨tAk, tck, lAk, lck, rk, rfl, hk1, hk2, tA0, tc0, lA0, lc0, r0, rfl, ht0, hl0, tA1, tc1, lA1, lc1, r1, rfl, ht1, hl1, tA2, tc2, lA2, lc2, r2, rfl, ht2, hl2, tA3, tc3, lA3, lc3, r3, rfl, ht3, hl3, tA4, tc4, lA4, lc4, r4, rfl, ht4, hl4, hre⟩ := hf6
           have hre : _ = [] := hre
           subst hre
           obtain ⟨fb, rfl, hfb, hfl, hc6, hc6m, hcc⟩ := own_at ho6 (by simp)
           have hfb1 : w.heap.size + 1 < fb := by omega
           have hfb2 : ¬ fb = w.heap.size + 1 := by omega
           have hfb3 : ¬ w.heap.size + 1 = fb := by omega
           have hfb4 : ¬ w.heap.size = fb := by omega
           have hci : (6 : Int) ≤ c6 := by have : (6 : Nat) ≤ c6 := hc6; omega
           have hc1 : ¬ (c6 = 1) := by have : (6 : Nat) ≤ c6 := hc6; omega
           unfold maxLen at hc6m
           have HX06 := box_p HX0r HB6
           have HX16 := box_p HX1r HB6
           have y01 : w6.cell? ⟨fb, 5, none⟩ = some (.int .u32 f0.n) := hcc 5 _ rfl
           have y02 : w6.cell? ⟨fb, 6, none⟩ = some (.slice tA0 n0 tc0) := by have h := hcc 6 _ rfl; rw [N0.out] at h; exact h
           have y11 : w6.cell? ⟨fb, 9, none⟩ = some (.int .u32 f1.n) := hcc 9 _ rfl
           have y12 : w6.cell? ⟨fb, 10, none⟩ = some (.slice tA1 n1 tc1) := by have h := hcc 10 _ rfl; rw [N1.out] at h; exact h
           have y21 : w6.cell? ⟨fb, 13, none⟩ = some (.int .u32 f2.n) := hcc 13 _ rfl
           have y22 : w6.cell? ⟨fb, 14, none⟩ = some (.slice tA2 n2 tc2) := by have h := hcc 14 _ rfl; rw [N2.out] at h; exact h
           have y31 : w6.cell? ⟨fb, 17, none⟩ = some (.int .u32 f3.n) := hcc 17 _ rfl
           have y32 : w6.cell? ⟨fb, 18, none⟩ = some (.slice tA3 n3 tc3) := by have h := hcc 18 _ rfl; rw [N3.out] at h; exact h
           have y41 : w6.cell? ⟨fb, 21, none⟩ = some (.int .u32 f4.n) := hcc 21 _ rfl
           have y42 : w6.cell? ⟨fb, 22, none⟩ = some (.slice tA4 n4 tc4) := by have h := hcc 22 _ rfl; rw [N4.out] at h; exact h
           have mc0 : w6.cell? ⟨w.heap.size + 1, 0, none⟩ = some (.int .i64 91) := HX16.out.cell 0
           have mf0 : w6.frozen? ⟨w.heap.size + 1, 0, none⟩ = false := HX16.out.frozen 0
           have mc1 : w6.cell? ⟨w.heap.size + 1, 1, none⟩ = some (.int .u32 0) := HX16.out.cell 1
           have mf1 : w6.frozen? ⟨w.heap.size + 1, 1, none⟩ = false := HX16.out.frozen 1
           have mc2 : w6.cell? ⟨w.heap.size + 1, 2, none⟩ = some (.int .u32 0) := HX16.out.cell 2
           have mf2 : w6.frozen? ⟨w.heap.size + 1, 2, none⟩ = false := HX16.out.frozen 2
           have mc3 : w6.cell? ⟨w.heap.size + 1, 3, none⟩ = some (.int .u32 0) := HX16.out.cell 3
           have mf3 : w6.frozen? ⟨w.heap.size + 1, 3, none⟩ = false := HX16.out.frozen 3
           have mc4 : w6.cell? ⟨w.heap.size + 1, 4, none⟩ = some (.int .u32 0) := HX16.out.cell 4
           have mf4 : w6.frozen? ⟨w.heap.size + 1, 4, none⟩ = false := HX16.out.frozen 4
           have mc5 : w6.cell? ⟨w.heap.size + 1, 5, none⟩ = some (.int .u32 0) := HX16.out.cell 5
           have mf5 : w6.frozen? ⟨w.heap.size + 1, 5, none⟩ = false := HX16.out.frozen 5
           have mc6 : w6.cell? ⟨w.heap.size + 1, 6, none⟩ = some (.string ⟨#[]⟩) := HX16.out.cell 6
           have mf6 : w6.frozen? ⟨w.heap.size + 1, 6, none⟩ = false := HX16.out.frozen 6
           have mc7 : w6.cell? ⟨w.heap.size + 1, 7, none⟩ = some (.string ⟨#[]⟩) := HX16.out.cell 7
           have mf7 : w6.frozen? ⟨w.heap.size + 1, 7, none⟩ = false := HX16.out.frozen 7
           have mc8 : w6.cell? ⟨w.heap.size + 1, 8, none⟩ = some (.bool false) := HX16.out.cell 8
           have mf8 : w6.frozen? ⟨w.heap.size + 1, 8, none⟩ = false := HX16.out.frozen 8
           have mc9 : w6.cell? ⟨w.heap.size + 1, 9, none⟩ = some (.slice none 0 0) := HX16.out.cell 9
           have mf9 : w6.frozen? ⟨w.heap.size + 1, 9, none⟩ = false := HX16.out.frozen 9
           have HD := hid (data_own ht4 N4.out (show w.heap.size ≤ wr.heap.size by omega))
           have HBF := bel_trans HBWR HB6
           clear hcs ht0 hl0 ht1 hl1 ht2 hl2 ht3 hl3 ht4 hl4 hk1 hk2 ho6 hcc))
        go_region
        go_wp2_with (
          (go_at_call 21
           ((with_reducible refine (wz_91 _ f0.n f1.n f2.n f3.n tA4 n4 tc4).mono ?_); rintro e w8 ⟨rfl, hb8⟩)
           obtain ⟨k68, hx08, hx18⟩ := rd_tail [(1, .int .u32 f0.n), (2, .int .u32 f1.n), (3, .int .u32 f2.n), (4, .int .u32 f3.n), (9, .slice tA4 n4 tc4)] HX06.out HX16.out hb8
           have HX08 := hid hx08
           have HX18 := hid hx18
           have K68 := hid k68
           have HB8 : Hid (Below w.heap.size w w8) := hid (HBF.out.trans ((K68.out.below (by have := HX16.out.lt; omega)).mono (by omega)))
           clear hx08 hx18 k68 hb8
           have rc0 : w8.cell? ⟨w.heap.size, 0, none⟩ = some (.int .i64 0) := HX08.out.cell 0
           have rf0 : w8.frozen? ⟨w.heap.size, 0, none⟩ = false := HX08.out.frozen 0
           have rc1 : w8.cell? ⟨w.heap.size, 1, none⟩ = some (.int .u32 0) := HX08.out.cell 1
           have rf1 : w8.frozen? ⟨w.heap.size, 1, none⟩ = false := HX08.out.frozen 1
           have rc2 : w8.cell? ⟨w.heap.size, 2, none⟩ = some (.int .u32 0) := HX08.out.cell 2
           have rf2 : w8.frozen? ⟨w.heap.size, 2, none⟩ = false := HX08.out.frozen 2
           have rc3 : w8.cell? ⟨w.heap.size, 3, none⟩ = some (.int .u32 0) := HX08.out.cell 3
           have rf3 : w8.frozen? ⟨w.heap.size, 3, none⟩ = false := HX08.out.frozen 3
           have rc4 : w8.cell? ⟨w.heap.size, 4, none⟩ = some (.int .u32 0) := HX08.out.cell 4
           have rf4 : w8.frozen? ⟨w.heap.size, 4, none⟩ = false := HX08.out.frozen 4
           have rc5 : w8.cell? ⟨w.heap.size, 5, none⟩ = some (.int .u32 0) := HX08.out.cell 5
           have rf5 : w8.frozen? ⟨w.heap.size, 5, none⟩ = false := HX08.out.frozen 5
           have rc6 : w8.cell? ⟨w.heap.size, 6, none⟩ = some (.string ⟨#[]⟩) := HX08.out.cell 6
           have rf6 : w8.frozen? ⟨w.heap.size, 6, none⟩ = false := HX08.out.frozen 6
           have rc7 : w8.cell? ⟨w.heap.size, 7, none⟩ = some (.string ⟨#[]⟩) := HX08.out.cell 7
           have rf7 : w8.frozen? ⟨w.heap.size, 7, none⟩ = false := HX08.out.frozen 7
           have rc8 : w8.cell? ⟨w.heap.size, 8, none⟩ = some (.bool false) := HX08.out.cell 8
           have rf8 : w8.frozen? ⟨w.heap.size, 8, none⟩ = false := HX08.out.frozen 8
           have rc9 : w8.cell? ⟨w.heap.size, 9, none⟩ = some (.slice none 0 0) := HX08.out.cell 9
           have rf9 : w8.frozen? ⟨w.heap.size, 9, none⟩ = false := HX08.out.frozen 9
           have gc0 : w8.cell? ⟨w.heap.size + 1, 0, none⟩ = some (.int .i64 91) := HX18.out.cell 0
           have gc1 : w8.cell? ⟨w.heap.size + 1, 1, none⟩ = some (.int .u32 f0.n) := HX18.out.cell 1
           have gc2 : w8.cell? ⟨w.heap.size + 1, 2, none⟩ = some (.int .u32 f1.n) := HX18.out.cell 2
           have gc3 : w8.cell? ⟨w.heap.size + 1, 3, none⟩ = some (.int .u32 f2.n) := HX18.out.cell 3
           have gc4 : w8.cell? ⟨w.heap.size + 1, 4, none⟩ = some (.int .u32 f3.n) := HX18.out.cell 4
           have gc5 : w8.cell? ⟨w.heap.size + 1, 5, none⟩ = some (.int .u32 0) := HX18.out.cell 5
           have gc6 : w8.cell? ⟨w.heap.size + 1, 6, none⟩ = some (.string ⟨#[]⟩) := HX18.out.cell 6
           have gc7 : w8.cell? ⟨w.heap.size + 1, 7, none⟩ = some (.string ⟨#[]⟩) := HX18.out.cell 7
           have gc8 : w8.cell? ⟨w.heap.size + 1, 8, none⟩ = some (.bool false) := HX18.out.cell 8
           have gc9 : w8.cell? ⟨w.heap.size + 1, 9, none⟩ = some (.slice tA4 n4 tc4) := HX18.out.cell 9
           ))
        refine bodyPost_ret (v := .tuple #[.agg #[.int .i64 91, .int .u32 f0.n, .int .u32 f1.n, .int .u32 f2.n, .int .u32 f3.n, .int .u32 0, .string ⟨#[]⟩, .string ⟨#[]⟩, .bool false, .slice tA4 n4 tc4], .int .i64 0]) (by simp [results, Tryd.results16, go_sem, rc0, rc1, rc2, rc3, rc4, rc5, rc6, rc7, rc8, rc9]) rfl ?_
        rw [show decF ((91 : UInt8) :: r) = (0, { zeroM with kind := 91, chan := f0.n, sender := f1.n, window := f2.n, packet := f3.n, data := f4.text }) from HE.out]
        exact decodeR_ok { zeroM with kind := 91, chan := f0.n, sender := f1.n, window := f2.n, packet := f3.n, data := f4.text } tA4 tc4 n4 N4.out ((kept_ten HX08.out (Nat.le_refl _) _ _ _ _ _ _ _ _ _ _).own (K68.out.own HD.out (by decide)) (by decide)) (bel_ten HB8.out (Nat.le_refl _) _ _ _ _ _ _ _ _ _ _)
      · have HE : Hid (decF ((91 : UInt8) :: r) = (er, zeroM)) := by show _ = _; rw [HDE.out, if_neg her]
        have hz : (er != 0) = true := by simpa using her
        clear her HDE
        go_wp2_with (
          (go_at_call 24
           ((with_reducible refine (rread_x wr A' c' 6 [1, 3, 3, 3, 3, 6] (some ⟨bk, o, none⟩) c n ((91 : UInt8) :: r) er fs fn HRD HFN.out rfl HN HLK (by omega) HSB hl).mono ?_); rintro e w6 ⟨A6, c6, rfl, hcs, HB6⟩)
           have HX06 := box_p HX0r HB6
           have rc0 : w6.cell? ⟨w.heap.size, 0, none⟩ = some (.int .i64 0) := HX06.out.cell 0
           have rf0 : w6.frozen? ⟨w.heap.size, 0, none⟩ = false := HX06.out.frozen 0
           have rc1 : w6.cell? ⟨w.heap.size, 1, none⟩ = some (.int .u32 0) := HX06.out.cell 1
           have rf1 : w6.frozen? ⟨w.heap.size, 1, none⟩ = false := HX06.out.frozen 1
           have rc2 : w6.cell? ⟨w.heap.size, 2, none⟩ = some (.int .u32 0) := HX06.out.cell 2
           have rf2 : w6.frozen? ⟨w.heap.size, 2, none⟩ = false := HX06.out.frozen 2
           have rc3 : w6.cell? ⟨w.heap.size, 3, none⟩ = some (.int .u32 0) := HX06.out.cell 3
           have rf3 : w6.frozen? ⟨w.heap.size, 3, none⟩ = false := HX06.out.frozen 3
           have rc4 : w6.cell? ⟨w.heap.size, 4, none⟩ = some (.int .u32 0) := HX06.out.cell 4
           have rf4 : w6.frozen? ⟨w.heap.size, 4, none⟩ = false := HX06.out.frozen 4
           have rc5 : w6.cell? ⟨w.heap.size, 5, none⟩ = some (.int .u32 0) := HX06.out.cell 5
           have rf5 : w6.frozen? ⟨w.heap.size, 5, none⟩ = false := HX06.out.frozen 5
           have rc6 : w6.cell? ⟨w.heap.size, 6, none⟩ = some (.string ⟨#[]⟩) := HX06.out.cell 6
           have rf6 : w6.frozen? ⟨w.heap.size, 6, none⟩ = false := HX06.out.frozen 6
           have rc7 : w6.cell? ⟨w.heap.size, 7, none⟩ = some (.string ⟨#[]⟩) := HX06.out.cell 7
           have rf7 : w6.frozen? ⟨w.heap.size, 7, none⟩ = false := HX06.out.frozen 7
           have rc8 : w6.cell? ⟨w.heap.size, 8, none⟩ = some (.bool false) := HX06.out.cell 8
           have rf8 : w6.frozen? ⟨w.heap.size, 8, none⟩ = false := HX06.out.frozen 8
           have rc9 : w6.cell? ⟨w.heap.size, 9, none⟩ = some (.slice none 0 0) := HX06.out.cell 9
           have rf9 : w6.frozen? ⟨w.heap.size, 9, none⟩ = false := HX06.out.frozen 9
           have HBF := bel_trans HBWR HB6
           clear hcs))
        refine bodyPost_ret (v := .tuple #[.agg (zeroM.cells none 0), .int .i64 er]) (by simp [results, Tryd.results16, go_sem, zeroM, Mg.cells, rc0, rc1, rc2, rc3, rc4, rc5, rc6, rc7, rc8, rc9]) rfl ?_
        rw [HE.out]
        exact decodeR_err _ _ _ (bel_ten HBF.out (Nat.le_refl _) _ _ _ _ _ _ _ _ _ _)
theorem wz_92 (W : World) (a0 : Nat) (a1 : Nat) (A2 : Option Addr) (n2 c2 : Nat) (s3 : ByteArray) (hs : s3.size ≤ maxLen) :
    Calls Tryd.prog 21 #[.agg #[.int .i64 92, .int .u32 a0, .int .u32 0, .int .u32 0, .int .u32 0, .int .u32 a1, .string ⟨#[]⟩, .string s3, .bool false, .slice A2 n2 c2]] W fun e w' => e = .returned (.bool (wordOk 0 s3)) ∧ Below W.heap.size W w' :=
  words21_92 a0 0 0 0 a1 n2 c2 ⟨#[]⟩ s3 false A2 W hs

set_option maxHeartbeats 8000000 in
set_option maxRecDepth 100000 in
theorem rdec_92 (w : World) (A : Option Addr) (c n : Nat) (r : List UInt8) (hn : ((92 : UInt8) :: r).length = n) (hb : SlB w w.heap.size A c ((92 : UInt8) :: r)) (hl : n ≤ 100000) :
    Calls Tryd.prog 16 #[.slice A n c] w (DecodeR (decF ((92 : UInt8) :: r)) w) := by
  have HB := hid hb
  have HN := hid hn
  obtain ⟨bk, o, rfl, hbk, hcells⟩ := hb.2.2.2 (by simp [bv])
  have cb : w.cell? ⟨bk, o, none⟩ = some (.int .u8 92) := hcells 0 _ rfl
  have cb1 : ∀ ob, (w.alloc ob).cell? ⟨bk, o, none⟩ = some (.int .u8 92) := fun ob => ((bel1 w ob).cell (p := ⟨bk, o, none⟩) hbk).trans cb
  have hn1 : 0 < n := by rw [← hn]; simp
  have hn2 : (0 : Int) < n := by omega
  have hn3 : ((n : Int) == 0) = false := by simp; omega
  clear hcells hb hn
  obtain ⟨i3, hi3, hz3, hz31, hz32⟩ := info_parts Tryd.info3m
  obtain ⟨⟨er, fs⟩, HRD⟩ : ∃ x, Hid (readF [1, 3, 3, 4, 4] ((92 : UInt8) :: r) = x) := ⟨_, hid rfl⟩
  have HDE : Hid (decF ((92 : UInt8) :: r) = if er = 0 then putsF [.chan, .code, .text, .lang] (fs.drop 1) { zeroM with kind := 92 } else (er, zeroM)) := by
    have h : decF ((92 : UInt8) :: r) = if (readF [1, 3, 3, 4, 4] ((92 : UInt8) :: r)).1 = 0 then putsF [.chan, .code, .text, .lang] ((readF [1, 3, 3, 4, 4] ((92 : UInt8) :: r)).2.drop 1) { zeroM with kind := 92 } else ((readF [1, 3, 3, 4, 4] ((92 : UInt8) :: r)).1, zeroM) := rfl
    rw [HRD.out] at h
    exact h
  obtain ⟨fn, HFN⟩ : ∃ x, Hid (fs.length = x) := ⟨_, hid rfl⟩
  go_enter Tryd.func16, Tryd.ntmps16
  go_wp2_with (
    go_at_call 20
    ((with_reducible refine (fz_92 _).mono ?_); rintro e w1 ⟨HB1, A1, rfl, HF1⟩)
    have HX0 : Hid (Box w1 w.heap.size 25 #[.int .i64 0, .int .u32 0, .int .u32 0, .int .u32 0, .int .u32 0, .int .u32 0, .string ⟨#[]⟩, .string ⟨#[]⟩, .bool false, .slice none 0 0]) := box_below (box_below (Box.new w 25 _) (bel1 _ _)) HB1.out
    have HX1 : Hid (Box w1 (w.heap.size + 1) 25 #[.int .i64 92, .int .u32 0, .int .u32 0, .int .u32 0, .int .u32 0, .int .u32 0, .string ⟨#[]⟩, .string ⟨#[]⟩, .bool false, .slice none 0 0]) := by
      have h := box_below (Box.new (w.alloc (.cells #[.int .i64 0, .int .u32 0, .int .u32 0, .int .u32 0, .int .u32 0, .int .u32 0, .string ⟨#[]⟩, .string ⟨#[]⟩, .bool false, .slice none 0 0] 25)) 25 #[.int .i64 92, .int .u32 0, .int .u32 0, .int .u32 0, .int .u32 0, .int .u32 0, .string ⟨#[]⟩, .string ⟨#[]⟩, .bool false, .slice none 0 0]) HB1.out
      have e : (w.alloc (.cells #[.int .i64 0, .int .u32 0, .int .u32 0, .int .u32 0, .int .u32 0, .int .u32 0, .string ⟨#[]⟩, .string ⟨#[]⟩, .bool false, .slice none 0 0] 25)).heap.size = w.heap.size + 1 := by simp
      rw [e] at h
      exact h
    have HBW := bel_trans (bel2_h w _ _) HB1
    have hsz1 : w.heap.size + 2 ≤ w1.heap.size := by have := HB1.out.size; simpa using this)
  go_loopw [32, 7] (fun i v wr => ∃ (k : Nat) (A' : Option Addr) (c' : Nat), k ≤ 4 ∧ i = .int .i64 k ∧ v = .slice A' (k + 1) c' ∧ Hid (Below w1.heap.size w1 wr) ∧ Hid (wr.ownsRow w1.heap.size 3 1 (.slice A' (k + 1) c') (k + 1) (kv (1 :: (([3, 3, 4, 4] : List Int).take k))))) (fun i _ _ => 4 - (intOf i).toNat)
  case atStart => exact ⟨0, _, _, Nat.zero_le _, rfl, rfl, bel1 w1 _, World.ownsRow_lit (base := w1.heap.size) (e := 3) (size := 1) w1 #[.int .i64 1] 1 (Nat.le_refl _) (by unfold maxLen; omega) (by simp)⟩
  case round =>
    obtain ⟨k, A', c', hk, rfl, rfl, HBR, HO⟩ := hrel
    by_cases hlt : k < 4
    · obtain ⟨lb, lo, rfl, hlb, hlc⟩ := (HF1.out.below HBR.out) (by simp)
      obtain ⟨fn0, tn, tc, ln, lc, tA, lA, d0, d1, d2, d3⟩ := hlc k hlt
      have HT : Hid (([3, 3, 4, 4] : List Int).take (k + 1) = ([3, 3, 4, 4] : List Int).take k ++ [([3, 3, 4, 4] : List Int)[k]]) := take_snoc ([3, 3, 4, 4] : List Int) k hlt
      clear hlc
      have hszr : w1.heap.size ≤ wr.heap.size := HBR.out.size
      obtain ⟨kd, HK⟩ : ∃ z, Hid (([3, 3, 4, 4] : List Int)[k] = z) := ⟨_, hid rfl⟩
      rw [HK.out] at d0 HT
      go_wp2_with (
        at_builtin
        go_loud (
        refine wpList_app _ rfl (.tmp 36) (.tmp 39) 64 rfl w1.heap.size 3 i3 _ 1 8 Tryd.underlying64 hi3 hz3 hz31 hz32 rfl ?g1 A' (k + 1) c' (kv (1 :: ([3, 3, 4, 4] : List Int).take k)) rfl ((HO.out.alloc _).alloc _) _ _ 1 1 [.int .i64 kd] rfl ?g2 (lies_l2 _ _ _ _) (one1m _) ?g3 ?g4 ?g5 ?_
        case g1 => omega
        case g2 => rfl
        case g3 => unfold maxLen; omega
        case g4 => omega
        case g5 => simp; omega
        intro A6 c6 w6 ho6 hg6
        have HB6 := hid (HBR.out.trans (((((Kept.refl w1.heap.size [3] wr).alloc _).alloc _).grown hg6 (fun q hq => by obtain ⟨a, cs, b⟩ := own_box ((HO.out.alloc _).alloc _) q hq; exact ⟨a, 3, cs, by simp, b⟩)).below hszr))
        have HO6 := hid ho6
        clear ho6 hg6))
      go_roundw
      case rel => exact ⟨k + 1, A6, c6, by omega, by go_num, rfl, HB6, hid (by rw [HT.out]; simpa [kv] using HO6.out)⟩
      case measure => simp [intOf]; omega
    · have hkn : k = 4 := by omega
      subst hkn
      have hown := HO.out
      have HLK : Hid (Lies wr wr.heap.size A' (([1, 3, 3, 4, 4] : List Int).map (Value.int .i64))) := hid (Lies.own hown)
      have HBWR := bel_trans HBW HBR
      have HSB : Hid (SlB wr wr.heap.size (some ⟨bk, o, none⟩) c ((92 : UInt8) :: r)) := slb_at HB HBWR
      have HX0r := box_p HX0 HBR
      have HX1r := box_p HX1 HBR
      have hszr : w1.heap.size ≤ wr.heap.size := HBR.out.size
      clear hown HO HX0 HX1 HF1
      by_cases her : er = 0
      · subst her
        have HP : Hid (decF ((92 : UInt8) :: r) = putsF [.chan, .code, .text, .lang] (fs.drop 1) { zeroM with kind := 92 }) := by show _ = _; rw [HDE.out, if_pos rfl]
        obtain ⟨xs, rfl, hxk, hbit⟩ := readF_facts (ps := [.chan, .code, .text, .lang]) (b0 := 92) (r := r) HRD.out
        obtain ⟨f0, f1, f2, f3, rfl⟩ : ∃ f0 f1 f2 f3, xs = [f0, f1, f2, f3] := by
          have hlen := congrArg List.length hxk
          simp only [List.length_map] at hlen
          match xs, hlen with
          | [f0, f1, f2, f3], _ => exact ⟨_, _, _, _, rfl⟩
        obtain ⟨n0, N0⟩ : ∃ x, Hid (f0.text.length = x) := ⟨_, hid rfl⟩
        obtain ⟨n1, N1⟩ : ∃ x, Hid (f1.text.length = x) := ⟨_, hid rfl⟩
        obtain ⟨n2, N2⟩ : ∃ x, Hid (f2.text.length = x) := ⟨_, hid rfl⟩
        obtain ⟨n3, N3⟩ : ∃ x, Hid (f3.text.length = x) := ⟨_, hid rfl⟩
        obtain ⟨s3, S3⟩ : ∃ x : ByteArray, Hid ((⟨f3.text.toArray⟩ : ByteArray) = x) := ⟨_, hid rfl⟩
        clear hbit hxk
        obtain rfl : fn = 5 := HFN.out.symm
        have HE : Hid (decF ((92 : UInt8) :: r) = if wordOk 0 s3 = true then (0, { zeroM with kind := 92, chan := f0.n, code := f1.n, data := f2.text, lang := s3 }) else (4, zeroM)) := by
          show _ = _
          rw [HP.out, ← S3.out]
          first | (simp [putsF, Pl.ok, Pl.put]; done) | (simp [putsF, Pl.ok, Pl.put]; rfl) | rfl
        clear HP HDE
        obtain ⟨bw, HBW0⟩ : ∃ x, Hid (wordOk 0 s3 = x) := ⟨_, hid rfl⟩
        rw [HBW0.out] at HE
        go_wp2_with (
          (go_at_call 24
           ((with_reducible refine (rread_x wr A' c' 5 [1, 3, 3, 4, 4] (some ⟨bk, o, none⟩) c n ((92 : UInt8) :: r) 0 (⟨1, ((92 : UInt8)).toNat, [], []⟩ :: [f0, f1, f2, f3]) 5 HRD rfl rfl HN HLK (by omega) HSB hl).mono ?_); rintro e w6 ⟨A6, c6, rfl, hcs, HB6⟩)
           obtain ⟨cs, ho6, hf6⟩ := hcs.out
           obtain ⟨tAk, tck, lAk, lck, rk, rfl, hk1, hk2, tA0, tc0, lA0, lc0, r0, rfl, ht0, hl0, tA1, tc1, lA1, lc1, r1, rfl, ht1, hl1, tA2, tc2, lA2, lc2, r2, rfl, ht2, hl2, tA3, tc3, lA3, lc3, r3, rfl, ht3, hl3, hre⟩ := hf6
           have hre : _ = [] := hre
           subst hre
           obtain ⟨fb, rfl, hfb, hfl, hc6, hc6m, hcc⟩ := own_at ho6 (by simp)
           have hfb1 : w.heap.size + 1 < fb := by omega
           have hfb2 : ¬ fb = w.heap.size + 1 := by omega
           have hfb3 : ¬ w.heap.size + 1 = fb := by omega
           have hfb4 : ¬ w.heap.size = fb := by omega
           have hci : (5 : Int) ≤ c6 := by have : (5 : Nat) ≤ c6 := hc6; omega
           have hc1 : ¬ (c6 = 1) := by have : (5 : Nat) ≤ c6 := hc6; omega
           unfold maxLen at hc6m
           have HX06 := box_p HX0r HB6
           have HX16 := box_p HX1r HB6
           have y01 : w6.cell? ⟨fb, 5, none⟩ = some (.int .u32 f0.n) := hcc 5 _ rfl
           have y02 : w6.cell? ⟨fb, 6, none⟩ = some (.slice tA0 n0 tc0) := by have h := hcc 6 _ rfl; rw [N0.out] at h; exact h
           have y11 : w6.cell? ⟨fb, 9, none⟩ = some (.int .u32 f1.n) := hcc 9 _ rfl
           have y12 : w6.cell? ⟨fb, 10, none⟩ = some (.slice tA1 n1 tc1) := by have h := hcc 10 _ rfl; rw [N1.out] at h; exact h
           have y21 : w6.cell? ⟨fb, 13, none⟩ = some (.int .u32 f2.n) := hcc 13 _ rfl
           have y22 : w6.cell? ⟨fb, 14, none⟩ = some (.slice tA2 n2 tc2) := by have h := hcc 14 _ rfl; rw [N2.out] at h; exact h
           have y31 : w6.cell? ⟨fb, 17, none⟩ = some (.int .u32 f3.n) := hcc 17 _ rfl
           have y32 : w6.cell? ⟨fb, 18, none⟩ = some (.slice tA3 n3 tc3) := by have h := hcc 18 _ rfl; rw [N3.out] at h; exact h
           have mc0 : w6.cell? ⟨w.heap.size + 1, 0, none⟩ = some (.int .i64 92) := HX16.out.cell 0
           have mf0 : w6.frozen? ⟨w.heap.size + 1, 0, none⟩ = false := HX16.out.frozen 0
           have mc1 : w6.cell? ⟨w.heap.size + 1, 1, none⟩ = some (.int .u32 0) := HX16.out.cell 1
           have mf1 : w6.frozen? ⟨w.heap.size + 1, 1, none⟩ = false := HX16.out.frozen 1
           have mc2 : w6.cell? ⟨w.heap.size + 1, 2, none⟩ = some (.int .u32 0) := HX16.out.cell 2
           have mf2 : w6.frozen? ⟨w.heap.size + 1, 2, none⟩ = false := HX16.out.frozen 2
           have mc3 : w6.cell? ⟨w.heap.size + 1, 3, none⟩ = some (.int .u32 0) := HX16.out.cell 3
           have mf3 : w6.frozen? ⟨w.heap.size + 1, 3, none⟩ = false := HX16.out.frozen 3
           have mc4 : w6.cell? ⟨w.heap.size + 1, 4, none⟩ = some (.int .u32 0) := HX16.out.cell 4
           have mf4 : w6.frozen? ⟨w.heap.size + 1, 4, none⟩ = false := HX16.out.frozen 4
           have mc5 : w6.cell? ⟨w.heap.size + 1, 5, none⟩ = some (.int .u32 0) := HX16.out.cell 5
           have mf5 : w6.frozen? ⟨w.heap.size + 1, 5, none⟩ = false := HX16.out.frozen 5
           have mc6 : w6.cell? ⟨w.heap.size + 1, 6, none⟩ = some (.string ⟨#[]⟩) := HX16.out.cell 6
           have mf6 : w6.frozen? ⟨w.heap.size + 1, 6, none⟩ = false := HX16.out.frozen 6
           have mc7 : w6.cell? ⟨w.heap.size + 1, 7, none⟩ = some (.string ⟨#[]⟩) := HX16.out.cell 7
           have mf7 : w6.frozen? ⟨w.heap.size + 1, 7, none⟩ = false := HX16.out.frozen 7
           have mc8 : w6.cell? ⟨w.heap.size + 1, 8, none⟩ = some (.bool false) := HX16.out.cell 8
           have mf8 : w6.frozen? ⟨w.heap.size + 1, 8, none⟩ = false := HX16.out.frozen 8
           have mc9 : w6.cell? ⟨w.heap.size + 1, 9, none⟩ = some (.slice none 0 0) := HX16.out.cell 9
           have mf9 : w6.frozen? ⟨w.heap.size + 1, 9, none⟩ = false := HX16.out.frozen 9
           have hcv3_0 : (convert 23 9 (.slice tA3 n3 tc3)).run Tryd.prog w6.drew = .ok (.string s3) w6.drew := conv_sets [] HX16.out ht3 N3.out S3.out
           have hcv3_1 : (convert 23 9 (.slice tA3 n3 tc3)).run Tryd.prog (w6.setCell ⟨w.heap.size + 1, 1, none⟩ (.int .u32 f0.n)).drew = .ok (.string s3) (w6.setCell ⟨w.heap.size + 1, 1, none⟩ (.int .u32 f0.n)).drew := conv_sets [(1, .int .u32 f0.n)] HX16.out ht3 N3.out S3.out
           have hcv3_2 : (convert 23 9 (.slice tA3 n3 tc3)).run Tryd.prog ((w6.setCell ⟨w.heap.size + 1, 1, none⟩ (.int .u32 f0.n)).setCell ⟨w.heap.size + 1, 5, none⟩ (.int .u32 f1.n)).drew = .ok (.string s3) ((w6.setCell ⟨w.heap.size + 1, 1, none⟩ (.int .u32 f0.n)).setCell ⟨w.heap.size + 1, 5, none⟩ (.int .u32 f1.n)).drew := conv_sets [(1, .int .u32 f0.n), (5, .int .u32 f1.n)] HX16.out ht3 N3.out S3.out
           have hcv3_3 : (convert 23 9 (.slice tA3 n3 tc3)).run Tryd.prog (((w6.setCell ⟨w.heap.size + 1, 1, none⟩ (.int .u32 f0.n)).setCell ⟨w.heap.size + 1, 5, none⟩ (.int .u32 f1.n)).setCell ⟨w.heap.size + 1, 9, none⟩ (.slice tA2 n2 tc2)).drew = .ok (.string s3) (((w6.setCell ⟨w.heap.size + 1, 1, none⟩ (.int .u32 f0.n)).setCell ⟨w.heap.size + 1, 5, none⟩ (.int .u32 f1.n)).setCell ⟨w.heap.size + 1, 9, none⟩ (.slice tA2 n2 tc2)).drew := conv_sets [(1, .int .u32 f0.n), (5, .int .u32 f1.n), (9, .slice tA2 n2 tc2)] HX16.out ht3 N3.out S3.out
           have hsz3 := size_own ht3 S3.out
           have HD := hid (data_own ht2 N2.out (show w.heap.size ≤ wr.heap.size by omega))
           have HBF := bel_trans HBWR HB6
           clear hcs ht0 hl0 ht1 hl1 ht2 hl2 ht3 hl3 hk1 hk2 ho6 hcc))
        go_region
        cases bw with
        | false =>
          go_wp2_with (
            (go_at_call 21
             ((with_reducible refine (wz_92 _ f0.n f1.n tA2 n2 tc2 s3 hsz3).mono ?_); rw [HBW0.out]; rintro e w8 ⟨rfl, hb8⟩)
             obtain ⟨k68, hx08, hx18⟩ := rd_tail [(1, .int .u32 f0.n), (5, .int .u32 f1.n), (9, .slice tA2 n2 tc2), (7, .string s3)] HX06.out HX16.out hb8
             have HX08 := hid hx08
             have HX18 := hid hx18
             have K68 := hid k68
             have HB8 : Hid (Below w.heap.size w w8) := hid (HBF.out.trans ((K68.out.below (by have := HX16.out.lt; omega)).mono (by omega)))
             clear hx08 hx18 k68 hb8
             have rc0 : w8.cell? ⟨w.heap.size, 0, none⟩ = some (.int .i64 0) := HX08.out.cell 0
             have rf0 : w8.frozen? ⟨w.heap.size, 0, none⟩ = false := HX08.out.frozen 0
             have rc1 : w8.cell? ⟨w.heap.size, 1, none⟩ = some (.int .u32 0) := HX08.out.cell 1
             have rf1 : w8.frozen? ⟨w.heap.size, 1, none⟩ = false := HX08.out.frozen 1
             have rc2 : w8.cell? ⟨w.heap.size, 2, none⟩ = some (.int .u32 0) := HX08.out.cell 2
             have rf2 : w8.frozen? ⟨w.heap.size, 2, none⟩ = false := HX08.out.frozen 2
             have rc3 : w8.cell? ⟨w.heap.size, 3, none⟩ = some (.int .u32 0) := HX08.out.cell 3
             have rf3 : w8.frozen? ⟨w.heap.size, 3, none⟩ = false := HX08.out.frozen 3
             have rc4 : w8.cell? ⟨w.heap.size, 4, none⟩ = some (.int .u32 0) := HX08.out.cell 4
             have rf4 : w8.frozen? ⟨w.heap.size, 4, none⟩ = false := HX08.out.frozen 4
             have rc5 : w8.cell? ⟨w.heap.size, 5, none⟩ = some (.int .u32 0) := HX08.out.cell 5
             have rf5 : w8.frozen? ⟨w.heap.size, 5, none⟩ = false := HX08.out.frozen 5
             have rc6 : w8.cell? ⟨w.heap.size, 6, none⟩ = some (.string ⟨#[]⟩) := HX08.out.cell 6
             have rf6 : w8.frozen? ⟨w.heap.size, 6, none⟩ = false := HX08.out.frozen 6
             have rc7 : w8.cell? ⟨w.heap.size, 7, none⟩ = some (.string ⟨#[]⟩) := HX08.out.cell 7
             have rf7 : w8.frozen? ⟨w.heap.size, 7, none⟩ = false := HX08.out.frozen 7
             have rc8 : w8.cell? ⟨w.heap.size, 8, none⟩ = some (.bool false) := HX08.out.cell 8
             have rf8 : w8.frozen? ⟨w.heap.size, 8, none⟩ = false := HX08.out.frozen 8
             have rc9 : w8.cell? ⟨w.heap.size, 9, none⟩ = some (.slice none 0 0) := HX08.out.cell 9
             have rf9 : w8.frozen? ⟨w.heap.size, 9, none⟩ = false := HX08.out.frozen 9
             ))
          refine bodyPost_ret (v := .tuple #[.agg (zeroM.cells none 0), .int .i64 4]) (by simp [results, Tryd.results16, go_sem, zeroM, Mg.cells, rc0, rc1, rc2, rc3, rc4, rc5, rc6, rc7, rc8, rc9]) rfl ?_
          rw [HE.out, if_neg (by simp)]
          exact decodeR_err _ _ _ (bel_ten HB8.out (Nat.le_refl _) _ _ _ _ _ _ _ _ _ _)
        | true =>
          go_wp2_with (
            (go_at_call 21
             ((with_reducible refine (wz_92 _ f0.n f1.n tA2 n2 tc2 s3 hsz3).mono ?_); rw [HBW0.out]; rintro e w8 ⟨rfl, hb8⟩)
             obtain ⟨k68, hx08, hx18⟩ := rd_tail [(1, .int .u32 f0.n), (5, .int .u32 f1.n), (9, .slice tA2 n2 tc2), (7, .string s3)] HX06.out HX16.out hb8
             have HX08 := hid hx08
             have HX18 := hid hx18
             have K68 := hid k68
             have HB8 : Hid (Below w.heap.size w w8) := hid (HBF.out.trans ((K68.out.below (by have := HX16.out.lt; omega)).mono (by omega)))
             clear hx08 hx18 k68 hb8
             have rc0 : w8.cell? ⟨w.heap.size, 0, none⟩ = some (.int .i64 0) := HX08.out.cell 0
             have rf0 : w8.frozen? ⟨w.heap.size, 0, none⟩ = false := HX08.out.frozen 0
             have rc1 : w8.cell? ⟨w.heap.size, 1, none⟩ = some (.int .u32 0) := HX08.out.cell 1
             have rf1 : w8.frozen? ⟨w.heap.size, 1, none⟩ = false := HX08.out.frozen 1
             have rc2 : w8.cell? ⟨w.heap.size, 2, none⟩ = some (.int .u32 0) := HX08.out.cell 2
             have rf2 : w8.frozen? ⟨w.heap.size, 2, none⟩ = false := HX08.out.frozen 2
             have rc3 : w8.cell? ⟨w.heap.size, 3, none⟩ = some (.int .u32 0) := HX08.out.cell 3
             have rf3 : w8.frozen? ⟨w.heap.size, 3, none⟩ = false := HX08.out.frozen 3
             have rc4 : w8.cell? ⟨w.heap.size, 4, none⟩ = some (.int .u32 0) := HX08.out.cell 4
             have rf4 : w8.frozen? ⟨w.heap.size, 4, none⟩ = false := HX08.out.frozen 4
             have rc5 : w8.cell? ⟨w.heap.size, 5, none⟩ = some (.int .u32 0) := HX08.out.cell 5
             have rf5 : w8.frozen? ⟨w.heap.size, 5, none⟩ = false := HX08.out.frozen 5
             have rc6 : w8.cell? ⟨w.heap.size, 6, none⟩ = some (.string ⟨#[]⟩) := HX08.out.cell 6
             have rf6 : w8.frozen? ⟨w.heap.size, 6, none⟩ = false := HX08.out.frozen 6
             have rc7 : w8.cell? ⟨w.heap.size, 7, none⟩ = some (.string ⟨#[]⟩) := HX08.out.cell 7
             have rf7 : w8.frozen? ⟨w.heap.size, 7, none⟩ = false := HX08.out.frozen 7
             have rc8 : w8.cell? ⟨w.heap.size, 8, none⟩ = some (.bool false) := HX08.out.cell 8
             have rf8 : w8.frozen? ⟨w.heap.size, 8, none⟩ = false := HX08.out.frozen 8
             have rc9 : w8.cell? ⟨w.heap.size, 9, none⟩ = some (.slice none 0 0) := HX08.out.cell 9
             have rf9 : w8.frozen? ⟨w.heap.size, 9, none⟩ = false := HX08.out.frozen 9
             have gc0 : w8.cell? ⟨w.heap.size + 1, 0, none⟩ = some (.int .i64 92) := HX18.out.cell 0
             have gc1 : w8.cell? ⟨w.heap.size + 1, 1, none⟩ = some (.int .u32 f0.n) := HX18.out.cell 1
             have gc2 : w8.cell? ⟨w.heap.size + 1, 2, none⟩ = some (.int .u32 0) := HX18.out.cell 2
             have gc3 : w8.cell? ⟨w.heap.size + 1, 3, none⟩ = some (.int .u32 0) := HX18.out.cell 3
             have gc4 : w8.cell? ⟨w.heap.size + 1, 4, none⟩ = some (.int .u32 0) := HX18.out.cell 4
             have gc5 : w8.cell? ⟨w.heap.size + 1, 5, none⟩ = some (.int .u32 f1.n) := HX18.out.cell 5
             have gc6 : w8.cell? ⟨w.heap.size + 1, 6, none⟩ = some (.string ⟨#[]⟩) := HX18.out.cell 6
             have gc7 : w8.cell? ⟨w.heap.size + 1, 7, none⟩ = some (.string s3) := HX18.out.cell 7
             have gc8 : w8.cell? ⟨w.heap.size + 1, 8, none⟩ = some (.bool false) := HX18.out.cell 8
             have gc9 : w8.cell? ⟨w.heap.size + 1, 9, none⟩ = some (.slice tA2 n2 tc2) := HX18.out.cell 9
             ))
          refine bodyPost_ret (v := .tuple #[.agg #[.int .i64 92, .int .u32 f0.n, .int .u32 0, .int .u32 0, .int .u32 0, .int .u32 f1.n, .string ⟨#[]⟩, .string s3, .bool false, .slice tA2 n2 tc2], .int .i64 0]) (by simp [results, Tryd.results16, go_sem, rc0, rc1, rc2, rc3, rc4, rc5, rc6, rc7, rc8, rc9]) rfl ?_
          rw [show decF ((92 : UInt8) :: r) = (0, { zeroM with kind := 92, chan := f0.n, code := f1.n, data := f2.text, lang := s3 }) from HE.out]
          exact decodeR_ok { zeroM with kind := 92, chan := f0.n, code := f1.n, data := f2.text, lang := s3 } tA2 tc2 n2 N2.out ((kept_ten HX08.out (Nat.le_refl _) _ _ _ _ _ _ _ _ _ _).own (K68.out.own HD.out (by decide)) (by decide)) (bel_ten HB8.out (Nat.le_refl _) _ _ _ _ _ _ _ _ _ _)
      · have HE : Hid (decF ((92 : UInt8) :: r) = (er, zeroM)) := by show _ = _; rw [HDE.out, if_neg her]
        have hz : (er != 0) = true := by simpa using her
        clear her HDE
        go_wp2_with (
          (go_at_call 24
           ((with_reducible refine (rread_x wr A' c' 5 [1, 3, 3, 4, 4] (some ⟨bk, o, none⟩) c n ((92 : UInt8) :: r) er fs fn HRD HFN.out rfl HN HLK (by omega) HSB hl).mono ?_); rintro e w6 ⟨A6, c6, rfl, hcs, HB6⟩)
           have HX06 := box_p HX0r HB6
           have rc0 : w6.cell? ⟨w.heap.size, 0, none⟩ = some (.int .i64 0) := HX06.out.cell 0
           have rf0 : w6.frozen? ⟨w.heap.size, 0, none⟩ = false := HX06.out.frozen 0
           have rc1 : w6.cell? ⟨w.heap.size, 1, none⟩ = some (.int .u32 0) := HX06.out.cell 1
           have rf1 : w6.frozen? ⟨w.heap.size, 1, none⟩ = false := HX06.out.frozen 1
           have rc2 : w6.cell? ⟨w.heap.size, 2, none⟩ = some (.int .u32 0) := HX06.out.cell 2
           have rf2 : w6.frozen? ⟨w.heap.size, 2, none⟩ = false := HX06.out.frozen 2
           have rc3 : w6.cell? ⟨w.heap.size, 3, none⟩ = some (.int .u32 0) := HX06.out.cell 3
           have rf3 : w6.frozen? ⟨w.heap.size, 3, none⟩ = false := HX06.out.frozen 3
           have rc4 : w6.cell? ⟨w.heap.size, 4, none⟩ = some (.int .u32 0) := HX06.out.cell 4
           have rf4 : w6.frozen? ⟨w.heap.size, 4, none⟩ = false := HX06.out.frozen 4
           have rc5 : w6.cell? ⟨w.heap.size, 5, none⟩ = some (.int .u32 0) := HX06.out.cell 5
           have rf5 : w6.frozen? ⟨w.heap.size, 5, none⟩ = false := HX06.out.frozen 5
           have rc6 : w6.cell? ⟨w.heap.size, 6, none⟩ = some (.string ⟨#[]⟩) := HX06.out.cell 6
           have rf6 : w6.frozen? ⟨w.heap.size, 6, none⟩ = false := HX06.out.frozen 6
           have rc7 : w6.cell? ⟨w.heap.size, 7, none⟩ = some (.string ⟨#[]⟩) := HX06.out.cell 7
           have rf7 : w6.frozen? ⟨w.heap.size, 7, none⟩ = false := HX06.out.frozen 7
           have rc8 : w6.cell? ⟨w.heap.size, 8, none⟩ = some (.bool false) := HX06.out.cell 8
           have rf8 : w6.frozen? ⟨w.heap.size, 8, none⟩ = false := HX06.out.frozen 8
           have rc9 : w6.cell? ⟨w.heap.size, 9, none⟩ = some (.slice none 0 0) := HX06.out.cell 9
           have rf9 : w6.frozen? ⟨w.heap.size, 9, none⟩ = false := HX06.out.frozen 9
           have HBF := bel_trans HBWR HB6
           clear hcs))
        refine bodyPost_ret (v := .tuple #[.agg (zeroM.cells none 0), .int .i64 er]) (by simp [results, Tryd.results16, go_sem, zeroM, Mg.cells, rc0, rc1, rc2, rc3, rc4, rc5, rc6, rc7, rc8, rc9]) rfl ?_
        rw [HE.out]
        exact decodeR_err _ _ _ (bel_ten HBF.out (Nat.le_refl _) _ _ _ _ _ _ _ _ _ _)

end Go.Proofs.YtlmdbcmaophhnaaDoor
