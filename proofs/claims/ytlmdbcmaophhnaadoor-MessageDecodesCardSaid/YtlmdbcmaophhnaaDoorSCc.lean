import Derived.Test.YtlmdbcmaophhnaaDoorSB
import Derived.BigRegion
namespace Go.Proofs.YtlmdbcmaophhnaaDoor
open Go.RowKit

theorem wz_93 (W : World) (a0 : Nat) (a1 : Nat)  :
    Calls Tryd.prog 21 #[.agg #[.int .i64 93, .int .u32 a0, .int .u32 0, .int .u32 a1, .int .u32 0, .int .u32 0, .string ⟨#[]⟩, .string ⟨#[]⟩, .bool false, .slice none 0 0]] W fun e w' => e = .returned (.bool (true)) ∧ Below W.heap.size W w' :=
  words21_93 a0 0 a1 0 0 0 0 ⟨#[]⟩ ⟨#[]⟩ false none W

set_option maxHeartbeats 8000000 in
set_option maxRecDepth 100000 in
theorem rdec_93 (w : World) (A : Option Addr) (c n : Nat) (r : List UInt8) (hn : ((93 : UInt8) :: r).length = n) (hb : SlB w w.heap.size A c ((93 : UInt8) :: r)) (hl : n ≤ 100000) :
    Calls Tryd.prog 16 #[.slice A n c] w (DecodeR (decF ((93 : UInt8) :: r)) w) := by
  have HB := hid hb
  have HN := hid hn
  obtain ⟨bk, o, rfl, hbk, hcells⟩ := hb.2.2.2 (by simp [bv])
  have cb : w.cell? ⟨bk, o, none⟩ = some (.int .u8 93) := hcells 0 _ rfl
  have cb1 : ∀ ob, (w.alloc ob).cell? ⟨bk, o, none⟩ = some (.int .u8 93) := fun ob => ((bel1 w ob).cell (p := ⟨bk, o, none⟩) hbk).trans cb
  have hn1 : 0 < n := by rw [← hn]; simp
  have hn2 : (0 : Int) < n := by omega
  have hn3 : ((n : Int) == 0) = false := by simp; omega
  clear hcells hb hn
  obtain ⟨i3, hi3, hz3, hz31, hz32⟩ := info_parts Tryd.info3m
  obtain ⟨⟨er, fs⟩, HRD⟩ : ∃ x, Hid (readF [1, 3, 3] ((93 : UInt8) :: r) = x) := ⟨_, hid rfl⟩
  have HDE : Hid (decF ((93 : UInt8) :: r) = if er = 0 then putsF [.chan, .window] (fs.drop 1) { zeroM with kind := 93 } else (er, zeroM)) := by
    have h : decF ((93 : UInt8) :: r) = if (readF [1, 3, 3] ((93 : UInt8) :: r)).1 = 0 then putsF [.chan, .window] ((readF [1, 3, 3] ((93 : UInt8) :: r)).2.drop 1) { zeroM with kind := 93 } else ((readF [1, 3, 3] ((93 : UInt8) :: r)).1, zeroM) := rfl
    rw [HRD.out] at h
    exact h
  obtain ⟨fn, HFN⟩ : ∃ x, Hid (fs.length = x) := ⟨_, hid rfl⟩
  go_enter Tryd.func16, Tryd.ntmps16
  go_wp2_with (
    go_at_call 20
    ((with_reducible refine (fz_93 _).mono ?_); rintro e w1 ⟨HB1, A1, rfl, HF1⟩)
    have HX0 : Hid (Box w1 w.heap.size 25 #[.int .i64 0, .int .u32 0, .int .u32 0, .int .u32 0, .int .u32 0, .int .u32 0, .string ⟨#[]⟩, .string ⟨#[]⟩, .bool false, .slice none 0 0]) := box_below (box_below (Box.new w 25 _) (bel1 _ _)) HB1.out
    have HX1 : Hid (Box w1 (w.heap.size + 1) 25 #[.int .i64 93, .int .u32 0, .int .u32 0, .int .u32 0, .int .u32 0, .int .u32 0, .string ⟨#[]⟩, .string ⟨#[]⟩, .bool false, .slice none 0 0]) := by
      have h := box_below (Box.new (w.alloc (.cells #[.int .i64 0, .int .u32 0, .int .u32 0, .int .u32 0, .int .u32 0, .int .u32 0, .string ⟨#[]⟩, .string ⟨#[]⟩, .bool false, .slice none 0 0] 25)) 25 #[.int .i64 93, .int .u32 0, .int .u32 0, .int .u32 0, .int .u32 0, .int .u32 0, .string ⟨#[]⟩, .string ⟨#[]⟩, .bool false, .slice none 0 0]) HB1.out
      have e : (w.alloc (.cells #[.int .i64 0, .int .u32 0, .int .u32 0, .int .u32 0, .int .u32 0, .int .u32 0, .string ⟨#[]⟩, .string ⟨#[]⟩, .bool false, .slice none 0 0] 25)).heap.size = w.heap.size + 1 := by simp
      rw [e] at h
      exact h
    have HBW := bel_trans (bel2_h w _ _) HB1
    have hsz1 : w.heap.size + 2 ≤ w1.heap.size := by have := HB1.out.size; simpa using this)
  go_loopw [32, 7] (fun i v wr => ∃ (k : Nat) (A' : Option Addr) (c' : Nat), k ≤ 2 ∧ i = .int .i64 k ∧ v = .slice A' (k + 1) c' ∧ Hid (Below w1.heap.size w1 wr) ∧ Hid (wr.ownsRow w1.heap.size 3 1 (.slice A' (k + 1) c') (k + 1) (kv (1 :: (([3, 3] : List Int).take k))))) (fun i _ _ => 2 - (intOf i).toNat)
  case atStart => exact ⟨0, _, _, Nat.zero_le _, rfl, rfl, bel1 w1 _, World.ownsRow_lit (base := w1.heap.size) (e := 3) (size := 1) w1 #[.int .i64 1] 1 (Nat.le_refl _) (by unfold maxLen; omega) (by simp)⟩
  case round =>
    obtain ⟨k, A', c', hk, rfl, rfl, HBR, HO⟩ := hrel
    by_cases hlt : k < 2
    · obtain ⟨lb, lo, rfl, hlb, hlc⟩ := (HF1.out.below HBR.out) (by simp)
      obtain ⟨fn0, tn, tc, ln, lc, tA, lA, d0, d1, d2, d3⟩ := hlc k hlt
      have HT : Hid (([3, 3] : List Int).take (k + 1) = ([3, 3] : List Int).take k ++ [([3, 3] : List Int)[k]]) := take_snoc ([3, 3] : List Int) k hlt
      clear hlc
      have hszr : w1.heap.size ≤ wr.heap.size := HBR.out.size
      obtain ⟨kd, HK⟩ : ∃ z, Hid (([3, 3] : List Int)[k] = z) := ⟨_, hid rfl⟩
      rw [HK.out] at d0 HT
      go_wp2_with (
        at_builtin
        go_loud (
        refine wpList_app _ rfl (.tmp 36) (.tmp 39) 64 rfl w1.heap.size 3 i3 _ 1 8 Tryd.underlying64 hi3 hz3 hz31 hz32 rfl ?g1 A' (k + 1) c' (kv (1 :: ([3, 3] : List Int).take k)) rfl ((HO.out.alloc _).alloc _) _ _ 1 1 [.int .i64 kd] rfl ?g2 (lies_l2 _ _ _ _) (one1m _) ?g3 ?g4 ?g5 ?_
        case g1 => omega
        case g2 => rfl
        case g3 => unfold maxLen; omega
        case g4 => omega
        case g5 => simp; omega
        intro A6 c6 w6 ho6 hg6
        have HB6 := hid (HBR.out.trans (((((Kept.refl w1.heap.size [3] wr).alloc _).alloc _).grown hg6 (fun q hq => by obtain ⟨a, cs, b⟩ := own_box ((HO.out.alloc _).alloc _) q hq; exact ⟨a, 3, cs, by simp, b⟩)).below hszr))
        have HO6 := hid ho6
        clear ho6 hg6))
      go_roundw
      case rel => exact ⟨k + 1, A6, c6, by omega, by go_num, rfl, HB6, hid (by rw [HT.out]; simpa [kv] using HO6.out)⟩
      case measure => simp [intOf]; omega
    · have hkn : k = 2 := by omega
      subst hkn
      have hown := HO.out
      have HLK : Hid (Lies wr wr.heap.size A' (([1, 3, 3] : List Int).map (Value.int .i64))) := hid (Lies.own hown)
      have HBWR := bel_trans HBW HBR
      have HSB : Hid (SlB wr wr.heap.size (some ⟨bk, o, none⟩) c ((93 : UInt8) :: r)) := slb_at HB HBWR
      have HX0r := box_p HX0 HBR
      have HX1r := box_p HX1 HBR
      have hszr : w1.heap.size ≤ wr.heap.size := HBR.out.size
      clear hown HO HX0 HX1 HF1
      by_cases her : er = 0
      · subst her
        have HP : Hid (decF ((93 : UInt8) :: r) = putsF [.chan, .window] (fs.drop 1) { zeroM with kind := 93 }) := by show _ = _; rw [HDE.out, if_pos rfl]
        obtain ⟨xs, rfl, hxk, hbit⟩ := readF_facts (ps := [.chan, .window]) (b0 := 93) (r := r) HRD.out
        obtain ⟨f0, f1, rfl⟩ : ∃ f0 f1, xs = [f0, f1] := by
          have hlen := congrArg List.length hxk
          simp only [List.length_map] at hlen
          match xs, hlen with
          | [f0, f1], _ => exact ⟨_, _, rfl⟩
        obtain ⟨n0, N0⟩ : ∃ x, Hid (f0.text.length = x) := ⟨_, hid rfl⟩
        obtain ⟨n1, N1⟩ : ∃ x, Hid (f1.text.length = x) := ⟨_, hid rfl⟩
        clear hbit hxk
        obtain rfl : fn = 3 := HFN.out.symm
        have HE : Hid (decF ((93 : UInt8) :: r) = (0, { zeroM with kind := 93, chan := f0.n, window := f1.n })) := by
          show _ = _
          rw [HP.out]
          first | (simp [putsF, Pl.ok, Pl.put]; done) | (simp [putsF, Pl.ok, Pl.put]; rfl) | rfl
        clear HP HDE
        go_wp2_with (
          (go_at_call 24
           ((with_reducible refine (rread_x wr A' c' 3 [1, 3, 3] (some ⟨bk, o, none⟩) c n ((93 : UInt8) :: r) 0 (⟨1, ((93 : UInt8)).toNat, [], []⟩ :: [f0, f1]) 3 HRD rfl rfl HN HLK (by omega) HSB hl).mono ?_); rintro e w6 ⟨A6, c6, rfl, hcs, HB6⟩)
           obtain ⟨cs, ho6, hf6⟩ := hcs.out
           obtain ⟨tAk, tck, lAk, lck, rk, rfl, hk1, hk2, tA0, tc0, lA0, lc0, r0, rfl, ht0, hl0, tA1, tc1, lA1, lc1, r1, rfl, ht1, hl1, hre⟩ := hf6
           have hre : _ = [] := hre
           subst hre
           obtain ⟨fb, rfl, hfb, hfl, hc6, hc6m, hcc⟩ := own_at ho6 (by simp)
           have hfb1 : w.heap.size + 1 < fb := by omega
           have hfb2 : ¬ fb = w.heap.size + 1 := by omega
           have hfb3 : ¬ w.heap.size + 1 = fb := by omega
           have hfb4 : ¬ w.heap.size = fb := by omega
           have hci : (3 : Int) ≤ c6 := by have : (3 : Nat) ≤ c6 := hc6; omega
           have hc1 : ¬ (c6 = 1) := by have : (3 : Nat) ≤ c6 := hc6; omega
           unfold maxLen at hc6m
           have HX06 := box_p HX0r HB6
           have HX16 := box_p HX1r HB6
           have y01 : w6.cell? ⟨fb, 5, none⟩ = some (.int .u32 f0.n) := hcc 5 _ rfl
           have y02 : w6.cell? ⟨fb, 6, none⟩ = some (.slice tA0 n0 tc0) := by have h := hcc 6 _ rfl; rw [N0.out] at h; exact h
           have y11 : w6.cell? ⟨fb, 9, none⟩ = some (.int .u32 f1.n) := hcc 9 _ rfl
           have y12 : w6.cell? ⟨fb, 10, none⟩ = some (.slice tA1 n1 tc1) := by have h := hcc 10 _ rfl; rw [N1.out] at h; exact h
           have mc0 : w6.cell? ⟨w.heap.size + 1, 0, none⟩ = some (.int .i64 93) := HX16.out.cell 0
           have mf0 : w6.frozen? ⟨w.heap.size + 1, 0, none⟩ = false := HX16.out.frozen 0
           have mc1 : w6.cell? ⟨w.heap.size + 1, 1, none⟩ = some (.int .u32 0) := HX16.out.cell 1
           have mf1 : w6.frozen? ⟨w.heap.size + 1, 1, none⟩ = false := HX16.out.frozen 1
           have mc2 : w6.cell? ⟨w.heap.size + 1, 2, none⟩ = some (.int .u32 0) := HX16.out.cell 2
           have mf2 : w6.frozen? ⟨w.heap.size + 1, 2, none⟩ = false := HX16.out.frozen 2
           have mc3 : w6.cell? ⟨w.heap.size + 1, 3, none⟩ = some (.int .u32 0) := HX16.out.cell 3
           have mf3 : w6.frozen? ⟨w.heap.size + 1, 3, none⟩ = false := HX16.out.frozen 3
           have mc4 : w6.cell? ⟨w.heap.size + 1, 4, none⟩ = some (.int .u32 0) := HX16.out.cell 4
           have mf4 : w6.frozen? ⟨w.heap.size + 1, 4, none⟩ = false := HX16.out.frozen 4
           have mc5 : w6.cell? ⟨w.heap.size + 1, 5, none⟩ = some (.int .u32 0) := HX16.out.cell 5
           have mf5 : w6.frozen? ⟨w.heap.size + 1, 5, none⟩ = false := HX16.out.frozen 5
           have mc6 : w6.cell? ⟨w.heap.size + 1, 6, none⟩ = some (.string ⟨#[]⟩) := HX16.out.cell 6
           have mf6 : w6.frozen? ⟨w.heap.size + 1, 6, none⟩ = false := HX16.out.frozen 6
           have mc7 : w6.cell? ⟨w.heap.size + 1, 7, none⟩ = some (.string ⟨#[]⟩) := HX16.out.cell 7
           have mf7 : w6.frozen? ⟨w.heap.size + 1, 7, none⟩ = false := HX16.out.frozen 7
           have mc8 : w6.cell? ⟨w.heap.size + 1, 8, none⟩ = some (.bool false) := HX16.out.cell 8
           have mf8 : w6.frozen? ⟨w.heap.size + 1, 8, none⟩ = false := HX16.out.frozen 8
           have mc9 : w6.cell? ⟨w.heap.size + 1, 9, none⟩ = some (.slice none 0 0) := HX16.out.cell 9
           have mf9 : w6.frozen? ⟨w.heap.size + 1, 9, none⟩ = false := HX16.out.frozen 9
           have HBF := bel_trans HBWR HB6
           clear hcs ht0 hl0 ht1 hl1 hk1 hk2 ho6 hcc))
        go_region
        go_wp2_with (
          (go_at_call 21
           ((with_reducible refine (wz_93 _ f0.n f1.n).mono ?_); rintro e w8 ⟨rfl, hb8⟩)
           obtain ⟨k68, hx08, hx18⟩ := rd_tail [(1, .int .u32 f0.n), (3, .int .u32 f1.n)] HX06.out HX16.out hb8
           have HX08 := hid hx08
           have HX18 := hid hx18
           have K68 := hid k68
           have HB8 : Hid (Below w.heap.size w w8) := hid (HBF.out.trans ((K68.out.below (by have := HX16.out.lt; omega)).mono (by omega)))
           clear hx08 hx18 k68 hb8
           have rc0 : w8.cell? ⟨w.heap.size, 0, none⟩ = some (.int .i64 0) := HX08.out.cell 0
           have rf0 : w8.frozen? ⟨w.heap.size, 0, none⟩ = false := HX08.out.frozen 0
           have rc1 : w8.cell? ⟨w.heap.size, 1, none⟩ = some (.int .u32 0) := HX08.out.cell 1
           have rf1 : w8.frozen? ⟨w.heap.size, 1, none⟩ = false := HX08.out.frozen 1
           have rc2 : w8.cell? ⟨w.heap.size, 2, none⟩ = some (.int .u32 0) := HX08.out.cell 2
           have rf2 : w8.frozen? ⟨w.heap.size, 2, none⟩ = false := HX08.out.frozen 2
           have rc3 : w8.cell? ⟨w.heap.size, 3, none⟩ = some (.int .u32 0) := HX08.out.cell 3
           have rf3 : w8.frozen? ⟨w.heap.size, 3, none⟩ = false := HX08.out.frozen 3
           have rc4 : w8.cell? ⟨w.heap.size, 4, none⟩ = some (.int .u32 0) := HX08.out.cell 4
           have rf4 : w8.frozen? ⟨w.heap.size, 4, none⟩ = false := HX08.out.frozen 4
           have rc5 : w8.cell? ⟨w.heap.size, 5, none⟩ = some (.int .u32 0) := HX08.out.cell 5
           have rf5 : w8.frozen? ⟨w.heap.size, 5, none⟩ = false := HX08.out.frozen 5
           have rc6 : w8.cell? ⟨w.heap.size, 6, none⟩ = some (.string ⟨#[]⟩) := HX08.out.cell 6
           have rf6 : w8.frozen? ⟨w.heap.size, 6, none⟩ = false := HX08.out.frozen 6
           have rc7 : w8.cell? ⟨w.heap.size, 7, none⟩ = some (.string ⟨#[]⟩) := HX08.out.cell 7
           have rf7 : w8.frozen? ⟨w.heap.size, 7, none⟩ = false := HX08.out.frozen 7
           have rc8 : w8.cell? ⟨w.heap.size, 8, none⟩ = some (.bool false) := HX08.out.cell 8
           have rf8 : w8.frozen? ⟨w.heap.size, 8, none⟩ = false := HX08.out.frozen 8
           have rc9 : w8.cell? ⟨w.heap.size, 9, none⟩ = some (.slice none 0 0) := HX08.out.cell 9
           have rf9 : w8.frozen? ⟨w.heap.size, 9, none⟩ = false := HX08.out.frozen 9
           have gc0 : w8.cell? ⟨w.heap.size + 1, 0, none⟩ = some (.int .i64 93) := HX18.out.cell 0
           have gc1 : w8.cell? ⟨w.heap.size + 1, 1, none⟩ = some (.int .u32 f0.n) := HX18.out.cell 1
           have gc2 : w8.cell? ⟨w.heap.size + 1, 2, none⟩ = some (.int .u32 0) := HX18.out.cell 2
           have gc3 : w8.cell? ⟨w.heap.size + 1, 3, none⟩ = some (.int .u32 f1.n) := HX18.out.cell 3
           have gc4 : w8.cell? ⟨w.heap.size + 1, 4, none⟩ = some (.int .u32 0) := HX18.out.cell 4
           have gc5 : w8.cell? ⟨w.heap.size + 1, 5, none⟩ = some (.int .u32 0) := HX18.out.cell 5
           have gc6 : w8.cell? ⟨w.heap.size + 1, 6, none⟩ = some (.string ⟨#[]⟩) := HX18.out.cell 6
           have gc7 : w8.cell? ⟨w.heap.size + 1, 7, none⟩ = some (.string ⟨#[]⟩) := HX18.out.cell 7
           have gc8 : w8.cell? ⟨w.heap.size + 1, 8, none⟩ = some (.bool false) := HX18.out.cell 8
           have gc9 : w8.cell? ⟨w.heap.size + 1, 9, none⟩ = some (.slice none 0 0) := HX18.out.cell 9
           ))
        refine bodyPost_ret (v := .tuple #[.agg #[.int .i64 93, .int .u32 f0.n, .int .u32 0, .int .u32 f1.n, .int .u32 0, .int .u32 0, .string ⟨#[]⟩, .string ⟨#[]⟩, .bool false, .slice none 0 0], .int .i64 0]) (by simp [results, Tryd.results16, go_sem, rc0, rc1, rc2, rc3, rc4, rc5, rc6, rc7, rc8, rc9]) rfl ?_
        rw [show decF ((93 : UInt8) :: r) = (0, { zeroM with kind := 93, chan := f0.n, window := f1.n }) from HE.out]
        exact decodeR_ok { zeroM with kind := 93, chan := f0.n, window := f1.n } none 0 0 rfl (World.ownsRow_nil _ _ _ _) (bel_ten HB8.out (Nat.le_refl _) _ _ _ _ _ _ _ _ _ _)
      · have HE : Hid (decF ((93 : UInt8) :: r) = (er, zeroM)) := by show _ = _; rw [HDE.out, if_neg her]
        have hz : (er != 0) = true := by simpa using her
        clear her HDE
        go_wp2_with (
          (go_at_call 24
           ((with_reducible refine (rread_x wr A' c' 3 [1, 3, 3] (some ⟨bk, o, none⟩) c n ((93 : UInt8) :: r) er fs fn HRD HFN.out rfl HN HLK (by omega) HSB hl).mono ?_); rintro e w6 ⟨A6, c6, rfl, hcs, HB6⟩)
           have HX06 := box_p HX0r HB6
           have rc0 : w6.cell? ⟨w.heap.size, 0, none⟩ = some (.int .i64 0) := HX06.out.cell 0
           have rf0 : w6.frozen? ⟨w.heap.size, 0, none⟩ = false := HX06.out.frozen 0
           have rc1 : w6.cell? ⟨w.heap.size, 1, none⟩ = some (.int .u32 0) := HX06.out.cell 1
           have rf1 : w6.frozen? ⟨w.heap.size, 1, none⟩ = false := HX06.out.frozen 1
           have rc2 : w6.cell? ⟨w.heap.size, 2, none⟩ = some (.int .u32 0) := HX06.out.cell 2
           have rf2 : w6.frozen? ⟨w.heap.size, 2, none⟩ = false := HX06.out.frozen 2
           have rc3 : w6.cell? ⟨w.heap.size, 3, none⟩ = some (.int .u32 0) := HX06.out.cell 3
           have rf3 : w6.frozen? ⟨w.heap.size, 3, none⟩ = false := HX06.out.frozen 3
           have rc4 : w6.cell? ⟨w.heap.size, 4, none⟩ = some (.int .u32 0) := HX06.out.cell 4
           have rf4 : w6.frozen? ⟨w.heap.size, 4, none⟩ = false := HX06.out.frozen 4
           have rc5 : w6.cell? ⟨w.heap.size, 5, none⟩ = some (.int .u32 0) := HX06.out.cell 5
           have rf5 : w6.frozen? ⟨w.heap.size, 5, none⟩ = false := HX06.out.frozen 5
           have rc6 : w6.cell? ⟨w.heap.size, 6, none⟩ = some (.string ⟨#[]⟩) := HX06.out.cell 6
           have rf6 : w6.frozen? ⟨w.heap.size, 6, none⟩ = false := HX06.out.frozen 6
           have rc7 : w6.cell? ⟨w.heap.size, 7, none⟩ = some (.string ⟨#[]⟩) := HX06.out.cell 7
           have rf7 : w6.frozen? ⟨w.heap.size, 7, none⟩ = false := HX06.out.frozen 7
           have rc8 : w6.cell? ⟨w.heap.size, 8, none⟩ = some (.bool false) := HX06.out.cell 8
           have rf8 : w6.frozen? ⟨w.heap.size, 8, none⟩ = false := HX06.out.frozen 8
           have rc9 : w6.cell? ⟨w.heap.size, 9, none⟩ = some (.slice none 0 0) := HX06.out.cell 9
           have rf9 : w6.frozen? ⟨w.heap.size, 9, none⟩ = false := HX06.out.frozen 9
           have HBF := bel_trans HBWR HB6
           clear hcs))
        refine bodyPost_ret (v := .tuple #[.agg (zeroM.cells none 0), .int .i64 er]) (by simp [results, Tryd.results16, go_sem, zeroM, Mg.cells, rc0, rc1, rc2, rc3, rc4, rc5, rc6, rc7, rc8, rc9]) rfl ?_
        rw [HE.out]
        exact decodeR_err _ _ _ (bel_ten HBF.out (Nat.le_refl _) _ _ _ _ _ _ _ _ _ _)
theorem wz_94 (W : World) (a0 : Nat) (A1 : Option Addr) (n1 c1 : Nat)  :
    Calls Tryd.prog 21 #[.agg #[.int .i64 94, .int .u32 a0, .int .u32 0, .int .u32 0, .int .u32 0, .int .u32 0, .string ⟨#[]⟩, .string ⟨#[]⟩, .bool false, .slice A1 n1 c1]] W fun e w' => e = .returned (.bool (true)) ∧ Below W.heap.size W w' :=
  words21_94 a0 0 0 0 0 n1 c1 ⟨#[]⟩ ⟨#[]⟩ false A1 W

set_option maxHeartbeats 8000000 in
set_option maxRecDepth 100000 in
theorem rdec_94 (w : World) (A : Option Addr) (c n : Nat) (r : List UInt8) (hn : ((94 : UInt8) :: r).length = n) (hb : SlB w w.heap.size A c ((94 : UInt8) :: r)) (hl : n ≤ 100000) :
    Calls Tryd.prog 16 #[.slice A n c] w (DecodeR (decF ((94 : UInt8) :: r)) w) := by
  have HB := hid hb
  have HN := hid hn
  obtain ⟨bk, o, rfl, hbk, hcells⟩ := hb.2.2.2 (by simp [bv])
  have cb : w.cell? ⟨bk, o, none⟩ = some (.int .u8 94) := hcells 0 _ rfl
  have cb1 : ∀ ob, (w.alloc ob).cell? ⟨bk, o, none⟩ = some (.int .u8 94) := fun ob => ((bel1 w ob).cell (p := ⟨bk, o, none⟩) hbk).trans cb
  have hn1 : 0 < n := by rw [← hn]; simp
  have hn2 : (0 : Int) < n := by omega
  have hn3 : ((n : Int) == 0) = false := by simp; omega
  clear hcells hb hn
  obtain ⟨i3, hi3, hz3, hz31, hz32⟩ := info_parts Tryd.info3m
  obtain ⟨⟨er, fs⟩, HRD⟩ : ∃ x, Hid (readF [1, 3, 4] ((94 : UInt8) :: r) = x) := ⟨_, hid rfl⟩
  have HDE : Hid (decF ((94 : UInt8) :: r) = if er = 0 then putsF [.chan, .text] (fs.drop 1) { zeroM with kind := 94 } else (er, zeroM)) := by
    have h : decF ((94 : UInt8) :: r) = if (readF [1, 3, 4] ((94 : UInt8) :: r)).1 = 0 then putsF [.chan, .text] ((readF [1, 3, 4] ((94 : UInt8) :: r)).2.drop 1) { zeroM with kind := 94 } else ((readF [1, 3, 4] ((94 : UInt8) :: r)).1, zeroM) := rfl
    rw [HRD.out] at h
    exact h
  obtain ⟨fn, HFN⟩ : ∃ x, Hid (fs.length = x) := ⟨_, hid rfl⟩
  go_enter Tryd.func16, Tryd.ntmps16
  go_wp2_with (
    go_at_call 20
    ((with_reducible refine (fz_94 _).mono ?_); rintro e w1 ⟨HB1, A1, rfl, HF1⟩)
    have HX0 : Hid (Box w1 w.heap.size 25 #[.int .i64 0, .int .u32 0, .int .u32 0, .int .u32 0, .int .u32 0, .int .u32 0, .string ⟨#[]⟩, .string ⟨#[]⟩, .bool false, .slice none 0 0]) := box_below (box_below (Box.new w 25 _) (bel1 _ _)) HB1.out
    have HX1 : Hid (Box w1 (w.heap.size + 1) 25 #[.int .i64 94, .int .u32 0, .int .u32 0, .int .u32 0, .int .u32 0, .int .u32 0, .string ⟨#[]⟩, .string ⟨#[]⟩, .bool false, .slice none 0 0]) := by
      have h := box_below (Box.new (w.alloc (.cells #[.int .i64 0, .int .u32 0, .int .u32 0, .int .u32 0, .int .u32 0, .int .u32 0, .string ⟨#[]⟩, .string ⟨#[]⟩, .bool false, .slice none 0 0] 25)) 25 #[.int .i64 94, .int .u32 0, .int .u32 0, .int .u32 0, .int .u32 0, .int .u32 0, .string ⟨#[]⟩, .string ⟨#[]⟩, .bool false, .slice none 0 0]) HB1.out
      have e : (w.alloc (.cells #[.int .i64 0, .int .u32 0, .int .u32 0, .int .u32 0, .int .u32 0, .int .u32 0, .string ⟨#[]⟩, .string ⟨#[]⟩, .bool false, .slice none 0 0] 25)).heap.size = w.heap.size + 1 := by simp
      rw [e] at h
      exact h
    have HBW := bel_trans (bel2_h w _ _) HB1
    have hsz1 : w.heap.size + 2 ≤ w1.heap.size := by have := HB1.out.size; simpa using this)
  go_loopw [32, 7] (fun i v wr => ∃ (k : Nat) (A' : Option Addr) (c' : Nat), k ≤ 2 ∧ i = .int .i64 k ∧ v = .slice A' (k + 1) c' ∧ Hid (Below w1.heap.size w1 wr) ∧ Hid (wr.ownsRow w1.heap.size 3 1 (.slice A' (k + 1) c') (k + 1) (kv (1 :: (([3, 4] : List Int).take k))))) (fun i _ _ => 2 - (intOf i).toNat)
  case atStart => exact ⟨0, _, _, Nat.zero_le _, rfl, rfl, bel1 w1 _, World.ownsRow_lit (base := w1.heap.size) (e := 3) (size := 1) w1 #[.int .i64 1] 1 (Nat.le_refl _) (by unfold maxLen; omega) (by simp)⟩
  case round =>
    obtain ⟨k, A', c', hk, rfl, rfl, HBR, HO⟩ := hrel
    by_cases hlt : k < 2
    · obtain ⟨lb, lo, rfl, hlb, hlc⟩ := (HF1.out.below HBR.out) (by simp)
      obtain ⟨fn0, tn, tc, ln, lc, tA, lA, d0, d1, d2, d3⟩ := hlc k hlt
      have HT : Hid (([3, 4] : List Int).take (k + 1) = ([3, 4] : List Int).take k ++ [([3, 4] : List Int)[k]]) := take_snoc ([3, 4] : List Int) k hlt
      clear hlc
      have hszr : w1.heap.size ≤ wr.heap.size := HBR.out.size
      obtain ⟨kd, HK⟩ : ∃ z, Hid (([3, 4] : List Int)[k] = z) := ⟨_, hid rfl⟩
      rw [HK.out] at d0 HT
      go_wp2_with (
        at_builtin
        go_loud (
        refine wpList_app _ rfl (.tmp 36) (.tmp 39) 64 rfl w1.heap.size 3 i3 _ 1 8 Tryd.underlying64 hi3 hz3 hz31 hz32 rfl ?g1 A' (k + 1) c' (kv (1 :: ([3, 4] : List Int).take k)) rfl ((HO.out.alloc _).alloc _) _ _ 1 1 [.int .i64 kd] rfl ?g2 (lies_l2 _ _ _ _) (one1m _) ?g3 ?g4 ?g5 ?_
        case g1 => omega
        case g2 => rfl
        case g3 => unfold maxLen; omega
        case g4 => omega
        case g5 => simp; omega
        intro A6 c6 w6 ho6 hg6
        have HB6 := hid (HBR.out.trans (((((Kept.refl w1.heap.size [3] wr).alloc _).alloc _).grown hg6 (fun q hq => by obtain ⟨a, cs, b⟩ := own_box ((HO.out.alloc _).alloc _) q hq; exact ⟨a, 3, cs, by simp, b⟩)).below hszr))
        have HO6 := hid ho6
        clear ho6 hg6))
      go_roundw
      case rel => exact ⟨k + 1, A6, c6, by omega, by go_num, rfl, HB6, hid (by rw [HT.out]; simpa [kv] using HO6.out)⟩
      case measure => simp [intOf]; omega
    · have hkn : k = 2 := by omega
      subst hkn
      have hown := HO.out
      have HLK : Hid (Lies wr wr.heap.size A' (([1, 3, 4] : List Int).map (Value.int .i64))) := hid (Lies.own hown)
      have HBWR := bel_trans HBW HBR
      have HSB : Hid (SlB wr wr.heap.size (some ⟨bk, o, none⟩) c ((94 : UInt8) :: r)) := slb_at HB HBWR
      have HX0r := box_p HX0 HBR
      have HX1r := box_p HX1 HBR
      have hszr : w1.heap.size ≤ wr.heap.size := HBR.out.size
      clear hown HO HX0 HX1 HF1
      by_cases her : er = 0
      · subst her
        have HP : Hid (decF ((94 : UInt8) :: r) = putsF [.chan, .text] (fs.drop 1) { zeroM with kind := 94 }) := by show _ = _; rw [HDE.out, if_pos rfl]
        obtain ⟨xs, rfl, hxk, hbit⟩ := readF_facts (ps := [.chan, .text]) (b0 := 94) (r := r) HRD.out
        obtain ⟨f0, f1, rfl⟩ : ∃ f0 f1, xs = [f0, f1] := by
          have hlen := congrArg List.length hxk
          simp only [List.length_map] at hlen
          match xs, hlen with
          | [f0, f1], _ => exact ⟨_, _, rfl⟩
        obtain ⟨n0, N0⟩ : ∃ x, Hid (f0.text.length = x) := ⟨_, hid rfl⟩
        obtain ⟨n1, N1⟩ : ∃ x, Hid (f1.text.length = x) := ⟨_, hid rfl⟩
        clear hbit hxk
        obtain rfl : fn = 3 := HFN.out.symm
        have HE : Hid (decF ((94 : UInt8) :: r) = (0, { zeroM with kind := 94, chan := f0.n, data := f1.text })) := by
          show _ = _
          rw [HP.out]
          first | (simp [putsF, Pl.ok, Pl.put]; done) | (simp [putsF, Pl.ok, Pl.put]; rfl) | rfl
        clear HP HDE
        go_wp2_with (
          (go_at_call 24
           ((with_reducible refine (rread_x wr A' c' 3 [1, 3, 4] (some ⟨bk, o, none⟩) c n ((94 : UInt8) :: r) 0 (⟨1, ((94 : UInt8)).toNat, [], []⟩ :: [f0, f1]) 3 HRD rfl rfl HN HLK (by omega) HSB hl).mono ?_); rintro e w6 ⟨A6, c6, rfl, hcs, HB6⟩)
           obtain ⟨cs, ho6, hf6⟩ := hcs.out
           obtain ⟨tAk, tck, lAk, lck, rk, rfl, hk1, hk2, tA0, tc0, lA0, lc0, r0, rfl, ht0, hl0, tA1, tc1, lA1, lc1, r1, rfl, ht1, hl1, hre⟩ := hf6
           have hre : _ = [] := hre
           subst hre
           obtain ⟨fb, rfl, hfb, hfl, hc6, hc6m, hcc⟩ := own_at ho6 (by simp)
           have hfb1 : w.heap.size + 1 < fb := by omega
           have hfb2 : ¬ fb = w.heap.size + 1 := by omega
           have hfb3 : ¬ w.heap.size + 1 = fb := by omega
           have hfb4 : ¬ w.heap.size = fb := by omega
           have hci : (3 : Int) ≤ c6 := by have : (3 : Nat) ≤ c6 := hc6; omega
           have hc1 : ¬ (c6 = 1) := by have : (3 : Nat) ≤ c6 := hc6; omega
           unfold maxLen at hc6m
           have HX06 := box_p HX0r HB6
           have HX16 := box_p HX1r HB6
           have y01 : w6.cell? ⟨fb, 5, none⟩ = some (.int .u32 f0.n) := hcc 5 _ rfl
           have y02 : w6.cell? ⟨fb, 6, none⟩ = some (.slice tA0 n0 tc0) := by have h := hcc 6 _ rfl; rw [N0.out] at h; exact h
           have y11 : w6.cell? ⟨fb, 9, none⟩ = some (.int .u32 f1.n) := hcc 9 _ rfl
           have y12 : w6.cell? ⟨fb, 10, none⟩ = some (.slice tA1 n1 tc1) := by have h := hcc 10 _ rfl; rw [N1.out] at h; exact h
           have mc0 : w6.cell? ⟨w.heap.size + 1, 0, none⟩ = some (.int .i64 94) := HX16.out.cell 0
           have mf0 : w6.frozen? ⟨w.heap.size + 1, 0, none⟩ = false := HX16.out.frozen 0
           have mc1 : w6.cell? ⟨w.heap.size + 1, 1, none⟩ = some (.int .u32 0) := HX16.out.cell 1
           have mf1 : w6.frozen? ⟨w.heap.size + 1, 1, none⟩ = false := HX16.out.frozen 1
           have mc2 : w6.cell? ⟨w.heap.size + 1, 2, none⟩ = some (.int .u32 0) := HX16.out.cell 2
           have mf2 : w6.frozen? ⟨w.heap.size + 1, 2, none⟩ = false := HX16.out.frozen 2
           have mc3 : w6.cell? ⟨w.heap.size + 1, 3, none⟩ = some (.int .u32 0) := HX16.out.cell 3
           have mf3 : w6.frozen? ⟨w.heap.size + 1, 3, none⟩ = false := HX16.out.frozen 3
           have mc4 : w6.cell? ⟨w.heap.size + 1, 4, none⟩ = some (.int .u32 0) := HX16.out.cell 4
           have mf4 : w6.frozen? ⟨w.heap.size + 1, 4, none⟩ = false := HX16.out.frozen 4
           have mc5 : w6.cell? ⟨w.heap.size + 1, 5, none⟩ = some (.int .u32 0) := HX16.out.cell 5
           have mf5 : w6.frozen? ⟨w.heap.size + 1, 5, none⟩ = false := HX16.out.frozen 5
           have mc6 : w6.cell? ⟨w.heap.size + 1, 6, none⟩ = some (.string ⟨#[]⟩) := HX16.out.cell 6
           have mf6 : w6.frozen? ⟨w.heap.size + 1, 6, none⟩ = false := HX16.out.frozen 6
           have mc7 : w6.cell? ⟨w.heap.size + 1, 7, none⟩ = some (.string ⟨#[]⟩) := HX16.out.cell 7
           have mf7 : w6.frozen? ⟨w.heap.size + 1, 7, none⟩ = false := HX16.out.frozen 7
           have mc8 : w6.cell? ⟨w.heap.size + 1, 8, none⟩ = some (.bool false) := HX16.out.cell 8
           have mf8 : w6.frozen? ⟨w.heap.size + 1, 8, none⟩ = false := HX16.out.frozen 8
           have mc9 : w6.cell? ⟨w.heap.size + 1, 9, none⟩ = some (.slice none 0 0) := HX16.out.cell 9
           have mf9 : w6.frozen? ⟨w.heap.size + 1, 9, none⟩ = false := HX16.out.frozen 9
           have HD := hid (data_own ht1 N1.out (show w.heap.size ≤ wr.heap.size by omega))
           have HBF := bel_trans HBWR HB6
           clear hcs ht0 hl0 ht1 hl1 hk1 hk2 ho6 hcc))
        go_region
        go_wp2_with (
          (go_at_call 21
           ((with_reducible refine (wz_94 _ f0.n tA1 n1 tc1).mono ?_); rintro e w8 ⟨rfl, hb8⟩)
           obtain ⟨k68, hx08, hx18⟩ := rd_tail [(1, .int .u32 f0.n), (9, .slice tA1 n1 tc1)] HX06.out HX16.out hb8
           have HX08 := hid hx08
           have HX18 := hid hx18
           have K68 := hid k68
           have HB8 : Hid (Below w.heap.size w w8) := hid (HBF.out.trans ((K68.out.below (by have := HX16.out.lt; omega)).mono (by omega)))
           clear hx08 hx18 k68 hb8
           have rc0 : w8.cell? ⟨w.heap.size, 0, none⟩ = some (.int .i64 0) := HX08.out.cell 0
           have rf0 : w8.frozen? ⟨w.heap.size, 0, none⟩ = false := HX08.out.frozen 0
           have rc1 : w8.cell? ⟨w.heap.size, 1, none⟩ = some (.int .u32 0) := HX08.out.cell 1
           have rf1 : w8.frozen? ⟨w.heap.size, 1, none⟩ = false := HX08.out.frozen 1
           have rc2 : w8.cell? ⟨w.heap.size, 2, none⟩ = some (.int .u32 0) := HX08.out.cell 2
           have rf2 : w8.frozen? ⟨w.heap.size, 2, none⟩ = false := HX08.out.frozen 2
           have rc3 : w8.cell? ⟨w.heap.size, 3, none⟩ = some (.int .u32 0) := HX08.out.cell 3
           have rf3 : w8.frozen? ⟨w.heap.size, 3, none⟩ = false := HX08.out.frozen 3
           have rc4 : w8.cell? ⟨w.heap.size, 4, none⟩ = some (.int .u32 0) := HX08.out.cell 4
           have rf4 : w8.frozen? ⟨w.heap.size, 4, none⟩ = false := HX08.out.frozen 4
           have rc5 : w8.cell? ⟨w.heap.size, 5, none⟩ = some (.int .u32 0) := HX08.out.cell 5
           have rf5 : w8.frozen? ⟨w.heap.size, 5, none⟩ = false := HX08.out.frozen 5
           have rc6 : w8.cell? ⟨w.heap.size, 6, none⟩ = some (.string ⟨#[]⟩) := HX08.out.cell 6
           have rf6 : w8.frozen? ⟨w.heap.size, 6, none⟩ = false := HX08.out.frozen 6
           have rc7 : w8.cell? ⟨w.heap.size, 7, none⟩ = some (.string ⟨#[]⟩) := HX08.out.cell 7
           have rf7 : w8.frozen? ⟨w.heap.size, 7, none⟩ = false := HX08.out.frozen 7
           have rc8 : w8.cell? ⟨w.heap.size, 8, none⟩ = some (.bool false) := HX08.out.cell 8
           have rf8 : w8.frozen? ⟨w.heap.size, 8, none⟩ = false := HX08.out.frozen 8
           have rc9 : w8.cell? ⟨w.heap.size, 9, none⟩ = some (.slice none 0 0) := HX08.out.cell 9
           have rf9 : w8.frozen? ⟨w.heap.size, 9, none⟩ = false := HX08.out.frozen 9
           have gc0 : w8.cell? ⟨w.heap.size + 1, 0, none⟩ = some (.int .i64 94) := HX18.out.cell 0
           have gc1 : w8.cell? ⟨w.heap.size + 1, 1, none⟩ = some (.int .u32 f0.n) := HX18.out.cell 1
           have gc2 : w8.cell? ⟨w.heap.size + 1, 2, none⟩ = some (.int .u32 0) := HX18.out.cell 2
           have gc3 : w8.cell? ⟨w.heap.size + 1, 3, none⟩ = some (.int .u32 0) := HX18.out.cell 3
           have gc4 : w8.cell? ⟨w.heap.size + 1, 4, none⟩ = some (.int .u32 0) := HX18.out.cell 4
           have gc5 : w8.cell? ⟨w.heap.size + 1, 5, none⟩ = some (.int .u32 0) := HX18.out.cell 5
           have gc6 : w8.cell? ⟨w.heap.size + 1, 6, none⟩ = some (.string ⟨#[]⟩) := HX18.out.cell 6
           have gc7 : w8.cell? ⟨w.heap.size + 1, 7, none⟩ = some (.string ⟨#[]⟩) := HX18.out.cell 7
           have gc8 : w8.cell? ⟨w.heap.size + 1, 8, none⟩ = some (.bool false) := HX18.out.cell 8
           have gc9 : w8.cell? ⟨w.heap.size + 1, 9, none⟩ = some (.slice tA1 n1 tc1) := HX18.out.cell 9
           ))
        refine bodyPost_ret (v := .tuple #[.agg #[.int .i64 94, .int .u32 f0.n, .int .u32 0, .int .u32 0, .int .u32 0, .int .u32 0, .string ⟨#[]⟩, .string ⟨#[]⟩, .bool false, .slice tA1 n1 tc1], .int .i64 0]) (by simp [results, Tryd.results16, go_sem, rc0, rc1, rc2, rc3, rc4, rc5, rc6, rc7, rc8, rc9]) rfl ?_
        rw [show decF ((94 : UInt8) :: r) = (0, { zeroM with kind := 94, chan := f0.n, data := f1.text }) from HE.out]
        exact decodeR_ok { zeroM with kind := 94, chan := f0.n, data := f1.text } tA1 tc1 n1 N1.out ((kept_ten HX08.out (Nat.le_refl _) _ _ _ _ _ _ _ _ _ _).own (K68.out.own HD.out (by decide)) (by decide)) (bel_ten HB8.out (Nat.le_refl _) _ _ _ _ _ _ _ _ _ _)
      · have HE : Hid (decF ((94 : UInt8) :: r) = (er, zeroM)) := by show _ = _; rw [HDE.out, if_neg her]
        have hz : (er != 0) = true := by simpa using her
        clear her HDE
        go_wp2_with (
          (go_at_call 24
           ((with_reducible refine (rread_x wr A' c' 3 [1, 3, 4] (some ⟨bk, o, none⟩) c n ((94 : UInt8) :: r) er fs fn HRD HFN.out rfl HN HLK (by omega) HSB hl).mono ?_); rintro e w6 ⟨A6, c6, rfl, hcs, HB6⟩)
           have HX06 := box_p HX0r HB6
           have rc0 : w6.cell? ⟨w.heap.size, 0, none⟩ = some (.int .i64 0) := HX06.out.cell 0
           have rf0 : w6.frozen? ⟨w.heap.size, 0, none⟩ = false := HX06.out.frozen 0
           have rc1 : w6.cell? ⟨w.heap.size, 1, none⟩ = some (.int .u32 0) := HX06.out.cell 1
           have rf1 : w6.frozen? ⟨w.heap.size, 1, none⟩ = false := HX06.out.frozen 1
           have rc2 : w6.cell? ⟨w.heap.size, 2, none⟩ = some (.int .u32 0) := HX06.out.cell 2
           have rf2 : w6.frozen? ⟨w.heap.size, 2, none⟩ = false := HX06.out.frozen 2
           have rc3 : w6.cell? ⟨w.heap.size, 3, none⟩ = some (.int .u32 0) := HX06.out.cell 3
           have rf3 : w6.frozen? ⟨w.heap.size, 3, none⟩ = false := HX06.out.frozen 3
           have rc4 : w6.cell? ⟨w.heap.size, 4, none⟩ = some (.int .u32 0) := HX06.out.cell 4
           have rf4 : w6.frozen? ⟨w.heap.size, 4, none⟩ = false := HX06.out.frozen 4
           have rc5 : w6.cell? ⟨w.heap.size, 5, none⟩ = some (.int .u32 0) := HX06.out.cell 5
           have rf5 : w6.frozen? ⟨w.heap.size, 5, none⟩ = false := HX06.out.frozen 5
           have rc6 : w6.cell? ⟨w.heap.size, 6, none⟩ = some (.string ⟨#[]⟩) := HX06.out.cell 6
           have rf6 : w6.frozen? ⟨w.heap.size, 6, none⟩ = false := HX06.out.frozen 6
           have rc7 : w6.cell? ⟨w.heap.size, 7, none⟩ = some (.string ⟨#[]⟩) := HX06.out.cell 7
           have rf7 : w6.frozen? ⟨w.heap.size, 7, none⟩ = false := HX06.out.frozen 7
           have rc8 : w6.cell? ⟨w.heap.size, 8, none⟩ = some (.bool false) := HX06.out.cell 8
           have rf8 : w6.frozen? ⟨w.heap.size, 8, none⟩ = false := HX06.out.frozen 8
           have rc9 : w6.cell? ⟨w.heap.size, 9, none⟩ = some (.slice none 0 0) := HX06.out.cell 9
           have rf9 : w6.frozen? ⟨w.heap.size, 9, none⟩ = false := HX06.out.frozen 9
           have HBF := bel_trans HBWR HB6
           clear hcs))
        refine bodyPost_ret (v := .tuple #[.agg (zeroM.cells none 0), .int .i64 er]) (by simp [results, Tryd.results16, go_sem, zeroM, Mg.cells, rc0, rc1, rc2, rc3, rc4, rc5, rc6, rc7, rc8, rc9]) rfl ?_
        rw [HE.out]
        exact decodeR_err _ _ _ (bel_ten HBF.out (Nat.le_refl _) _ _ _ _ _ _ _ _ _ _)
theorem wz_95 (W : World) (a0 : Nat) (a1 : Nat) (A2 : Option Addr) (n2 c2 : Nat)  :
    Calls Tryd.prog 21 #[.agg #[.int .i64 95, .int .u32 a0, .int .u32 0, .int .u32 0, .int .u32 0, .int .u32 a1, .string ⟨#[]⟩, .string ⟨#[]⟩, .bool false, .slice A2 n2 c2]] W fun e w' => e = .returned (.bool (true)) ∧ Below W.heap.size W w' :=
  words21_95 a0 0 0 0 a1 n2 c2 ⟨#[]⟩ ⟨#[]⟩ false A2 W

set_option maxHeartbeats 8000000 in
set_option maxRecDepth 100000 in
theorem rdec_95 (w : World) (A : Option Addr) (c n : Nat) (r : List UInt8) (hn : ((95 : UInt8) :: r).length = n) (hb : SlB w w.heap.size A c ((95 : UInt8) :: r)) (hl : n ≤ 100000) :
    Calls Tryd.prog 16 #[.slice A n c] w (DecodeR (decF ((95 : UInt8) :: r)) w) := by
  have HB := hid hb
  have HN := hid hn
  obtain ⟨bk, o, rfl, hbk, hcells⟩ := hb.2.2.2 (by simp [bv])
  have cb : w.cell? ⟨bk, o, none⟩ = some (.int .u8 95) := hcells 0 _ rfl
  have cb1 : ∀ ob, (w.alloc ob).cell? ⟨bk, o, none⟩ = some (.int .u8 95) := fun ob => ((bel1 w ob).cell (p := ⟨bk, o, none⟩) hbk).trans cb
  have hn1 : 0 < n := by rw [← hn]; simp
  have hn2 : (0 : Int) < n := by omega
  have hn3 : ((n : Int) == 0) = false := by simp; omega
  clear hcells hb hn
  obtain ⟨i3, hi3, hz3, hz31, hz32⟩ := info_parts Tryd.info3m
  obtain ⟨⟨er, fs⟩, HRD⟩ : ∃ x, Hid (readF [1, 3, 3, 4] ((95 : UInt8) :: r) = x) := ⟨_, hid rfl⟩
  have HDE : Hid (decF ((95 : UInt8) :: r) = if er = 0 then putsF [.chan, .code, .text] (fs.drop 1) { zeroM with kind := 95 } else (er, zeroM)) := by
    have h : decF ((95 : UInt8) :: r) = if (readF [1, 3, 3, 4] ((95 : UInt8) :: r)).1 = 0 then putsF [.chan, .code, .text] ((readF [1, 3, 3, 4] ((95 : UInt8) :: r)).2.drop 1) { zeroM with kind := 95 } else ((readF [1, 3, 3, 4] ((95 : UInt8) :: r)).1, zeroM) := rfl
    rw [HRD.out] at h
    exact h
  obtain ⟨fn, HFN⟩ : ∃ x, Hid (fs.length = x) := ⟨_, hid rfl⟩
  go_enter Tryd.func16, Tryd.ntmps16
  go_wp2_with (
    go_at_call 20
    ((with_reducible refine (fz_95 _).mono ?_); rintro e w1 ⟨HB1, A1, rfl, HF1⟩)
    have HX0 : Hid (Box w1 w.heap.size 25 #[.int .i64 0, .int .u32 0, .int .u32 0, .int .u32 0, .int .u32 0, .int .u32 0, .string ⟨#[]⟩, .string ⟨#[]⟩, .bool false, .slice none 0 0]) := box_below (box_below (Box.new w 25 _) (bel1 _ _)) HB1.out
    have HX1 : Hid (Box w1 (w.heap.size + 1) 25 #[.int .i64 95, .int .u32 0, .int .u32 0, .int .u32 0, .int .u32 0, .int .u32 0, .string ⟨#[]⟩, .string ⟨#[]⟩, .bool false, .slice none 0 0]) := by
      have h := box_below (Box.new (w.alloc (.cells #[.int .i64 0, .int .u32 0, .int .u32 0, .int .u32 0, .int .u32 0, .int .u32 0, .string ⟨#[]⟩, .string ⟨#[]⟩, .bool false, .slice none 0 0] 25)) 25 #[.int .i64 95, .int .u32 0, .int .u32 0, .int .u32 0, .int .u32 0, .int .u32 0, .string ⟨#[]⟩, .string ⟨#[]⟩, .bool false, .slice none 0 0]) HB1.out
      have e : (w.alloc (.cells #[.int .i64 0, .int .u32 0, .int .u32 0, .int .u32 0, .int .u32 0, .int .u32 0, .string ⟨#[]⟩, .string ⟨#[]⟩, .bool false, .slice none 0 0] 25)).heap.size = w.heap.size + 1 := by simp
      rw [e] at h
      exact h
    have HBW := bel_trans (bel2_h w _ _) HB1
    have hsz1 : w.heap.size + 2 ≤ w1.heap.size := by have := HB1.out.size; simpa using this)
  go_loopw [32, 7] (fun i v wr => ∃ (k : Nat) (A' : Option Addr) (c' : Nat), k ≤ 3 ∧ i = .int .i64 k ∧ v = .slice A' (k + 1) c' ∧ Hid (Below w1.heap.size w1 wr) ∧ Hid (wr.ownsRow w1.heap.size 3 1 (.slice A' (k + 1) c') (k + 1) (kv (1 :: (([3, 3, 4] : List Int).take k))))) (fun i _ _ => 3 - (intOf i).toNat)
  case atStart => exact ⟨0, _, _, Nat.zero_le _, rfl, rfl, bel1 w1 _, World.ownsRow_lit (base := w1.heap.size) (e := 3) (size := 1) w1 #[.int .i64 1] 1 (Nat.le_refl _) (by unfold maxLen; omega) (by simp)⟩
  case round =>
    obtain ⟨k, A', c', hk, rfl, rfl, HBR, HO⟩ := hrel
    by_cases hlt : k < 3
    · obtain ⟨lb, lo, rfl, hlb, hlc⟩ := (HF1.out.below HBR.out) (by simp)
      obtain ⟨fn0, tn, tc, ln, lc, tA, lA, d0, d1, d2, d3⟩ := hlc k hlt
      have HT : Hid (([3, 3, 4] : List Int).take (k + 1) = ([3, 3, 4] : List Int).take k ++ [([3, 3, 4] : List Int)[k]]) := take_snoc ([3, 3, 4] : List Int) k hlt
      clear hlc
      have hszr : w1.heap.size ≤ wr.heap.size := HBR.out.size
      obtain ⟨kd, HK⟩ : ∃ z, Hid (([3, 3, 4] : List Int)[k] = z) := ⟨_, hid rfl⟩
      rw [HK.out] at d0 HT
      go_wp2_with (
        at_builtin
        go_loud (
        refine wpList_app _ rfl (.tmp 36) (.tmp 39) 64 rfl w1.heap.size 3 i3 _ 1 8 Tryd.underlying64 hi3 hz3 hz31 hz32 rfl ?g1 A' (k + 1) c' (kv (1 :: ([3, 3, 4] : List Int).take k)) rfl ((HO.out.alloc _).alloc _) _ _ 1 1 [.int .i64 kd] rfl ?g2 (lies_l2 _ _ _ _) (one1m _) ?g3 ?g4 ?g5 ?_
        case g1 => omega
        case g2 => rfl
        case g3 => unfold maxLen; omega
        case g4 => omega
        case g5 => simp; omega
        intro A6 c6 w6 ho6 hg6
        have HB6 := hid (HBR.out.trans (((((Kept.refl w1.heap.size [3] wr).alloc _).alloc _).grown hg6 (fun q hq => by obtain ⟨a, cs, b⟩ := own_box ((HO.out.alloc _).alloc _) q hq; exact ⟨a, 3, cs, by simp, b⟩)).below hszr))
        have HO6 := hid ho6
        clear ho6 hg6))
      go_roundw
      case rel => exact ⟨k + 1, A6, c6, by omega, by go_num, rfl, HB6, hid (by rw [HT.out]; simpa [kv] using HO6.out)⟩
      case measure => simp [intOf]; omega
    · have hkn : k = 3 := by omega
      subst hkn
      have hown := HO.out
      have HLK : Hid (Lies wr wr.heap.size A' (([1, 3, 3, 4] : List Int).map (Value.int .i64))) := hid (Lies.own hown)
      have HBWR := bel_trans HBW HBR
      have HSB : Hid (SlB wr wr.heap.size (some ⟨bk, o, none⟩) c ((95 : UInt8) :: r)) := slb_at HB HBWR
      have HX0r := box_p HX0 HBR
      have HX1r := box_p HX1 HBR
      have hszr : w1.heap.size ≤ wr.heap.size := HBR.out.size
      clear hown HO HX0 HX1 HF1
      by_cases her : er = 0
      · subst her
        have HP : Hid (decF ((95 : UInt8) :: r) = putsF [.chan, .code, .text] (fs.drop 1) { zeroM with kind := 95 }) := by show _ = _; rw [HDE.out, if_pos rfl]
        obtain ⟨xs, rfl, hxk, hbit⟩ := readF_facts (ps := [.chan, .code, .text]) (b0 := 95) (r := r) HRD.out
        obtain ⟨f0, f1, f2, rfl⟩ : ∃ f0 f1 f2, xs = [f0, f1, f2] := by
          have hlen := congrArg List.length hxk
          simp only [List.length_map] at hlen
          match xs, hlen with
          | [f0, f1, f2], _ => exact ⟨_, _, _, rfl⟩
        obtain ⟨n0, N0⟩ : ∃ x, Hid (f0.text.length = x) := ⟨_, hid rfl⟩
        obtain ⟨n1, N1⟩ : ∃ x, Hid (f1.text.length = x) := ⟨_, hid rfl⟩
        obtain ⟨n2, N2⟩ : ∃ x, Hid (f2.text.length = x) := ⟨_, hid rfl⟩
        clear hbit hxk
        obtain rfl : fn = 4 := HFN.out.symm
        have HE : Hid (decF ((95 : UInt8) :: r) = (0, { zeroM with kind := 95, chan := f0.n, code := f1.n, data := f2.text })) := by
          show _ = _
          rw [HP.out]
          first | (simp [putsF, Pl.ok, Pl.put]; done) | (simp [putsF, Pl.ok, Pl.put]; rfl) | rfl
        clear HP HDE
        go_wp2_with (
          (go_at_call 24
           ((with_reducible refine (rread_x wr A' c' 4 [1, 3, 3, 4] (some ⟨bk, o, none⟩) c n ((95 : UInt8) :: r) 0 (⟨1, ((95 : UInt8)).toNat, [], []⟩ :: [f0, f1, f2]) 4 HRD rfl rfl HN HLK (by omega) HSB hl).mono ?_); rintro e w6 ⟨A6, c6, rfl, hcs, HB6⟩)
           obtain ⟨cs, ho6, hf6⟩ := hcs.out
           obtain ⟨tAk, tck, lAk, lck, rk, rfl, hk1, hk2, tA0, tc0, lA0, lc0, r0, rfl, ht0, hl0, tA1, tc1, lA1, lc1, r1, rfl, ht1, hl1, tA2, tc2, lA2, lc2, r2, rfl, ht2, hl2, hre⟩ := hf6
           have hre : _ = [] := hre
           subst hre
           obtain ⟨fb, rfl, hfb, hfl, hc6, hc6m, hcc⟩ := own_at ho6 (by simp)
           have hfb1 : w.heap.size + 1 < fb := by omega
           have hfb2 : ¬ fb = w.heap.size + 1 := by omega
           have hfb3 : ¬ w.heap.size + 1 = fb := by omega
           have hfb4 : ¬ w.heap.size = fb := by omega
           have hci : (4 : Int) ≤ c6 := by have : (4 : Nat) ≤ c6 := hc6; omega
           have hc1 : ¬ (c6 = 1) := by have : (4 : Nat) ≤ c6 := hc6; omega
           unfold maxLen at hc6m
           have HX06 := box_p HX0r HB6
           have HX16 := box_p HX1r HB6
           have y01 : w6.cell? ⟨fb, 5, none⟩ = some (.int .u32 f0.n) := hcc 5 _ rfl
           have y02 : w6.cell? ⟨fb, 6, none⟩ = some (.slice tA0 n0 tc0) := by have h := hcc 6 _ rfl; rw [N0.out] at h; exact h
           have y11 : w6.cell? ⟨fb, 9, none⟩ = some (.int .u32 f1.n) := hcc 9 _ rfl
           have y12 : w6.cell? ⟨fb, 10, none⟩ = some (.slice tA1 n1 tc1) := by have h := hcc 10 _ rfl; rw [N1.out] at h; exact h
           have y21 : w6.cell? ⟨fb, 13, none⟩ = some (.int .u32 f2.n) := hcc 13 _ rfl
           have y22 : w6.cell? ⟨fb, 14, none⟩ = some (.slice tA2 n2 tc2) := by have h := hcc 14 _ rfl; rw [N2.out] at h; exact h
           have mc0 : w6.cell? ⟨w.heap.size + 1, 0, none⟩ = some (.int .i64 95) := HX16.out.cell 0
           have mf0 : w6.frozen? ⟨w.heap.size + 1, 0, none⟩ = false := HX16.out.frozen 0
           have mc1 : w6.cell? ⟨w.heap.size + 1, 1, none⟩ = some (.int .u32 0) := HX16.out.cell 1
           have mf1 : w6.frozen? ⟨w.heap.size + 1, 1, none⟩ = false := HX16.out.frozen 1
           have mc2 : w6.cell? ⟨w.heap.size + 1, 2, none⟩ = some (.int .u32 0) := HX16.out.cell 2
           have mf2 : w6.frozen? ⟨w.heap.size + 1, 2, none⟩ = false := HX16.out.frozen 2
           have mc3 : w6.cell? ⟨w.heap.size + 1, 3, none⟩ = some (.int .u32 0) := HX16.out.cell 3
           have mf3 : w6.frozen? ⟨w.heap.size + 1, 3, none⟩ = false := HX16.out.frozen 3
           have mc4 : w6.cell? ⟨w.heap.size + 1, 4, none⟩ = some (.int .u32 0) := HX16.out.cell 4
           have mf4 : w6.frozen? ⟨w.heap.size + 1, 4, none⟩ = false := HX16.out.frozen 4
           have mc5 : w6.cell? ⟨w.heap.size + 1, 5, none⟩ = some (.int .u32 0) := HX16.out.cell 5
           have mf5 : w6.frozen? ⟨w.heap.size + 1, 5, none⟩ = false := HX16.out.frozen 5
           have mc6 : w6.cell? ⟨w.heap.size + 1, 6, none⟩ = some (.string ⟨#[]⟩) := HX16.out.cell 6
           have mf6 : w6.frozen? ⟨w.heap.size + 1, 6, none⟩ = false := HX16.out.frozen 6
           have mc7 : w6.cell? ⟨w.heap.size + 1, 7, none⟩ = some (.string ⟨#[]⟩) := HX16.out.cell 7
           have mf7 : w6.frozen? ⟨w.heap.size + 1, 7, none⟩ = false := HX16.out.frozen 7
           have mc8 : w6.cell? ⟨w.heap.size + 1, 8, none⟩ = some (.bool false) := HX16.out.cell 8
           have mf8 : w6.frozen? ⟨w.heap.size + 1, 8, none⟩ = false := HX16.out.frozen 8
           have mc9 : w6.cell? ⟨w.heap.size + 1, 9, none⟩ = some (.slice none 0 0) := HX16.out.cell 9
           have mf9 : w6.frozen? ⟨w.heap.size + 1, 9, none⟩ = false := HX16.out.frozen 9
           have HD := hid (data_own ht2 N2.out (show w.heap.size ≤ wr.heap.size by omega))
           have HBF := bel_trans HBWR HB6
           clear hcs ht0 hl0 ht1 hl1 ht2 hl2 hk1 hk2 ho6 hcc))
        go_region
        go_wp2_with (
          (go_at_call 21
           ((with_reducible refine (wz_95 _ f0.n f1.n tA2 n2 tc2).mono ?_); rintro e w8 ⟨rfl, hb8⟩)
           obtain ⟨k68, hx08, hx18⟩ := rd_tail [(1, .int .u32 f0.n), (5, .int .u32 f1.n), (9, .slice tA2 n2 tc2)] HX06.out HX16.out hb8
           have HX08 := hid hx08
           have HX18 := hid hx18
           have K68 := hid k68
           have HB8 : Hid (Below w.heap.size w w8) := hid (HBF.out.trans ((K68.out.below (by have := HX16.out.lt; omega)).mono (by omega)))
           clear hx08 hx18 k68 hb8
           have rc0 : w8.cell? ⟨w.heap.size, 0, none⟩ = some (.int .i64 0) := HX08.out.cell 0
           have rf0 : w8.frozen? ⟨w.heap.size, 0, none⟩ = false := HX08.out.frozen 0
           have rc1 : w8.cell? ⟨w.heap.size, 1, none⟩ = some (.int .u32 0) := HX08.out.cell 1
           have rf1 : w8.frozen? ⟨w.heap.size, 1, none⟩ = false := HX08.out.frozen 1
           have rc2 : w8.cell? ⟨w.heap.size, 2, none⟩ = some (.int .u32 0) := HX08.out.cell 2
           have rf2 : w8.frozen? ⟨w.heap.size, 2, none⟩ = false := HX08.out.frozen 2
           have rc3 : w8.cell? ⟨w.heap.size, 3, none⟩ = some (.int .u32 0) := HX08.out.cell 3
           have rf3 : w8.frozen? ⟨w.heap.size, 3, none⟩ = false := HX08.out.frozen 3
           have rc4 : w8.cell? ⟨w.heap.size, 4, none⟩ = some (.int .u32 0) := HX08.out.cell 4
           have rf4 : w8.frozen? ⟨w.heap.size, 4, none⟩ = false := HX08.out.frozen 4
           have rc5 : w8.cell? ⟨w.heap.size, 5, none⟩ = some (.int .u32 0) := HX08.out.cell 5
           have rf5 : w8.frozen? ⟨w.heap.size, 5, none⟩ = false := HX08.out.frozen 5
           have rc6 : w8.cell? ⟨w.heap.size, 6, none⟩ = some (.string ⟨#[]⟩) := HX08.out.cell 6
           have rf6 : w8.frozen? ⟨w.heap.size, 6, none⟩ = false := HX08.out.frozen 6
           have rc7 : w8.cell? ⟨w.heap.size, 7, none⟩ = some (.string ⟨#[]⟩) := HX08.out.cell 7
           have rf7 : w8.frozen? ⟨w.heap.size, 7, none⟩ = false := HX08.out.frozen 7
           have rc8 : w8.cell? ⟨w.heap.size, 8, none⟩ = some (.bool false) := HX08.out.cell 8
           have rf8 : w8.frozen? ⟨w.heap.size, 8, none⟩ = false := HX08.out.frozen 8
           have rc9 : w8.cell? ⟨w.heap.size, 9, none⟩ = some (.slice none 0 0) := HX08.out.cell 9
           have rf9 : w8.frozen? ⟨w.heap.size, 9, none⟩ = false := HX08.out.frozen 9
           have gc0 : w8.cell? ⟨w.heap.size + 1, 0, none⟩ = some (.int .i64 95) := HX18.out.cell 0
           have gc1 : w8.cell? ⟨w.heap.size + 1, 1, none⟩ = some (.int .u32 f0.n) := HX18.out.cell 1
           have gc2 : w8.cell? ⟨w.heap.size + 1, 2, none⟩ = some (.int .u32 0) := HX18.out.cell 2
           have gc3 : w8.cell? ⟨w.heap.size + 1, 3, none⟩ = some (.int .u32 0) := HX18.out.cell 3
           have gc4 : w8.cell? ⟨w.heap.size + 1, 4, none⟩ = some (.int .u32 0) := HX18.out.cell 4
           have gc5 : w8.cell? ⟨w.heap.size + 1, 5, none⟩ = some (.int .u32 f1.n) := HX18.out.cell 5
           have gc6 : w8.cell? ⟨w.heap.size + 1, 6, none⟩ = some (.string ⟨#[]⟩) := HX18.out.cell 6
           have gc7 : w8.cell? ⟨w.heap.size + 1, 7, none⟩ = some (.string ⟨#[]⟩) := HX18.out.cell 7
           have gc8 : w8.cell? ⟨w.heap.size + 1, 8, none⟩ = some (.bool false) := HX18.out.cell 8
           have gc9 : w8.cell? ⟨w.heap.size + 1, 9, none⟩ = some (.slice tA2 n2 tc2) := HX18.out.cell 9
           ))
        refine bodyPost_ret (v := .tuple #[.agg #[.int .i64 95, .int .u32 f0.n, .int .u32 0, .int .u32 0, .int .u32 0, .int .u32 f1.n, .string ⟨#[]⟩, .string ⟨#[]⟩, .bool false, .slice tA2 n2 tc2], .int .i64 0]) (by simp [results, Tryd.results16, go_sem, rc0, rc1, rc2, rc3, rc4, rc5, rc6, rc7, rc8, rc9]) rfl ?_
        rw [show decF ((95 : UInt8) :: r) = (0, { zeroM with kind := 95, chan := f0.n, code := f1.n, data := f2.text }) from HE.out]
        exact decodeR_ok { zeroM with kind := 95, chan := f0.n, code := f1.n, data := f2.text } tA2 tc2 n2 N2.out ((kept_ten HX08.out (Nat.le_refl _) _ _ _ _ _ _ _ _ _ _).own (K68.out.own HD.out (by decide)) (by decide)) (bel_ten HB8.out (Nat.le_refl _) _ _ _ _ _ _ _ _ _ _)
      · have HE : Hid (decF ((95 : UInt8) :: r) = (er, zeroM)) := by show _ = _; rw [HDE.out, if_neg her]
        have hz : (er != 0) = true := by simpa using her
        clear her HDE
        go_wp2_with (
          (go_at_call 24
           ((with_reducible refine (rread_x wr A' c' 4 [1, 3, 3, 4] (some ⟨bk, o, none⟩) c n ((95 : UInt8) :: r) er fs fn HRD HFN.out rfl HN HLK (by omega) HSB hl).mono ?_); rintro e w6 ⟨A6, c6, rfl, hcs, HB6⟩)
           have HX06 := box_p HX0r HB6
           have rc0 : w6.cell? ⟨w.heap.size, 0, none⟩ = some (.int .i64 0) := HX06.out.cell 0
           have rf0 : w6.frozen? ⟨w.heap.size, 0, none⟩ = false := HX06.out.frozen 0
           have rc1 : w6.cell? ⟨w.heap.size, 1, none⟩ = some (.int .u32 0) := HX06.out.cell 1
           have rf1 : w6.frozen? ⟨w.heap.size, 1, none⟩ = false := HX06.out.frozen 1
           have rc2 : w6.cell? ⟨w.heap.size, 2, none⟩ = some (.int .u32 0) := HX06.out.cell 2
           have rf2 : w6.frozen? ⟨w.heap.size, 2, none⟩ = false := HX06.out.frozen 2
           have rc3 : w6.cell? ⟨w.heap.size, 3, none⟩ = some (.int .u32 0) := HX06.out.cell 3
           have rf3 : w6.frozen? ⟨w.heap.size, 3, none⟩ = false := HX06.out.frozen 3
           have rc4 : w6.cell? ⟨w.heap.size, 4, none⟩ = some (.int .u32 0) := HX06.out.cell 4
           have rf4 : w6.frozen? ⟨w.heap.size, 4, none⟩ = false := HX06.out.frozen 4
           have rc5 : w6.cell? ⟨w.heap.size, 5, none⟩ = some (.int .u32 0) := HX06.out.cell 5
           have rf5 : w6.frozen? ⟨w.heap.size, 5, none⟩ = false := HX06.out.frozen 5
           have rc6 : w6.cell? ⟨w.heap.size, 6, none⟩ = some (.string ⟨#[]⟩) := HX06.out.cell 6
           have rf6 : w6.frozen? ⟨w.heap.size, 6, none⟩ = false := HX06.out.frozen 6
           have rc7 : w6.cell? ⟨w.heap.size, 7, none⟩ = some (.string ⟨#[]⟩) := HX06.out.cell 7
           have rf7 : w6.frozen? ⟨w.heap.size, 7, none⟩ = false := HX06.out.frozen 7
           have rc8 : w6.cell? ⟨w.heap.size, 8, none⟩ = some (.bool false) := HX06.out.cell 8
           have rf8 : w6.frozen? ⟨w.heap.size, 8, none⟩ = false := HX06.out.frozen 8
           have rc9 : w6.cell? ⟨w.heap.size, 9, none⟩ = some (.slice none 0 0) := HX06.out.cell 9
           have rf9 : w6.frozen? ⟨w.heap.size, 9, none⟩ = false := HX06.out.frozen 9
           have HBF := bel_trans HBWR HB6
           clear hcs))
        refine bodyPost_ret (v := .tuple #[.agg (zeroM.cells none 0), .int .i64 er]) (by simp [results, Tryd.results16, go_sem, zeroM, Mg.cells, rc0, rc1, rc2, rc3, rc4, rc5, rc6, rc7, rc8, rc9]) rfl ?_
        rw [HE.out]
        exact decodeR_err _ _ _ (bel_ten HBF.out (Nat.le_refl _) _ _ _ _ _ _ _ _ _ _)
theorem wz_96 (W : World) (a0 : Nat)  :
    Calls Tryd.prog 21 #[.agg #[.int .i64 96, .int .u32 a0, .int .u32 0, .int .u32 0, .int .u32 0, .int .u32 0, .string ⟨#[]⟩, .string ⟨#[]⟩, .bool false, .slice none 0 0]] W fun e w' => e = .returned (.bool (true)) ∧ Below W.heap.size W w' :=
  words21_96 a0 0 0 0 0 0 0 ⟨#[]⟩ ⟨#[]⟩ false none W

set_option maxHeartbeats 8000000 in
set_option maxRecDepth 100000 in
theorem rdec_96 (w : World) (A : Option Addr) (c n : Nat) (r : List UInt8) (hn : ((96 : UInt8) :: r).length = n) (hb : SlB w w.heap.size A c ((96 : UInt8) :: r)) (hl : n ≤ 100000) :
    Calls Tryd.prog 16 #[.slice A n c] w (DecodeR (decF ((96 : UInt8) :: r)) w) := by
  have HB := hid hb
  have HN := hid hn
  obtain ⟨bk, o, rfl, hbk, hcells⟩ := hb.2.2.2 (by simp [bv])
  have cb : w.cell? ⟨bk, o, none⟩ = some (.int .u8 96) := hcells 0 _ rfl
  have cb1 : ∀ ob, (w.alloc ob).cell? ⟨bk, o, none⟩ = some (.int .u8 96) := fun ob => ((bel1 w ob).cell (p := ⟨bk, o, none⟩) hbk).trans cb
  have hn1 : 0 < n := by rw [← hn]; simp
  have hn2 : (0 : Int) < n := by omega
  have hn3 : ((n : Int) == 0) = false := by simp; omega
  clear hcells hb hn
  obtain ⟨i3, hi3, hz3, hz31, hz32⟩ := info_parts Tryd.info3m
  obtain ⟨⟨er, fs⟩, HRD⟩ : ∃ x, Hid (readF [1, 3] ((96 : UInt8) :: r) = x) := ⟨_, hid rfl⟩
  have HDE : Hid (decF ((96 : UInt8) :: r) = if er = 0 then putsF [.chan] (fs.drop 1) { zeroM with kind := 96 } else (er, zeroM)) := by
    have h : decF ((96 : UInt8) :: r) = if (readF [1, 3] ((96 : UInt8) :: r)).1 = 0 then putsF [.chan] ((readF [1, 3] ((96 : UInt8) :: r)).2.drop 1) { zeroM with kind := 96 } else ((readF [1, 3] ((96 : UInt8) :: r)).1, zeroM) := rfl
    rw [HRD.out] at h
    exact h
  obtain ⟨fn, HFN⟩ : ∃ x, Hid (fs.length = x) := ⟨_, hid rfl⟩
  go_enter Tryd.func16, Tryd.ntmps16
  go_wp2_with (
    go_at_call 20
    ((with_reducible refine (fz_96 _).mono ?_); rintro e w1 ⟨HB1, A1, rfl, HF1⟩)
    have HX0 : Hid (Box w1 w.heap.size 25 #[.int .i64 0, .int .u32 0, .int .u32 0, .int .u32 0, .int .u32 0, .int .u32 0, .string ⟨#[]⟩, .string ⟨#[]⟩, .bool false, .slice none 0 0]) := box_below (box_below (Box.new w 25 _) (bel1 _ _)) HB1.out
    have HX1 : Hid (Box w1 (w.heap.size + 1) 25 #[.int .i64 96, .int .u32 0, .int .u32 0, .int .u32 0, .int .u32 0, .int .u32 0, .string ⟨#[]⟩, .string ⟨#[]⟩, .bool false, .slice none 0 0]) := by
      have h := box_below (Box.new (w.alloc (.cells #[.int .i64 0, .int .u32 0, .int .u32 0, .int .u32 0, .int .u32 0, .int .u32 0, .string ⟨#[]⟩, .string ⟨#[]⟩, .bool false, .slice none 0 0] 25)) 25 #[.int .i64 96, .int .u32 0, .int .u32 0, .int .u32 0, .int .u32 0, .int .u32 0, .string ⟨#[]⟩, .string ⟨#[]⟩, .bool false, .slice none 0 0]) HB1.out
      have e : (w.alloc (.cells #[.int .i64 0, .int .u32 0, .int .u32 0, .int .u32 0, .int .u32 0, .int .u32 0, .string ⟨#[]⟩, .string ⟨#[]⟩, .bool false, .slice none 0 0] 25)).heap.size = w.heap.size + 1 := by simp
      rw [e] at h
      exact h
    have HBW := bel_trans (bel2_h w _ _) HB1
    have hsz1 : w.heap.size + 2 ≤ w1.heap.size := by have := HB1.out.size; simpa using this)
  go_loopw [32, 7] (fun i v wr => ∃ (k : Nat) (A' : Option Addr) (c' : Nat), k ≤ 1 ∧ i = .int .i64 k ∧ v = .slice A' (k + 1) c' ∧ Hid (Below w1.heap.size w1 wr) ∧ Hid (wr.ownsRow w1.heap.size 3 1 (.slice A' (k + 1) c') (k + 1) (kv (1 :: (([3] : List Int).take k))))) (fun i _ _ => 1 - (intOf i).toNat)
  case atStart => exact ⟨0, _, _, Nat.zero_le _, rfl, rfl, bel1 w1 _, World.ownsRow_lit (base := w1.heap.size) (e := 3) (size := 1) w1 #[.int .i64 1] 1 (Nat.le_refl _) (by unfold maxLen; omega) (by simp)⟩
  case round =>
    obtain ⟨k, A', c', hk, rfl, rfl, HBR, HO⟩ := hrel
    by_cases hlt : k < 1
    · obtain ⟨lb, lo, rfl, hlb, hlc⟩ := (HF1.out.below HBR.out) (by simp)
      obtain ⟨fn0, tn, tc, ln, lc, tA, lA, d0, d1, d2, d3⟩ := hlc k hlt
      have HT : Hid (([3] : List Int).take (k + 1) = ([3] : List Int).take k ++ [([3] : List Int)[k]]) := take_snoc ([3] : List Int) k hlt
      clear hlc
      have hszr : w1.heap.size ≤ wr.heap.size := HBR.out.size
      obtain ⟨kd, HK⟩ : ∃ z, Hid (([3] : List Int)[k] = z) := ⟨_, hid rfl⟩
      rw [HK.out] at d0 HT
      go_wp2_with (
        at_builtin
        go_loud (
        refine wpList_app _ rfl (.tmp 36) (.tmp 39) 64 rfl w1.heap.size 3 i3 _ 1 8 Tryd.underlying64 hi3 hz3 hz31 hz32 rfl ?g1 A' (k + 1) c' (kv (1 :: ([3] : List Int).take k)) rfl ((HO.out.alloc _).alloc _) _ _ 1 1 [.int .i64 kd] rfl ?g2 (lies_l2 _ _ _ _) (one1m _) ?g3 ?g4 ?g5 ?_
        case g1 => omega
        case g2 => rfl
        case g3 => unfold maxLen; omega
        case g4 => omega
        case g5 => simp; omega
        intro A6 c6 w6 ho6 hg6
        have HB6 := hid (HBR.out.trans (((((Kept.refl w1.heap.size [3] wr).alloc _).alloc _).grown hg6 (fun q hq => by obtain ⟨a, cs, b⟩ := own_box ((HO.out.alloc _).alloc _) q hq; exact ⟨a, 3, cs, by simp, b⟩)).below hszr))
        have HO6 := hid ho6
        clear ho6 hg6))
      go_roundw
      case rel => exact ⟨k + 1, A6, c6, by omega, by go_num, rfl, HB6, hid (by rw [HT.out]; simpa [kv] using HO6.out)⟩
      case measure => simp [intOf]; omega
    · have hkn : k = 1 := by omega
      subst hkn
      have hown := HO.out
      have HLK : Hid (Lies wr wr.heap.size A' (([1, 3] : List Int).map (Value.int .i64))) := hid (Lies.own hown)
      have HBWR := bel_trans HBW HBR
      have HSB : Hid (SlB wr wr.heap.size (some ⟨bk, o, none⟩) c ((96 : UInt8) :: r)) := slb_at HB HBWR
      have HX0r := box_p HX0 HBR
      have HX1r := box_p HX1 HBR
      have hszr : w1.heap.size ≤ wr.heap.size := HBR.out.size
      clear hown HO HX0 HX1 HF1
      by_cases her : er = 0
      · subst her
        have HP : Hid (decF ((96 : UInt8) :: r) = putsF [.chan] (fs.drop 1) { zeroM with kind := 96 }) := by show _ = _; rw [HDE.out, if_pos rfl]
        obtain ⟨xs, rfl, hxk, hbit⟩ := readF_facts (ps := [.chan]) (b0 := 96) (r := r) HRD.out
        obtain ⟨f0, rfl⟩ : ∃ f0, xs = [f0] := by
          have hlen := congrArg List.length hxk
          simp only [List.length_map] at hlen
          match xs, hlen with
          | [f0], _ => exact ⟨_, rfl⟩
        obtain ⟨n0, N0⟩ : ∃ x, Hid (f0.text.length = x) := ⟨_, hid rfl⟩
        clear hbit hxk
        obtain rfl : fn = 2 := HFN.out.symm
        have HE : Hid (decF ((96 : UInt8) :: r) = (0, { zeroM with kind := 96, chan := f0.n })) := by
          show _ = _
          rw [HP.out]
          first | (simp [putsF, Pl.ok, Pl.put]; done) | (simp [putsF, Pl.ok, Pl.put]; rfl) | rfl
        clear HP HDE
        go_wp2_with (
          (go_at_call 24
           ((with_reducible refine (rread_x wr A' c' 2 [1, 3] (some ⟨bk, o, none⟩) c n ((96 : UInt8) :: r) 0 (⟨1, ((96 : UInt8)).toNat, [], []⟩ :: [f0]) 2 HRD rfl rfl HN HLK (by omega) HSB hl).mono ?_); rintro e w6 ⟨A6, c6, rfl, hcs, HB6⟩)
           obtain ⟨cs, ho6, hf6⟩ := hcs.out
           obtain ⟨tAk, tck, lAk, lck, rk, rfl, hk1, hk2, tA0, tc0, lA0, lc0, r0, rfl, ht0, hl0, hre⟩ := hf6
           have hre : _ = [] := hre
           subst hre
           obtain ⟨fb, rfl, hfb, hfl, hc6, hc6m, hcc⟩ := own_at ho6 (by simp)
           have hfb1 : w.heap.size + 1 < fb := by omega
           have hfb2 : ¬ fb = w.heap.size + 1 := by omega
           have hfb3 : ¬ w.heap.size + 1 = fb := by omega
           have hfb4 : ¬ w.heap.size = fb := by omega
           have hci : (2 : Int) ≤ c6 := by have : (2 : Nat) ≤ c6 := hc6; omega
           have hc1 : ¬ (c6 = 1) := by have : (2 : Nat) ≤ c6 := hc6; omega
           unfold maxLen at hc6m
           have HX06 := box_p HX0r HB6
           have HX16 := box_p HX1r HB6
           have y01 : w6.cell? ⟨fb, 5, none⟩ = some (.int .u32 f0.n) := hcc 5 _ rfl
           have y02 : w6.cell? ⟨fb, 6, none⟩ = some (.slice tA0 n0 tc0) := by have h := hcc 6 _ rfl; rw [N0.out] at h; exact h
           have mc0 : w6.cell? ⟨w.heap.size + 1, 0, none⟩ = some (.int .i64 96) := HX16.out.cell 0
           have mf0 : w6.frozen? ⟨w.heap.size + 1, 0, none⟩ = false := HX16.out.frozen 0
           have mc1 : w6.cell? ⟨w.heap.size + 1, 1, none⟩ = some (.int .u32 0) := HX16.out.cell 1
           have mf1 : w6.frozen? ⟨w.heap.size + 1, 1, none⟩ = false := HX16.out.frozen 1
           have mc2 : w6.cell? ⟨w.heap.size + 1, 2, none⟩ = some (.int .u32 0) := HX16.out.cell 2
           have mf2 : w6.frozen? ⟨w.heap.size + 1, 2, none⟩ = false := HX16.out.frozen 2
           have mc3 : w6.cell? ⟨w.heap.size + 1, 3, none⟩ = some (.int .u32 0) := HX16.out.cell 3
           have mf3 : w6.frozen? ⟨w.heap.size + 1, 3, none⟩ = false := HX16.out.frozen 3
           have mc4 : w6.cell? ⟨w.heap.size + 1, 4, none⟩ = some (.int .u32 0) := HX16.out.cell 4
           have mf4 : w6.frozen? ⟨w.heap.size + 1, 4, none⟩ = false := HX16.out.frozen 4
           have mc5 : w6.cell? ⟨w.heap.size + 1, 5, none⟩ = some (.int .u32 0) := HX16.out.cell 5
           have mf5 : w6.frozen? ⟨w.heap.size + 1, 5, none⟩ = false := HX16.out.frozen 5
           have mc6 : w6.cell? ⟨w.heap.size + 1, 6, none⟩ = some (.string ⟨#[]⟩) := HX16.out.cell 6
           have mf6 : w6.frozen? ⟨w.heap.size + 1, 6, none⟩ = false := HX16.out.frozen 6
           have mc7 : w6.cell? ⟨w.heap.size + 1, 7, none⟩ = some (.string ⟨#[]⟩) := HX16.out.cell 7
           have mf7 : w6.frozen? ⟨w.heap.size + 1, 7, none⟩ = false := HX16.out.frozen 7
           have mc8 : w6.cell? ⟨w.heap.size + 1, 8, none⟩ = some (.bool false) := HX16.out.cell 8
           have mf8 : w6.frozen? ⟨w.heap.size + 1, 8, none⟩ = false := HX16.out.frozen 8
           have mc9 : w6.cell? ⟨w.heap.size + 1, 9, none⟩ = some (.slice none 0 0) := HX16.out.cell 9
           have mf9 : w6.frozen? ⟨w.heap.size + 1, 9, none⟩ = false := HX16.out.frozen 9
           have HBF := bel_trans HBWR HB6
           clear hcs ht0 hl0 hk1 hk2 ho6 hcc))
        go_wp2_with (
          (go_at_call 21
           ((with_reducible refine (wz_96 _ f0.n).mono ?_); rintro e w8 ⟨rfl, hb8⟩)
           obtain ⟨k68, hx08, hx18⟩ := rd_tail0 [(1, .int .u32 f0.n)] HX06.out HX16.out hb8
           have HX08 := hid hx08
           have HX18 := hid hx18
           have K68 := hid k68
           have HB8 : Hid (Below w.heap.size w w8) := hid (HBF.out.trans ((K68.out.below (by have := HX16.out.lt; omega)).mono (by omega)))
           clear hx08 hx18 k68 hb8
           have rc0 : w8.cell? ⟨w.heap.size, 0, none⟩ = some (.int .i64 0) := HX08.out.cell 0
           have rf0 : w8.frozen? ⟨w.heap.size, 0, none⟩ = false := HX08.out.frozen 0
           have rc1 : w8.cell? ⟨w.heap.size, 1, none⟩ = some (.int .u32 0) := HX08.out.cell 1
           have rf1 : w8.frozen? ⟨w.heap.size, 1, none⟩ = false := HX08.out.frozen 1
           have rc2 : w8.cell? ⟨w.heap.size, 2, none⟩ = some (.int .u32 0) := HX08.out.cell 2
           have rf2 : w8.frozen? ⟨w.heap.size, 2, none⟩ = false := HX08.out.frozen 2
           have rc3 : w8.cell? ⟨w.heap.size, 3, none⟩ = some (.int .u32 0) := HX08.out.cell 3
           have rf3 : w8.frozen? ⟨w.heap.size, 3, none⟩ = false := HX08.out.frozen 3
           have rc4 : w8.cell? ⟨w.heap.size, 4, none⟩ = some (.int .u32 0) := HX08.out.cell 4
           have rf4 : w8.frozen? ⟨w.heap.size, 4, none⟩ = false := HX08.out.frozen 4
           have rc5 : w8.cell? ⟨w.heap.size, 5, none⟩ = some (.int .u32 0) := HX08.out.cell 5
           have rf5 : w8.frozen? ⟨w.heap.size, 5, none⟩ = false := HX08.out.frozen 5
           have rc6 : w8.cell? ⟨w.heap.size, 6, none⟩ = some (.string ⟨#[]⟩) := HX08.out.cell 6
           have rf6 : w8.frozen? ⟨w.heap.size, 6, none⟩ = false := HX08.out.frozen 6
           have rc7 : w8.cell? ⟨w.heap.size, 7, none⟩ = some (.string ⟨#[]⟩) := HX08.out.cell 7
           have rf7 : w8.frozen? ⟨w.heap.size, 7, none⟩ = false := HX08.out.frozen 7
           have rc8 : w8.cell? ⟨w.heap.size, 8, none⟩ = some (.bool false) := HX08.out.cell 8
           have rf8 : w8.frozen? ⟨w.heap.size, 8, none⟩ = false := HX08.out.frozen 8
           have rc9 : w8.cell? ⟨w.heap.size, 9, none⟩ = some (.slice none 0 0) := HX08.out.cell 9
           have rf9 : w8.frozen? ⟨w.heap.size, 9, none⟩ = false := HX08.out.frozen 9
           have gc0 : w8.cell? ⟨w.heap.size + 1, 0, none⟩ = some (.int .i64 96) := HX18.out.cell 0
           have gc1 : w8.cell? ⟨w.heap.size + 1, 1, none⟩ = some (.int .u32 f0.n) := HX18.out.cell 1
           have gc2 : w8.cell? ⟨w.heap.size + 1, 2, none⟩ = some (.int .u32 0) := HX18.out.cell 2
           have gc3 : w8.cell? ⟨w.heap.size + 1, 3, none⟩ = some (.int .u32 0) := HX18.out.cell 3
           have gc4 : w8.cell? ⟨w.heap.size + 1, 4, none⟩ = some (.int .u32 0) := HX18.out.cell 4
           have gc5 : w8.cell? ⟨w.heap.size + 1, 5, none⟩ = some (.int .u32 0) := HX18.out.cell 5
           have gc6 : w8.cell? ⟨w.heap.size + 1, 6, none⟩ = some (.string ⟨#[]⟩) := HX18.out.cell 6
           have gc7 : w8.cell? ⟨w.heap.size + 1, 7, none⟩ = some (.string ⟨#[]⟩) := HX18.out.cell 7
           have gc8 : w8.cell? ⟨w.heap.size + 1, 8, none⟩ = some (.bool false) := HX18.out.cell 8
           have gc9 : w8.cell? ⟨w.heap.size + 1, 9, none⟩ = some (.slice none 0 0) := HX18.out.cell 9
           ))
        refine bodyPost_ret (v := .tuple #[.agg #[.int .i64 96, .int .u32 f0.n, .int .u32 0, .int .u32 0, .int .u32 0, .int .u32 0, .string ⟨#[]⟩, .string ⟨#[]⟩, .bool false, .slice none 0 0], .int .i64 0]) (by simp [results, Tryd.results16, go_sem, rc0, rc1, rc2, rc3, rc4, rc5, rc6, rc7, rc8, rc9]) rfl ?_
        rw [show decF ((96 : UInt8) :: r) = (0, { zeroM with kind := 96, chan := f0.n }) from HE.out]
        exact decodeR_ok { zeroM with kind := 96, chan := f0.n } none 0 0 rfl (World.ownsRow_nil _ _ _ _) (bel_ten HB8.out (Nat.le_refl _) _ _ _ _ _ _ _ _ _ _)
      · have HE : Hid (decF ((96 : UInt8) :: r) = (er, zeroM)) := by show _ = _; rw [HDE.out, if_neg her]
        have hz : (er != 0) = true := by simpa using her
        clear her HDE
        go_wp2_with (
          (go_at_call 24
           ((with_reducible refine (rread_x wr A' c' 2 [1, 3] (some ⟨bk, o, none⟩) c n ((96 : UInt8) :: r) er fs fn HRD HFN.out rfl HN HLK (by omega) HSB hl).mono ?_); rintro e w6 ⟨A6, c6, rfl, hcs, HB6⟩)
           have HX06 := box_p HX0r HB6
           have rc0 : w6.cell? ⟨w.heap.size, 0, none⟩ = some (.int .i64 0) := HX06.out.cell 0
           have rf0 : w6.frozen? ⟨w.heap.size, 0, none⟩ = false := HX06.out.frozen 0
           have rc1 : w6.cell? ⟨w.heap.size, 1, none⟩ = some (.int .u32 0) := HX06.out.cell 1
           have rf1 : w6.frozen? ⟨w.heap.size, 1, none⟩ = false := HX06.out.frozen 1
           have rc2 : w6.cell? ⟨w.heap.size, 2, none⟩ = some (.int .u32 0) := HX06.out.cell 2
           have rf2 : w6.frozen? ⟨w.heap.size, 2, none⟩ = false := HX06.out.frozen 2
           have rc3 : w6.cell? ⟨w.heap.size, 3, none⟩ = some (.int .u32 0) := HX06.out.cell 3
           have rf3 : w6.frozen? ⟨w.heap.size, 3, none⟩ = false := HX06.out.frozen 3
           have rc4 : w6.cell? ⟨w.heap.size, 4, none⟩ = some (.int .u32 0) := HX06.out.cell 4
           have rf4 : w6.frozen? ⟨w.heap.size, 4, none⟩ = false := HX06.out.frozen 4
           have rc5 : w6.cell? ⟨w.heap.size, 5, none⟩ = some (.int .u32 0) := HX06.out.cell 5
           have rf5 : w6.frozen? ⟨w.heap.size, 5, none⟩ = false := HX06.out.frozen 5
           have rc6 : w6.cell? ⟨w.heap.size, 6, none⟩ = some (.string ⟨#[]⟩) := HX06.out.cell 6
           have rf6 : w6.frozen? ⟨w.heap.size, 6, none⟩ = false := HX06.out.frozen 6
           have rc7 : w6.cell? ⟨w.heap.size, 7, none⟩ = some (.string ⟨#[]⟩) := HX06.out.cell 7
           have rf7 : w6.frozen? ⟨w.heap.size, 7, none⟩ = false := HX06.out.frozen 7
           have rc8 : w6.cell? ⟨w.heap.size, 8, none⟩ = some (.bool false) := HX06.out.cell 8
           have rf8 : w6.frozen? ⟨w.heap.size, 8, none⟩ = false := HX06.out.frozen 8
           have rc9 : w6.cell? ⟨w.heap.size, 9, none⟩ = some (.slice none 0 0) := HX06.out.cell 9
           have rf9 : w6.frozen? ⟨w.heap.size, 9, none⟩ = false := HX06.out.frozen 9
           have HBF := bel_trans HBWR HB6
           clear hcs))
        refine bodyPost_ret (v := .tuple #[.agg (zeroM.cells none 0), .int .i64 er]) (by simp [results, Tryd.results16, go_sem, zeroM, Mg.cells, rc0, rc1, rc2, rc3, rc4, rc5, rc6, rc7, rc8, rc9]) rfl ?_
        rw [HE.out]
        exact decodeR_err _ _ _ (bel_ten HBF.out (Nat.le_refl _) _ _ _ _ _ _ _ _ _ _)

end Go.Proofs.YtlmdbcmaophhnaaDoor
