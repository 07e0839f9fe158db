import Derived.Test.YtlmdbcmaophhnaaDoorSB
import Derived.BigRegion
namespace Go.Proofs.YtlmdbcmaophhnaaDoor
open Go.RowKit

theorem wz_97 (W : World) (a0 : Nat)  :
    Calls Tryd.prog 21 #[.agg #[.int .i64 97, .int .u32 a0, .int .u32 0, .int .u32 0, .int .u32 0, .int .u32 0, .string ⟨#[]⟩, .string ⟨#[]⟩, .bool false, .slice none 0 0]] W fun e w' => e = .returned (.bool (true)) ∧ Below W.heap.size W w' :=
  words21_97 a0 0 0 0 0 0 0 ⟨#[]⟩ ⟨#[]⟩ false none W

set_option maxHeartbeats 8000000 in
set_option maxRecDepth 100000 in
theorem rdec_97 (w : World) (A : Option Addr) (c n : Nat) (r : List UInt8) (hn : ((97 : UInt8) :: r).length = n) (hb : SlB w w.heap.size A c ((97 : UInt8) :: r)) (hl : n ≤ 100000) :
    Calls Tryd.prog 16 #[.slice A n c] w (DecodeR (decF ((97 : UInt8) :: r)) w) := by
  have HB := hid hb
  have HN := hid hn
  obtain ⟨bk, o, rfl, hbk, hcells⟩ := hb.2.2.2 (by simp [bv])
  have cb : w.cell? ⟨bk, o, none⟩ = some (.int .u8 97) := hcells 0 _ rfl
  have cb1 : ∀ ob, (w.alloc ob).cell? ⟨bk, o, none⟩ = some (.int .u8 97) := fun ob => ((bel1 w ob).cell (p := ⟨bk, o, none⟩) hbk).trans cb
  have hn1 : 0 < n := by rw [← hn]; simp
  have hn2 : (0 : Int) < n := by omega
  have hn3 : ((n : Int) == 0) = false := by simp; omega
  clear hcells hb hn
  obtain ⟨i3, hi3, hz3, hz31, hz32⟩ := info_parts Tryd.info3m
  obtain ⟨⟨er, fs⟩, HRD⟩ : ∃ x, Hid (readF [1, 3] ((97 : UInt8) :: r) = x) := ⟨_, hid rfl⟩
  have HDE : Hid (decF ((97 : UInt8) :: r) = if er = 0 then putsF [.chan] (fs.drop 1) { zeroM with kind := 97 } else (er, zeroM)) := by
    have h : decF ((97 : UInt8) :: r) = if (readF [1, 3] ((97 : UInt8) :: r)).1 = 0 then putsF [.chan] ((readF [1, 3] ((97 : UInt8) :: r)).2.drop 1) { zeroM with kind := 97 } else ((readF [1, 3] ((97 : UInt8) :: r)).1, zeroM) := rfl
    rw [HRD.out] at h
    exact h
  obtain ⟨fn, HFN⟩ : ∃ x, Hid (fs.length = x) := ⟨_, hid rfl⟩
  go_enter Tryd.func16, Tryd.ntmps16
  go_wp2_with (
    go_at_call 20
    ((with_reducible refine (fz_97 _).mono ?_); rintro e w1 ⟨HB1, A1, rfl, HF1⟩)
    have HX0 : Hid (Box w1 w.heap.size 25 #[.int .i64 0, .int .u32 0, .int .u32 0, .int .u32 0, .int .u32 0, .int .u32 0, .string ⟨#[]⟩, .string ⟨#[]⟩, .bool false, .slice none 0 0]) := box_below (box_below (Box.new w 25 _) (bel1 _ _)) HB1.out
    have HX1 : Hid (Box w1 (w.heap.size + 1) 25 #[.int .i64 97, .int .u32 0, .int .u32 0, .int .u32 0, .int .u32 0, .int .u32 0, .string ⟨#[]⟩, .string ⟨#[]⟩, .bool false, .slice none 0 0]) := by
      have h := box_below (Box.new (w.alloc (.cells #[.int .i64 0, .int .u32 0, .int .u32 0, .int .u32 0, .int .u32 0, .int .u32 0, .string ⟨#[]⟩, .string ⟨#[]⟩, .bool false, .slice none 0 0] 25)) 25 #[.int .i64 97, .int .u32 0, .int .u32 0, .int .u32 0, .int .u32 0, .int .u32 0, .string ⟨#[]⟩, .string ⟨#[]⟩, .bool false, .slice none 0 0]) HB1.out
      have e : (w.alloc (.cells #[.int .i64 0, .int .u32 0, .int .u32 0, .int .u32 0, .int .u32 0, .int .u32 0, .string ⟨#[]⟩, .string ⟨#[]⟩, .bool false, .slice none 0 0] 25)).heap.size = w.heap.size + 1 := by simp
      rw [e] at h
      exact h
    have HBW := bel_trans (bel2_h w _ _) HB1
    have hsz1 : w.heap.size + 2 ≤ w1.heap.size := by have := HB1.out.size; simpa using this)
  go_loopw [32, 7] (fun i v wr => ∃ (k : Nat) (A' : Option Addr) (c' : Nat), k ≤ 1 ∧ i = .int .i64 k ∧ v = .slice A' (k + 1) c' ∧ Hid (Below w1.heap.size w1 wr) ∧ Hid (wr.ownsRow w1.heap.size 3 1 (.slice A' (k + 1) c') (k + 1) (kv (1 :: (([3] : List Int).take k))))) (fun i _ _ => 1 - (intOf i).toNat)
  case atStart => exact ⟨0, _, _, Nat.zero_le _, rfl, rfl, bel1 w1 _, World.ownsRow_lit (base := w1.heap.size) (e := 3) (size := 1) w1 #[.int .i64 1] 1 (Nat.le_refl _) (by unfold maxLen; omega) (by simp)⟩
  case round =>
    obtain ⟨k, A', c', hk, rfl, rfl, HBR, HO⟩ := hrel
    by_cases hlt : k < 1
    · obtain ⟨lb, lo, rfl, hlb, hlc⟩ := (HF1.out.below HBR.out) (by simp)
      obtain ⟨fn0, tn, tc, ln, lc, tA, lA, d0, d1, d2, d3⟩ := hlc k hlt
      have HT : Hid (([3] : List Int).take (k + 1) = ([3] : List Int).take k ++ [([3] : List Int)[k]]) := take_snoc ([3] : List Int) k hlt
      clear hlc
      have hszr : w1.heap.size ≤ wr.heap.size := HBR.out.size
      obtain ⟨kd, HK⟩ : ∃ z, Hid (([3] : List Int)[k] = z) := ⟨_, hid rfl⟩
      rw [HK.out] at d0 HT
      go_wp2_with (
        at_builtin
        go_loud (
        refine wpList_app _ rfl (.tmp 36) (.tmp 39) 64 rfl w1.heap.size 3 i3 _ 1 8 Tryd.underlying64 hi3 hz3 hz31 hz32 rfl ?g1 A' (k + 1) c' (kv (1 :: ([3] : List Int).take k)) rfl ((HO.out.alloc _).alloc _) _ _ 1 1 [.int .i64 kd] rfl ?g2 (lies_l2 _ _ _ _) (one1m _) ?g3 ?g4 ?g5 ?_
        case g1 => omega
        case g2 => rfl
        case g3 => unfold maxLen; omega
        case g4 => omega
        case g5 => simp; omega
        intro A6 c6 w6 ho6 hg6
        have HB6 := hid (HBR.out.trans (((((Kept.refl w1.heap.size [3] wr).alloc _).alloc _).grown hg6 (fun q hq => by obtain ⟨a, cs, b⟩ := own_box ((HO.out.alloc _).alloc _) q hq; exact ⟨a, 3, cs, by simp, b⟩)).below hszr))
        have HO6 := hid ho6
        clear ho6 hg6))
      go_roundw
      case rel => exact ⟨k + 1, A6, c6, by omega, by go_num, rfl, HB6, hid (by rw [HT.out]; simpa [kv] using HO6.out)⟩
      case measure => simp [intOf]; omega
    · have hkn : k = 1 := by omega
      subst hkn
      have hown := HO.out
      have HLK : Hid (Lies wr wr.heap.size A' (([1, 3] : List Int).map (Value.int .i64))) := hid (Lies.own hown)
      have HBWR := bel_trans HBW HBR
      have HSB : Hid (SlB wr wr.heap.size (some ⟨bk, o, none⟩) c ((97 : UInt8) :: r)) := slb_at HB HBWR
      have HX0r := box_p HX0 HBR
      have HX1r := box_p HX1 HBR
      have hszr : w1.heap.size ≤ wr.heap.size := HBR.out.size
      clear hown HO HX0 HX1 HF1
      by_cases her : er = 0
      · subst her
        have HP : Hid (decF ((97 : UInt8) :: r) = putsF [.chan] (fs.drop 1) { zeroM with kind := 97 }) := by show _ = _; rw [HDE.out, if_pos rfl]
        obtain ⟨xs, rfl, hxk, hbit⟩ := readF_facts (ps := [.chan]) (b0 := 97) (r := r) HRD.out
        obtain ⟨f0, rfl⟩ : ∃ f0, xs = [f0] := by
          have hlen := congrArg List.length hxk
          simp only [List.length_map] at hlen
          match xs, hlen with
          | [f0], _ => exact ⟨_, rfl⟩
        obtain ⟨n0, N0⟩ : ∃ x, Hid (f0.text.length = x) := ⟨_, hid rfl⟩
        clear hbit hxk
        obtain rfl : fn = 2 := HFN.out.symm
        have HE : Hid (decF ((97 : UInt8) :: r) = (0, { zeroM with kind := 97, chan := f0.n })) := by
          show _ = _
          rw [HP.out]
          first | (simp [putsF, Pl.ok, Pl.put]; done) | (simp [putsF, Pl.ok, Pl.put]; rfl) | rfl
        clear HP HDE
        go_wp2_with (
          (go_at_call 24
           ((with_reducible refine (rread_x wr A' c' 2 [1, 3] (some ⟨bk, o, none⟩) c n ((97 : UInt8) :: r) 0 (⟨1, ((97 : UInt8)).toNat, [], []⟩ :: [f0]) 2 HRD rfl rfl HN HLK (by omega) HSB hl).mono ?_); rintro e w6 ⟨A6, c6, rfl, hcs, HB6⟩)
           obtain ⟨cs, ho6, hf6⟩ := hcs.out
           obtain ⟨tAk, tck, lAk, lck, rk, rfl, hk1, hk2, tA0, tc0, lA0, lc0, r0, rfl, ht0, hl0, hre⟩ := hf6
           have hre : _ = [] := hre
           subst hre
           obtain ⟨fb, rfl, hfb, hfl, hc6, hc6m, hcc⟩ := own_at ho6 (by simp)
           have hfb1 : w.heap.size + 1 < fb := by omega
           have hfb2 : ¬ fb = w.heap.size + 1 := by omega
           have hfb3 : ¬ w.heap.size + 1 = fb := by omega
           have hfb4 : ¬ w.heap.size = fb := by omega
           have hci : (2 : Int) ≤ c6 := by have : (2 : Nat) ≤ c6 := hc6; omega
           have hc1 : ¬ (c6 = 1) := by have : (2 : Nat) ≤ c6 := hc6; omega
           unfold maxLen at hc6m
           have HX06 := box_p HX0r HB6
           have HX16 := box_p HX1r HB6
           have y01 : w6.cell? ⟨fb, 5, none⟩ = some (.int .u32 f0.n) := hcc 5 _ rfl
           have y02 : w6.cell? ⟨fb, 6, none⟩ = some (.slice tA0 n0 tc0) := by have h := hcc 6 _ rfl; rw [N0.out] at h; exact h
           have mc0 : w6.cell? ⟨w.heap.size + 1, 0, none⟩ = some (.int .i64 97) := HX16.out.cell 0
           have mf0 : w6.frozen? ⟨w.heap.size + 1, 0, none⟩ = false := HX16.out.frozen 0
           have mc1 : w6.cell? ⟨w.heap.size + 1, 1, none⟩ = some (.int .u32 0) := HX16.out.cell 1
           have mf1 : w6.frozen? ⟨w.heap.size + 1, 1, none⟩ = false := HX16.out.frozen 1
           have mc2 : w6.cell? ⟨w.heap.size + 1, 2, none⟩ = some (.int .u32 0) := HX16.out.cell 2
           have mf2 : w6.frozen? ⟨w.heap.size + 1, 2, none⟩ = false := HX16.out.frozen 2
           have mc3 : w6.cell? ⟨w.heap.size + 1, 3, none⟩ = some (.int .u32 0) := HX16.out.cell 3
           have mf3 : w6.frozen? ⟨w.heap.size + 1, 3, none⟩ = false := HX16.out.frozen 3
           have mc4 : w6.cell? ⟨w.heap.size + 1, 4, none⟩ = some (.int .u32 0) := HX16.out.cell 4
           have mf4 : w6.frozen? ⟨w.heap.size + 1, 4, none⟩ = false := HX16.out.frozen 4
           have mc5 : w6.cell? ⟨w.heap.size + 1, 5, none⟩ = some (.int .u32 0) := HX16.out.cell 5
           have mf5 : w6.frozen? ⟨w.heap.size + 1, 5, none⟩ = false := HX16.out.frozen 5
           have mc6 : w6.cell? ⟨w.heap.size + 1, 6, none⟩ = some (.string ⟨#[]⟩) := HX16.out.cell 6
           have mf6 : w6.frozen? ⟨w.heap.size + 1, 6, none⟩ = false := HX16.out.frozen 6
           have mc7 : w6.cell? ⟨w.heap.size + 1, 7, none⟩ = some (.string ⟨#[]⟩) := HX16.out.cell 7
           have mf7 : w6.frozen? ⟨w.heap.size + 1, 7, none⟩ = false := HX16.out.frozen 7
           have mc8 : w6.cell? ⟨w.heap.size + 1, 8, none⟩ = some (.bool false) := HX16.out.cell 8
           have mf8 : w6.frozen? ⟨w.heap.size + 1, 8, none⟩ = false := HX16.out.frozen 8
           have mc9 : w6.cell? ⟨w.heap.size + 1, 9, none⟩ = some (.slice none 0 0) := HX16.out.cell 9
           have mf9 : w6.frozen? ⟨w.heap.size + 1, 9, none⟩ = false := HX16.out.frozen 9
           have HBF := bel_trans HBWR HB6
           clear hcs ht0 hl0 hk1 hk2 ho6 hcc))
        go_wp2_with (
          (go_at_call 21
           ((with_reducible refine (wz_97 _ f0.n).mono ?_); rintro e w8 ⟨rfl, hb8⟩)
           obtain ⟨k68, hx08, hx18⟩ := rd_tail0 [(1, .int .u32 f0.n)] HX06.out HX16.out hb8
           have HX08 := hid hx08
           have HX18 := hid hx18
           have K68 := hid k68
           have HB8 : Hid (Below w.heap.size w w8) := hid (HBF.out.trans ((K68.out.below (by have := HX16.out.lt; omega)).mono (by omega)))
           clear hx08 hx18 k68 hb8
           have rc0 : w8.cell? ⟨w.heap.size, 0, none⟩ = some (.int .i64 0) := HX08.out.cell 0
           have rf0 : w8.frozen? ⟨w.heap.size, 0, none⟩ = false := HX08.out.frozen 0
           have rc1 : w8.cell? ⟨w.heap.size, 1, none⟩ = some (.int .u32 0) := HX08.out.cell 1
           have rf1 : w8.frozen? ⟨w.heap.size, 1, none⟩ = false := HX08.out.frozen 1
           have rc2 : w8.cell? ⟨w.heap.size, 2, none⟩ = some (.int .u32 0) := HX08.out.cell 2
           have rf2 : w8.frozen? ⟨w.heap.size, 2, none⟩ = false := HX08.out.frozen 2
           have rc3 : w8.cell? ⟨w.heap.size, 3, none⟩ = some (.int .u32 0) := HX08.out.cell 3
           have rf3 : w8.frozen? ⟨w.heap.size, 3, none⟩ = false := HX08.out.frozen 3
           have rc4 : w8.cell? ⟨w.heap.size, 4, none⟩ = some (.int .u32 0) := HX08.out.cell 4
           have rf4 : w8.frozen? ⟨w.heap.size, 4, none⟩ = false := HX08.out.frozen 4
           have rc5 : w8.cell? ⟨w.heap.size, 5, none⟩ = some (.int .u32 0) := HX08.out.cell 5
           have rf5 : w8.frozen? ⟨w.heap.size, 5, none⟩ = false := HX08.out.frozen 5
           have rc6 : w8.cell? ⟨w.heap.size, 6, none⟩ = some (.string ⟨#[]⟩) := HX08.out.cell 6
           have rf6 : w8.frozen? ⟨w.heap.size, 6, none⟩ = false := HX08.out.frozen 6
           have rc7 : w8.cell? ⟨w.heap.size, 7, none⟩ = some (.string ⟨#[]⟩) := HX08.out.cell 7
           have rf7 : w8.frozen? ⟨w.heap.size, 7, none⟩ = false := HX08.out.frozen 7
           have rc8 : w8.cell? ⟨w.heap.size, 8, none⟩ = some (.bool false) := HX08.out.cell 8
           have rf8 : w8.frozen? ⟨w.heap.size, 8, none⟩ = false := HX08.out.frozen 8
           have rc9 : w8.cell? ⟨w.heap.size, 9, none⟩ = some (.slice none 0 0) := HX08.out.cell 9
           have rf9 : w8.frozen? ⟨w.heap.size, 9, none⟩ = false := HX08.out.frozen 9
           have gc0 : w8.cell? ⟨w.heap.size + 1, 0, none⟩ = some (.int .i64 97) := HX18.out.cell 0
           have gc1 : w8.cell? ⟨w.heap.size + 1, 1, none⟩ = some (.int .u32 f0.n) := HX18.out.cell 1
           have gc2 : w8.cell? ⟨w.heap.size + 1, 2, none⟩ = some (.int .u32 0) := HX18.out.cell 2
           have gc3 : w8.cell? ⟨w.heap.size + 1, 3, none⟩ = some (.int .u32 0) := HX18.out.cell 3
           have gc4 : w8.cell? ⟨w.heap.size + 1, 4, none⟩ = some (.int .u32 0) := HX18.out.cell 4
           have gc5 : w8.cell? ⟨w.heap.size + 1, 5, none⟩ = some (.int .u32 0) := HX18.out.cell 5
           have gc6 : w8.cell? ⟨w.heap.size + 1, 6, none⟩ = some (.string ⟨#[]⟩) := HX18.out.cell 6
           have gc7 : w8.cell? ⟨w.heap.size + 1, 7, none⟩ = some (.string ⟨#[]⟩) := HX18.out.cell 7
           have gc8 : w8.cell? ⟨w.heap.size + 1, 8, none⟩ = some (.bool false) := HX18.out.cell 8
           have gc9 : w8.cell? ⟨w.heap.size + 1, 9, none⟩ = some (.slice none 0 0) := HX18.out.cell 9
           ))
        refine bodyPost_ret (v := .tuple #[.agg #[.int .i64 97, .int .u32 f0.n, .int .u32 0, .int .u32 0, .int .u32 0, .int .u32 0, .string ⟨#[]⟩, .string ⟨#[]⟩, .bool false, .slice none 0 0], .int .i64 0]) (by simp [results, Tryd.results16, go_sem, rc0, rc1, rc2, rc3, rc4, rc5, rc6, rc7, rc8, rc9]) rfl ?_
        rw [show decF ((97 : UInt8) :: r) = (0, { zeroM with kind := 97, chan := f0.n }) from HE.out]
        exact decodeR_ok { zeroM with kind := 97, chan := f0.n } none 0 0 rfl (World.ownsRow_nil _ _ _ _) (bel_ten HB8.out (Nat.le_refl _) _ _ _ _ _ _ _ _ _ _)
      · have HE : Hid (decF ((97 : UInt8) :: r) = (er, zeroM)) := by show _ = _; rw [HDE.out, if_neg her]
        have hz : (er != 0) = true := by simpa using her
        clear her HDE
        go_wp2_with (
          (go_at_call 24
           ((with_reducible refine (rread_x wr A' c' 2 [1, 3] (some ⟨bk, o, none⟩) c n ((97 : UInt8) :: r) er fs fn HRD HFN.out rfl HN HLK (by omega) HSB hl).mono ?_); rintro e w6 ⟨A6, c6, rfl, hcs, HB6⟩)
           have HX06 := box_p HX0r HB6
           have rc0 : w6.cell? ⟨w.heap.size, 0, none⟩ = some (.int .i64 0) := HX06.out.cell 0
           have rf0 : w6.frozen? ⟨w.heap.size, 0, none⟩ = false := HX06.out.frozen 0
           have rc1 : w6.cell? ⟨w.heap.size, 1, none⟩ = some (.int .u32 0) := HX06.out.cell 1
           have rf1 : w6.frozen? ⟨w.heap.size, 1, none⟩ = false := HX06.out.frozen 1
           have rc2 : w6.cell? ⟨w.heap.size, 2, none⟩ = some (.int .u32 0) := HX06.out.cell 2
           have rf2 : w6.frozen? ⟨w.heap.size, 2, none⟩ = false := HX06.out.frozen 2
           have rc3 : w6.cell? ⟨w.heap.size, 3, none⟩ = some (.int .u32 0) := HX06.out.cell 3
           have rf3 : w6.frozen? ⟨w.heap.size, 3, none⟩ = false := HX06.out.frozen 3
           have rc4 : w6.cell? ⟨w.heap.size, 4, none⟩ = some (.int .u32 0) := HX06.out.cell 4
           have rf4 : w6.frozen? ⟨w.heap.size, 4, none⟩ = false := HX06.out.frozen 4
           have rc5 : w6.cell? ⟨w.heap.size, 5, none⟩ = some (.int .u32 0) := HX06.out.cell 5
           have rf5 : w6.frozen? ⟨w.heap.size, 5, none⟩ = false := HX06.out.frozen 5
           have rc6 : w6.cell? ⟨w.heap.size, 6, none⟩ = some (.string ⟨#[]⟩) := HX06.out.cell 6
           have rf6 : w6.frozen? ⟨w.heap.size, 6, none⟩ = false := HX06.out.frozen 6
           have rc7 : w6.cell? ⟨w.heap.size, 7, none⟩ = some (.string ⟨#[]⟩) := HX06.out.cell 7
           have rf7 : w6.frozen? ⟨w.heap.size, 7, none⟩ = false := HX06.out.frozen 7
           have rc8 : w6.cell? ⟨w.heap.size, 8, none⟩ = some (.bool false) := HX06.out.cell 8
           have rf8 : w6.frozen? ⟨w.heap.size, 8, none⟩ = false := HX06.out.frozen 8
           have rc9 : w6.cell? ⟨w.heap.size, 9, none⟩ = some (.slice none 0 0) := HX06.out.cell 9
           have rf9 : w6.frozen? ⟨w.heap.size, 9, none⟩ = false := HX06.out.frozen 9
           have HBF := bel_trans HBWR HB6
           clear hcs))
        refine bodyPost_ret (v := .tuple #[.agg (zeroM.cells none 0), .int .i64 er]) (by simp [results, Tryd.results16, go_sem, zeroM, Mg.cells, rc0, rc1, rc2, rc3, rc4, rc5, rc6, rc7, rc8, rc9]) rfl ?_
        rw [HE.out]
        exact decodeR_err _ _ _ (bel_ten HBF.out (Nat.le_refl _) _ _ _ _ _ _ _ _ _ _)
theorem wz_98 (W : World) (a0 : Nat) (s1 : ByteArray) (b2 : Bool) (A3 : Option Addr) (n3 c3 : Nat) (hs : s1.size ≤ maxLen) :
    Calls Tryd.prog 21 #[.agg #[.int .i64 98, .int .u32 a0, .int .u32 0, .int .u32 0, .int .u32 0, .int .u32 0, .string s1, .string ⟨#[]⟩, .bool b2, .slice A3 n3 c3]] W fun e w' => e = .returned (.bool (wordOk 1 s1)) ∧ Below W.heap.size W w' :=
  words21_98 a0 0 0 0 0 n3 c3 s1 ⟨#[]⟩ b2 A3 W hs

set_option maxHeartbeats 8000000 in
set_option maxRecDepth 100000 in
theorem rdec_98 (w : World) (A : Option Addr) (c n : Nat) (r : List UInt8) (hn : ((98 : UInt8) :: r).length = n) (hb : SlB w w.heap.size A c ((98 : UInt8) :: r)) (hl : n ≤ 100000) :
    Calls Tryd.prog 16 #[.slice A n c] w (DecodeR (decF ((98 : UInt8) :: r)) w) := by
  have HB := hid hb
  have HN := hid hn
  obtain ⟨bk, o, rfl, hbk, hcells⟩ := hb.2.2.2 (by simp [bv])
  have cb : w.cell? ⟨bk, o, none⟩ = some (.int .u8 98) := hcells 0 _ rfl
  have cb1 : ∀ ob, (w.alloc ob).cell? ⟨bk, o, none⟩ = some (.int .u8 98) := fun ob => ((bel1 w ob).cell (p := ⟨bk, o, none⟩) hbk).trans cb
  have hn1 : 0 < n := by rw [← hn]; simp
  have hn2 : (0 : Int) < n := by omega
  have hn3 : ((n : Int) == 0) = false := by simp; omega
  clear hcells hb hn
  obtain ⟨i3, hi3, hz3, hz31, hz32⟩ := info_parts Tryd.info3m
  obtain ⟨⟨er, fs⟩, HRD⟩ : ∃ x, Hid (readF [1, 3, 4, 2, 6] ((98 : UInt8) :: r) = x) := ⟨_, hid rfl⟩
  have HDE : Hid (decF ((98 : UInt8) :: r) = if er = 0 then putsF [.chan, .name, .want, .rest] (fs.drop 1) { zeroM with kind := 98 } else (er, zeroM)) := by
    have h : decF ((98 : UInt8) :: r) = if (readF [1, 3, 4, 2, 6] ((98 : UInt8) :: r)).1 = 0 then putsF [.chan, .name, .want, .rest] ((readF [1, 3, 4, 2, 6] ((98 : UInt8) :: r)).2.drop 1) { zeroM with kind := 98 } else ((readF [1, 3, 4, 2, 6] ((98 : UInt8) :: r)).1, zeroM) := rfl
    rw [HRD.out] at h
    exact h
  obtain ⟨fn, HFN⟩ : ∃ x, Hid (fs.length = x) := ⟨_, hid rfl⟩
  go_enter Tryd.func16, Tryd.ntmps16
  go_wp2_with (
    go_at_call 20
    ((with_reducible refine (fz_98 _).mono ?_); rintro e w1 ⟨HB1, A1, rfl, HF1⟩)
    have HX0 : Hid (Box w1 w.heap.size 25 #[.int .i64 0, .int .u32 0, .int .u32 0, .int .u32 0, .int .u32 0, .int .u32 0, .string ⟨#[]⟩, .string ⟨#[]⟩, .bool false, .slice none 0 0]) := box_below (box_below (Box.new w 25 _) (bel1 _ _)) HB1.out
    have HX1 : Hid (Box w1 (w.heap.size + 1) 25 #[.int .i64 98, .int .u32 0, .int .u32 0, .int .u32 0, .int .u32 0, .int .u32 0, .string ⟨#[]⟩, .string ⟨#[]⟩, .bool false, .slice none 0 0]) := by
      have h := box_below (Box.new (w.alloc (.cells #[.int .i64 0, .int .u32 0, .int .u32 0, .int .u32 0, .int .u32 0, .int .u32 0, .string ⟨#[]⟩, .string ⟨#[]⟩, .bool false, .slice none 0 0] 25)) 25 #[.int .i64 98, .int .u32 0, .int .u32 0, .int .u32 0, .int .u32 0, .int .u32 0, .string ⟨#[]⟩, .string ⟨#[]⟩, .bool false, .slice none 0 0]) HB1.out
      have e : (w.alloc (.cells #[.int .i64 0, .int .u32 0, .int .u32 0, .int .u32 0, .int .u32 0, .int .u32 0, .string ⟨#[]⟩, .string ⟨#[]⟩, .bool false, .slice none 0 0] 25)).heap.size = w.heap.size + 1 := by simp
      rw [e] at h
      exact h
    have HBW := bel_trans (bel2_h w _ _) HB1
    have hsz1 : w.heap.size + 2 ≤ w1.heap.size := by have := HB1.out.size; simpa using this)
  go_loopw [32, 7] (fun i v wr => ∃ (k : Nat) (A' : Option Addr) (c' : Nat), k ≤ 4 ∧ i = .int .i64 k ∧ v = .slice A' (k + 1) c' ∧ Hid (Below w1.heap.size w1 wr) ∧ Hid (wr.ownsRow w1.heap.size 3 1 (.slice A' (k + 1) c') (k + 1) (kv (1 :: (([3, 4, 2, 6] : List Int).take k))))) (fun i _ _ => 4 - (intOf i).toNat)
  case atStart => exact ⟨0, _, _, Nat.zero_le _, rfl, rfl, bel1 w1 _, World.ownsRow_lit (base := w1.heap.size) (e := 3) (size := 1) w1 #[.int .i64 1] 1 (Nat.le_refl _) (by unfold maxLen; omega) (by simp)⟩
  case round =>
    obtain ⟨k, A', c', hk, rfl, rfl, HBR, HO⟩ := hrel
    by_cases hlt : k < 4
    · obtain ⟨lb, lo, rfl, hlb, hlc⟩ := (HF1.out.below HBR.out) (by simp)
      obtain ⟨fn0, tn, tc, ln, lc, tA, lA, d0, d1, d2, d3⟩ := hlc k hlt
      have HT : Hid (([3, 4, 2, 6] : List Int).take (k + 1) = ([3, 4, 2, 6] : List Int).take k ++ [([3, 4, 2, 6] : List Int)[k]]) := take_snoc ([3, 4, 2, 6] : List Int) k hlt
      clear hlc
      have hszr : w1.heap.size ≤ wr.heap.size := HBR.out.size
      obtain ⟨kd, HK⟩ : ∃ z, Hid (([3, 4, 2, 6] : List Int)[k] = z) := ⟨_, hid rfl⟩
      rw [HK.out] at d0 HT
      go_wp2_with (
        at_builtin
        go_loud (
        refine wpList_app _ rfl (.tmp 36) (.tmp 39) 64 rfl w1.heap.size 3 i3 _ 1 8 Tryd.underlying64 hi3 hz3 hz31 hz32 rfl ?g1 A' (k + 1) c' (kv (1 :: ([3, 4, 2, 6] : List Int).take k)) rfl ((HO.out.alloc _).alloc _) _ _ 1 1 [.int .i64 kd] rfl ?g2 (lies_l2 _ _ _ _) (one1m _) ?g3 ?g4 ?g5 ?_
        case g1 => omega
        case g2 => rfl
        case g3 => unfold maxLen; omega
        case g4 => omega
        case g5 => simp; omega
        intro A6 c6 w6 ho6 hg6
        have HB6 := hid (HBR.out.trans (((((Kept.refl w1.heap.size [3] wr).alloc _).alloc _).grown hg6 (fun q hq => by obtain ⟨a, cs, b⟩ := own_box ((HO.out.alloc _).alloc _) q hq; exact ⟨a, 3, cs, by simp, b⟩)).below hszr))
        have HO6 := hid ho6
        clear ho6 hg6))
      go_roundw
      case rel => exact ⟨k + 1, A6, c6, by omega, by go_num, rfl, HB6, hid (by rw [HT.out]; simpa [kv] using HO6.out)⟩
      case measure => simp [intOf]; omega
    · have hkn : k = 4 := by omega
      subst hkn
      have hown := HO.out
      have HLK : Hid (Lies wr wr.heap.size A' (([1, 3, 4, 2, 6] : List Int).map (Value.int .i64))) := hid (Lies.own hown)
      have HBWR := bel_trans HBW HBR
      have HSB : Hid (SlB wr wr.heap.size (some ⟨bk, o, none⟩) c ((98 : UInt8) :: r)) := slb_at HB HBWR
      have HX0r := box_p HX0 HBR
      have HX1r := box_p HX1 HBR
      have hszr : w1.heap.size ≤ wr.heap.size := HBR.out.size
      clear hown HO HX0 HX1 HF1
      by_cases her : er = 0
      · subst her
        have HP : Hid (decF ((98 : UInt8) :: r) = putsF [.chan, .name, .want, .rest] (fs.drop 1) { zeroM with kind := 98 }) := by show _ = _; rw [HDE.out, if_pos rfl]
        obtain ⟨xs, rfl, hxk, hbit⟩ := readF_facts (ps := [.chan, .name, .want, .rest]) (b0 := 98) (r := r) HRD.out
        obtain ⟨f0, f1, f2, f3, rfl⟩ : ∃ f0 f1 f2 f3, xs = [f0, f1, f2, f3] := by
          have hlen := congrArg List.length hxk
          simp only [List.length_map] at hlen
          match xs, hlen with
          | [f0, f1, f2, f3], _ => exact ⟨_, _, _, _, rfl⟩
        have hw2 : f2.n ≤ 1 := hbit f2 (by simp) (by simp only [List.map_cons, List.map_nil, List.cons.injEq] at hxk; obtain ⟨_, _, h, _, _⟩ := hxk; exact h)
        obtain ⟨n0, N0⟩ : ∃ x, Hid (f0.text.length = x) := ⟨_, hid rfl⟩
        obtain ⟨n1, N1⟩ : ∃ x, Hid (f1.text.length = x) := ⟨_, hid rfl⟩
        obtain ⟨n2, N2⟩ : ∃ x, Hid (f2.text.length = x) := ⟨_, hid rfl⟩
        obtain ⟨n3, N3⟩ : ∃ x, Hid (f3.text.length = x) := ⟨_, hid rfl⟩
        obtain ⟨s1, S1⟩ : ∃ x : ByteArray, Hid ((⟨f1.text.toArray⟩ : ByteArray) = x) := ⟨_, hid rfl⟩
        clear hbit hxk
        obtain rfl : fn = 5 := HFN.out.symm
        have HE : Hid (decF ((98 : UInt8) :: r) = if wordOk 1 s1 = true then (0, { zeroM with kind := 98, chan := f0.n, name := s1, want := ((f2.n : Int) == 1), data := f3.text }) else (4, zeroM)) := by
          show _ = _
          rw [HP.out, ← S1.out, ← bit_eq hw2]
          first | (simp [putsF, Pl.ok, Pl.put]; done) | (simp [putsF, Pl.ok, Pl.put]; rfl) | rfl
        clear HP HDE
        obtain ⟨bw, HBW0⟩ : ∃ x, Hid (wordOk 1 s1 = x) := ⟨_, hid rfl⟩
        rw [HBW0.out] at HE
        go_wp2_with (
          (go_at_call 24
           ((with_reducible refine (rread_x wr A' c' 5 [1, 3, 4, 2, 6] (some ⟨bk, o, none⟩) c n ((98 : UInt8) :: r) 0 (⟨1, ((98 : UInt8)).toNat, [], []⟩ :: [f0, f1, f2, f3]) 5 HRD rfl rfl HN HLK (by omega) HSB hl).mono ?_); rintro e w6 ⟨A6, c6, rfl, hcs, HB6⟩)
           obtain ⟨cs, ho6, hf6⟩ := hcs.out
           obtain ⟨tAk, tck, lAk, lck, rk, rfl, hk1, hk2, tA0, tc0, lA0, lc0, r0, rfl, ht0, hl0, tA1, tc1, lA1, lc1, r1, rfl, ht1, hl1, tA2, tc2, lA2, lc2, r2, rfl, ht2, hl2, tA3, tc3, lA3, lc3, r3, rfl, ht3, hl3, hre⟩ := hf6
           have hre : _ = [] := hre
           subst hre
           obtain ⟨fb, rfl, hfb, hfl, hc6, hc6m, hcc⟩ := own_at ho6 (by simp)
           have hfb1 : w.heap.size + 1 < fb := by omega
           have hfb2 : ¬ fb = w.heap.size + 1 := by omega
           have hfb3 : ¬ w.heap.size + 1 = fb := by omega
           have hfb4 : ¬ w.heap.size = fb := by omega
           have hci : (5 : Int) ≤ c6 := by have : (5 : Nat) ≤ c6 := hc6; omega
           have hc1 : ¬ (c6 = 1) := by have : (5 : Nat) ≤ c6 := hc6; omega
           unfold maxLen at hc6m
           have HX06 := box_p HX0r HB6
           have HX16 := box_p HX1r HB6
           have y01 : w6.cell? ⟨fb, 5, none⟩ = some (.int .u32 f0.n) := hcc 5 _ rfl
           have y02 : w6.cell? ⟨fb, 6, none⟩ = some (.slice tA0 n0 tc0) := by have h := hcc 6 _ rfl; rw [N0.out] at h; exact h
           have y11 : w6.cell? ⟨fb, 9, none⟩ = some (.int .u32 f1.n) := hcc 9 _ rfl
           have y12 : w6.cell? ⟨fb, 10, none⟩ = some (.slice tA1 n1 tc1) := by have h := hcc 10 _ rfl; rw [N1.out] at h; exact h
           have y21 : w6.cell? ⟨fb, 13, none⟩ = some (.int .u32 f2.n) := hcc 13 _ rfl
           have y22 : w6.cell? ⟨fb, 14, none⟩ = some (.slice tA2 n2 tc2) := by have h := hcc 14 _ rfl; rw [N2.out] at h; exact h
           have y31 : w6.cell? ⟨fb, 17, none⟩ = some (.int .u32 f3.n) := hcc 17 _ rfl
           have y32 : w6.cell? ⟨fb, 18, none⟩ = some (.slice tA3 n3 tc3) := by have h := hcc 18 _ rfl; rw [N3.out] at h; exact h
           have mc0 : w6.cell? ⟨w.heap.size + 1, 0, none⟩ = some (.int .i64 98) := HX16.out.cell 0
           have mf0 : w6.frozen? ⟨w.heap.size + 1, 0, none⟩ = false := HX16.out.frozen 0
           have mc1 : w6.cell? ⟨w.heap.size + 1, 1, none⟩ = some (.int .u32 0) := HX16.out.cell 1
           have mf1 : w6.frozen? ⟨w.heap.size + 1, 1, none⟩ = false := HX16.out.frozen 1
           have mc2 : w6.cell? ⟨w.heap.size + 1, 2, none⟩ = some (.int .u32 0) := HX16.out.cell 2
           have mf2 : w6.frozen? ⟨w.heap.size + 1, 2, none⟩ = false := HX16.out.frozen 2
           have mc3 : w6.cell? ⟨w.heap.size + 1, 3, none⟩ = some (.int .u32 0) := HX16.out.cell 3
           have mf3 : w6.frozen? ⟨w.heap.size + 1, 3, none⟩ = false := HX16.out.frozen 3
           have mc4 : w6.cell? ⟨w.heap.size + 1, 4, none⟩ = some (.int .u32 0) := HX16.out.cell 4
           have mf4 : w6.frozen? ⟨w.heap.size + 1, 4, none⟩ = false := HX16.out.frozen 4
           have mc5 : w6.cell? ⟨w.heap.size + 1, 5, none⟩ = some (.int .u32 0) := HX16.out.cell 5
           have mf5 : w6.frozen? ⟨w.heap.size + 1, 5, none⟩ = false := HX16.out.frozen 5
           have mc6 : w6.cell? ⟨w.heap.size + 1, 6, none⟩ = some (.string ⟨#[]⟩) := HX16.out.cell 6
           have mf6 : w6.frozen? ⟨w.heap.size + 1, 6, none⟩ = false := HX16.out.frozen 6
           have mc7 : w6.cell? ⟨w.heap.size + 1, 7, none⟩ = some (.string ⟨#[]⟩) := HX16.out.cell 7
           have mf7 : w6.frozen? ⟨w.heap.size + 1, 7, none⟩ = false := HX16.out.frozen 7
           have mc8 : w6.cell? ⟨w.heap.size + 1, 8, none⟩ = some (.bool false) := HX16.out.cell 8
           have mf8 : w6.frozen? ⟨w.heap.size + 1, 8, none⟩ = false := HX16.out.frozen 8
           have mc9 : w6.cell? ⟨w.heap.size + 1, 9, none⟩ = some (.slice none 0 0) := HX16.out.cell 9
           have mf9 : w6.frozen? ⟨w.heap.size + 1, 9, none⟩ = false := HX16.out.frozen 9
           have hcv1_0 : (convert 23 9 (.slice tA1 n1 tc1)).run Tryd.prog w6.drew = .ok (.string s1) w6.drew := conv_sets [] HX16.out ht1 N1.out S1.out
           have hcv1_1 : (convert 23 9 (.slice tA1 n1 tc1)).run Tryd.prog (w6.setCell ⟨w.heap.size + 1, 1, none⟩ (.int .u32 f0.n)).drew = .ok (.string s1) (w6.setCell ⟨w.heap.size + 1, 1, none⟩ (.int .u32 f0.n)).drew := conv_sets [(1, .int .u32 f0.n)] HX16.out ht1 N1.out S1.out
           have hsz1 := size_own ht1 S1.out
           have HD := hid (data_own ht3 N3.out (show w.heap.size ≤ wr.heap.size by omega))
           have HBF := bel_trans HBWR HB6
           clear hcs ht0 hl0 ht1 hl1 ht2 hl2 ht3 hl3 hk1 hk2 ho6 hcc))
        go_region
        cases bw with
        | false =>
          go_wp2_with (
            (go_at_call 21
             ((with_reducible refine (wz_98 _ f0.n s1 ((f2.n : Int) == 1) tA3 n3 tc3 hsz1).mono ?_); rw [HBW0.out]; rintro e w8 ⟨rfl, hb8⟩)
             obtain ⟨k68, hx08, hx18⟩ := rd_tail [(1, .int .u32 f0.n), (6, .string s1), (8, .bool ((f2.n : Int) == 1)), (9, .slice tA3 n3 tc3)] HX06.out HX16.out hb8
             have HX08 := hid hx08
             have HX18 := hid hx18
             have K68 := hid k68
             have HB8 : Hid (Below w.heap.size w w8) := hid (HBF.out.trans ((K68.out.below (by have := HX16.out.lt; omega)).mono (by omega)))
             clear hx08 hx18 k68 hb8
             have rc0 : w8.cell? ⟨w.heap.size, 0, none⟩ = some (.int .i64 0) := HX08.out.cell 0
             have rf0 : w8.frozen? ⟨w.heap.size, 0, none⟩ = false := HX08.out.frozen 0
             have rc1 : w8.cell? ⟨w.heap.size, 1, none⟩ = some (.int .u32 0) := HX08.out.cell 1
             have rf1 : w8.frozen? ⟨w.heap.size, 1, none⟩ = false := HX08.out.frozen 1
             have rc2 : w8.cell? ⟨w.heap.size, 2, none⟩ = some (.int .u32 0) := HX08.out.cell 2
             have rf2 : w8.frozen? ⟨w.heap.size, 2, none⟩ = false := HX08.out.frozen 2
             have rc3 : w8.cell? ⟨w.heap.size, 3, none⟩ = some (.int .u32 0) := HX08.out.cell 3
             have rf3 : w8.frozen? ⟨w.heap.size, 3, none⟩ = false := HX08.out.frozen 3
             have rc4 : w8.cell? ⟨w.heap.size, 4, none⟩ = some (.int .u32 0) := HX08.out.cell 4
             have rf4 : w8.frozen? ⟨w.heap.size, 4, none⟩ = false := HX08.out.frozen 4
             have rc5 : w8.cell? ⟨w.heap.size, 5, none⟩ = some (.int .u32 0) := HX08.out.cell 5
             have rf5 : w8.frozen? ⟨w.heap.size, 5, none⟩ = false := HX08.out.frozen 5
             have rc6 : w8.cell? ⟨w.heap.size, 6, none⟩ = some (.string ⟨#[]⟩) := HX08.out.cell 6
             have rf6 : w8.frozen? ⟨w.heap.size, 6, none⟩ = false := HX08.out.frozen 6
             have rc7 : w8.cell? ⟨w.heap.size, 7, none⟩ = some (.string ⟨#[]⟩) := HX08.out.cell 7
             have rf7 : w8.frozen? ⟨w.heap.size, 7, none⟩ = false := HX08.out.frozen 7
             have rc8 : w8.cell? ⟨w.heap.size, 8, none⟩ = some (.bool false) := HX08.out.cell 8
             have rf8 : w8.frozen? ⟨w.heap.size, 8, none⟩ = false := HX08.out.frozen 8
             have rc9 : w8.cell? ⟨w.heap.size, 9, none⟩ = some (.slice none 0 0) := HX08.out.cell 9
             have rf9 : w8.frozen? ⟨w.heap.size, 9, none⟩ = false := HX08.out.frozen 9
             ))
          refine bodyPost_ret (v := .tuple #[.agg (zeroM.cells none 0), .int .i64 4]) (by simp [results, Tryd.results16, go_sem, zeroM, Mg.cells, rc0, rc1, rc2, rc3, rc4, rc5, rc6, rc7, rc8, rc9]) rfl ?_
          rw [HE.out, if_neg (by simp)]
          exact decodeR_err _ _ _ (bel_ten HB8.out (Nat.le_refl _) _ _ _ _ _ _ _ _ _ _)
        | true =>
          go_wp2_with (
            (go_at_call 21
             ((with_reducible refine (wz_98 _ f0.n s1 ((f2.n : Int) == 1) tA3 n3 tc3 hsz1).mono ?_); rw [HBW0.out]; rintro e w8 ⟨rfl, hb8⟩)
             obtain ⟨k68, hx08, hx18⟩ := rd_tail [(1, .int .u32 f0.n), (6, .string s1), (8, .bool ((f2.n : Int) == 1)), (9, .slice tA3 n3 tc3)] HX06.out HX16.out hb8
             have HX08 := hid hx08
             have HX18 := hid hx18
             have K68 := hid k68
             have HB8 : Hid (Below w.heap.size w w8) := hid (HBF.out.trans ((K68.out.below (by have := HX16.out.lt; omega)).mono (by omega)))
             clear hx08 hx18 k68 hb8
             have rc0 : w8.cell? ⟨w.heap.size, 0, none⟩ = some (.int .i64 0) := HX08.out.cell 0
             have rf0 : w8.frozen? ⟨w.heap.size, 0, none⟩ = false := HX08.out.frozen 0
             have rc1 : w8.cell? ⟨w.heap.size, 1, none⟩ = some (.int .u32 0) := HX08.out.cell 1
             have rf1 : w8.frozen? ⟨w.heap.size, 1, none⟩ = false := HX08.out.frozen 1
             have rc2 : w8.cell? ⟨w.heap.size, 2, none⟩ = some (.int .u32 0) := HX08.out.cell 2
             have rf2 : w8.frozen? ⟨w.heap.size, 2, none⟩ = false := HX08.out.frozen 2
             have rc3 : w8.cell? ⟨w.heap.size, 3, none⟩ = some (.int .u32 0) := HX08.out.cell 3
             have rf3 : w8.frozen? ⟨w.heap.size, 3, none⟩ = false := HX08.out.frozen 3
             have rc4 : w8.cell? ⟨w.heap.size, 4, none⟩ = some (.int .u32 0) := HX08.out.cell 4
             have rf4 : w8.frozen? ⟨w.heap.size, 4, none⟩ = false := HX08.out.frozen 4
             have rc5 : w8.cell? ⟨w.heap.size, 5, none⟩ = some (.int .u32 0) := HX08.out.cell 5
             have rf5 : w8.frozen? ⟨w.heap.size, 5, none⟩ = false := HX08.out.frozen 5
             have rc6 : w8.cell? ⟨w.heap.size, 6, none⟩ = some (.string ⟨#[]⟩) := HX08.out.cell 6
             have rf6 : w8.frozen? ⟨w.heap.size, 6, none⟩ = false := HX08.out.frozen 6
             have rc7 : w8.cell? ⟨w.heap.size, 7, none⟩ = some (.string ⟨#[]⟩) := HX08.out.cell 7
             have rf7 : w8.frozen? ⟨w.heap.size, 7, none⟩ = false := HX08.out.frozen 7
             have rc8 : w8.cell? ⟨w.heap.size, 8, none⟩ = some (.bool false) := HX08.out.cell 8
             have rf8 : w8.frozen? ⟨w.heap.size, 8, none⟩ = false := HX08.out.frozen 8
             have rc9 : w8.cell? ⟨w.heap.size, 9, none⟩ = some (.slice none 0 0) := HX08.out.cell 9
             have rf9 : w8.frozen? ⟨w.heap.size, 9, none⟩ = false := HX08.out.frozen 9
             have gc0 : w8.cell? ⟨w.heap.size + 1, 0, none⟩ = some (.int .i64 98) := HX18.out.cell 0
             have gc1 : w8.cell? ⟨w.heap.size + 1, 1, none⟩ = some (.int .u32 f0.n) := HX18.out.cell 1
             have gc2 : w8.cell? ⟨w.heap.size + 1, 2, none⟩ = some (.int .u32 0) := HX18.out.cell 2
             have gc3 : w8.cell? ⟨w.heap.size + 1, 3, none⟩ = some (.int .u32 0) := HX18.out.cell 3
             have gc4 : w8.cell? ⟨w.heap.size + 1, 4, none⟩ = some (.int .u32 0) := HX18.out.cell 4
             have gc5 : w8.cell? ⟨w.heap.size + 1, 5, none⟩ = some (.int .u32 0) := HX18.out.cell 5
             have gc6 : w8.cell? ⟨w.heap.size + 1, 6, none⟩ = some (.string s1) := HX18.out.cell 6
             have gc7 : w8.cell? ⟨w.heap.size + 1, 7, none⟩ = some (.string ⟨#[]⟩) := HX18.out.cell 7
             have gc8 : w8.cell? ⟨w.heap.size + 1, 8, none⟩ = some (.bool ((f2.n : Int) == 1)) := HX18.out.cell 8
             have gc9 : w8.cell? ⟨w.heap.size + 1, 9, none⟩ = some (.slice tA3 n3 tc3) := HX18.out.cell 9
             ))
          refine bodyPost_ret (v := .tuple #[.agg #[.int .i64 98, .int .u32 f0.n, .int .u32 0, .int .u32 0, .int .u32 0, .int .u32 0, .string s1, .string ⟨#[]⟩, .bool ((f2.n : Int) == 1), .slice tA3 n3 tc3], .int .i64 0]) (by simp [results, Tryd.results16, go_sem, rc0, rc1, rc2, rc3, rc4, rc5, rc6, rc7, rc8, rc9]) rfl ?_
          rw [show decF ((98 : UInt8) :: r) = (0, { zeroM with kind := 98, chan := f0.n, name := s1, want := ((f2.n : Int) == 1), data := f3.text }) from HE.out]
          exact decodeR_ok { zeroM with kind := 98, chan := f0.n, name := s1, want := ((f2.n : Int) == 1), data := f3.text } tA3 tc3 n3 N3.out ((kept_ten HX08.out (Nat.le_refl _) _ _ _ _ _ _ _ _ _ _).own (K68.out.own HD.out (by decide)) (by decide)) (bel_ten HB8.out (Nat.le_refl _) _ _ _ _ _ _ _ _ _ _)
      · have HE : Hid (decF ((98 : UInt8) :: r) = (er, zeroM)) := by show _ = _; rw [HDE.out, if_neg her]
        have hz : (er != 0) = true := by simpa using her
        clear her HDE
        go_wp2_with (
          (go_at_call 24
           ((with_reducible refine (rread_x wr A' c' 5 [1, 3, 4, 2, 6] (some ⟨bk, o, none⟩) c n ((98 : UInt8) :: r) er fs fn HRD HFN.out rfl HN HLK (by omega) HSB hl).mono ?_); rintro e w6 ⟨A6, c6, rfl, hcs, HB6⟩)
           have HX06 := box_p HX0r HB6
           have rc0 : w6.cell? ⟨w.heap.size, 0, none⟩ = some (.int .i64 0) := HX06.out.cell 0
           have rf0 : w6.frozen? ⟨w.heap.size, 0, none⟩ = false := HX06.out.frozen 0
           have rc1 : w6.cell? ⟨w.heap.size, 1, none⟩ = some (.int .u32 0) := HX06.out.cell 1
           have rf1 : w6.frozen? ⟨w.heap.size, 1, none⟩ = false := HX06.out.frozen 1
           have rc2 : w6.cell? ⟨w.heap.size, 2, none⟩ = some (.int .u32 0) := HX06.out.cell 2
           have rf2 : w6.frozen? ⟨w.heap.size, 2, none⟩ = false := HX06.out.frozen 2
           have rc3 : w6.cell? ⟨w.heap.size, 3, none⟩ = some (.int .u32 0) := HX06.out.cell 3
           have rf3 : w6.frozen? ⟨w.heap.size, 3, none⟩ = false := HX06.out.frozen 3
           have rc4 : w6.cell? ⟨w.heap.size, 4, none⟩ = some (.int .u32 0) := HX06.out.cell 4
           have rf4 : w6.frozen? ⟨w.heap.size, 4, none⟩ = false := HX06.out.frozen 4
           have rc5 : w6.cell? ⟨w.heap.size, 5, none⟩ = some (.int .u32 0) := HX06.out.cell 5
           have rf5 : w6.frozen? ⟨w.heap.size, 5, none⟩ = false := HX06.out.frozen 5
           have rc6 : w6.cell? ⟨w.heap.size, 6, none⟩ = some (.string ⟨#[]⟩) := HX06.out.cell 6
           have rf6 : w6.frozen? ⟨w.heap.size, 6, none⟩ = false := HX06.out.frozen 6
           have rc7 : w6.cell? ⟨w.heap.size, 7, none⟩ = some (.string ⟨#[]⟩) := HX06.out.cell 7
           have rf7 : w6.frozen? ⟨w.heap.size, 7, none⟩ = false := HX06.out.frozen 7
           have rc8 : w6.cell? ⟨w.heap.size, 8, none⟩ = some (.bool false) := HX06.out.cell 8
           have rf8 : w6.frozen? ⟨w.heap.size, 8, none⟩ = false := HX06.out.frozen 8
           have rc9 : w6.cell? ⟨w.heap.size, 9, none⟩ = some (.slice none 0 0) := HX06.out.cell 9
           have rf9 : w6.frozen? ⟨w.heap.size, 9, none⟩ = false := HX06.out.frozen 9
           have HBF := bel_trans HBWR HB6
           clear hcs))
        refine bodyPost_ret (v := .tuple #[.agg (zeroM.cells none 0), .int .i64 er]) (by simp [results, Tryd.results16, go_sem, zeroM, Mg.cells, rc0, rc1, rc2, rc3, rc4, rc5, rc6, rc7, rc8, rc9]) rfl ?_
        rw [HE.out]
        exact decodeR_err _ _ _ (bel_ten HBF.out (Nat.le_refl _) _ _ _ _ _ _ _ _ _ _)
theorem wz_99 (W : World) (a0 : Nat)  :
    Calls Tryd.prog 21 #[.agg #[.int .i64 99, .int .u32 a0, .int .u32 0, .int .u32 0, .int .u32 0, .int .u32 0, .string ⟨#[]⟩, .string ⟨#[]⟩, .bool false, .slice none 0 0]] W fun e w' => e = .returned (.bool (true)) ∧ Below W.heap.size W w' :=
  words21_99 a0 0 0 0 0 0 0 ⟨#[]⟩ ⟨#[]⟩ false none W

set_option maxHeartbeats 8000000 in
set_option maxRecDepth 100000 in
theorem rdec_99 (w : World) (A : Option Addr) (c n : Nat) (r : List UInt8) (hn : ((99 : UInt8) :: r).length = n) (hb : SlB w w.heap.size A c ((99 : UInt8) :: r)) (hl : n ≤ 100000) :
    Calls Tryd.prog 16 #[.slice A n c] w (DecodeR (decF ((99 : UInt8) :: r)) w) := by
  have HB := hid hb
  have HN := hid hn
  obtain ⟨bk, o, rfl, hbk, hcells⟩ := hb.2.2.2 (by simp [bv])
  have cb : w.cell? ⟨bk, o, none⟩ = some (.int .u8 99) := hcells 0 _ rfl
  have cb1 : ∀ ob, (w.alloc ob).cell? ⟨bk, o, none⟩ = some (.int .u8 99) := fun ob => ((bel1 w ob).cell (p := ⟨bk, o, none⟩) hbk).trans cb
  have hn1 : 0 < n := by rw [← hn]; simp
  have hn2 : (0 : Int) < n := by omega
  have hn3 : ((n : Int) == 0) = false := by simp; omega
  clear hcells hb hn
  obtain ⟨i3, hi3, hz3, hz31, hz32⟩ := info_parts Tryd.info3m
  obtain ⟨⟨er, fs⟩, HRD⟩ : ∃ x, Hid (readF [1, 3] ((99 : UInt8) :: r) = x) := ⟨_, hid rfl⟩
  have HDE : Hid (decF ((99 : UInt8) :: r) = if er = 0 then putsF [.chan] (fs.drop 1) { zeroM with kind := 99 } else (er, zeroM)) := by
    have h : decF ((99 : UInt8) :: r) = if (readF [1, 3] ((99 : UInt8) :: r)).1 = 0 then putsF [.chan] ((readF [1, 3] ((99 : UInt8) :: r)).2.drop 1) { zeroM with kind := 99 } else ((readF [1, 3] ((99 : UInt8) :: r)).1, zeroM) := rfl
    rw [HRD.out] at h
    exact h
  obtain ⟨fn, HFN⟩ : ∃ x, Hid (fs.length = x) := ⟨_, hid rfl⟩
  go_enter Tryd.func16, Tryd.ntmps16
  go_wp2_with (
    go_at_call 20
    ((with_reducible refine (fz_99 _).mono ?_); rintro e w1 ⟨HB1, A1, rfl, HF1⟩)
    have HX0 : Hid (Box w1 w.heap.size 25 #[.int .i64 0, .int .u32 0, .int .u32 0, .int .u32 0, .int .u32 0, .int .u32 0, .string ⟨#[]⟩, .string ⟨#[]⟩, .bool false, .slice none 0 0]) := box_below (box_below (Box.new w 25 _) (bel1 _ _)) HB1.out
    have HX1 : Hid (Box w1 (w.heap.size + 1) 25 #[.int .i64 99, .int .u32 0, .int .u32 0, .int .u32 0, .int .u32 0, .int .u32 0, .string ⟨#[]⟩, .string ⟨#[]⟩, .bool false, .slice none 0 0]) := by
      have h := box_below (Box.new (w.alloc (.cells #[.int .i64 0, .int .u32 0, .int .u32 0, .int .u32 0, .int .u32 0, .int .u32 0, .string ⟨#[]⟩, .string ⟨#[]⟩, .bool false, .slice none 0 0] 25)) 25 #[.int .i64 99, .int .u32 0, .int .u32 0, .int .u32 0, .int .u32 0, .int .u32 0, .string ⟨#[]⟩, .string ⟨#[]⟩, .bool false, .slice none 0 0]) HB1.out
      have e : (w.alloc (.cells #[.int .i64 0, .int .u32 0, .int .u32 0, .int .u32 0, .int .u32 0, .int .u32 0, .string ⟨#[]⟩, .string ⟨#[]⟩, .bool false, .slice none 0 0] 25)).heap.size = w.heap.size + 1 := by simp
      rw [e] at h
      exact h
    have HBW := bel_trans (bel2_h w _ _) HB1
    have hsz1 : w.heap.size + 2 ≤ w1.heap.size := by have := HB1.out.size; simpa using this)
  go_loopw [32, 7] (fun i v wr => ∃ (k : Nat) (A' : Option Addr) (c' : Nat), k ≤ 1 ∧ i = .int .i64 k ∧ v = .slice A' (k + 1) c' ∧ Hid (Below w1.heap.size w1 wr) ∧ Hid (wr.ownsRow w1.heap.size 3 1 (.slice A' (k + 1) c') (k + 1) (kv (1 :: (([3] : List Int).take k))))) (fun i _ _ => 1 - (intOf i).toNat)
  case atStart => exact ⟨0, _, _, Nat.zero_le _, rfl, rfl, bel1 w1 _, World.ownsRow_lit (base := w1.heap.size) (e := 3) (size := 1) w1 #[.int .i64 1] 1 (Nat.le_refl _) (by unfold maxLen; omega) (by simp)⟩
  case round =>
    obtain ⟨k, A', c', hk, rfl, rfl, HBR, HO⟩ := hrel
    by_cases hlt : k < 1
    · obtain ⟨lb, lo, rfl, hlb, hlc⟩ := (HF1.out.below HBR.out) (by simp)
      obtain ⟨fn0, tn, tc, ln, lc, tA, lA, d0, d1, d2, d3⟩ := hlc k hlt
      have HT : Hid (([3] : List Int).take (k + 1) = ([3] : List Int).take k ++ [([3] : List Int)[k]]) := take_snoc ([3] : List Int) k hlt
      clear hlc
      have hszr : w1.heap.size ≤ wr.heap.size := HBR.out.size
      obtain ⟨kd, HK⟩ : ∃ z, Hid (([3] : List Int)[k] = z) := ⟨_, hid rfl⟩
      rw [HK.out] at d0 HT
      go_wp2_with (
        at_builtin
        go_loud (
        refine wpList_app _ rfl (.tmp 36) (.tmp 39) 64 rfl w1.heap.size 3 i3 _ 1 8 Tryd.underlying64 hi3 hz3 hz31 hz32 rfl ?g1 A' (k + 1) c' (kv (1 :: ([3] : List Int).take k)) rfl ((HO.out.alloc _).alloc _) _ _ 1 1 [.int .i64 kd] rfl ?g2 (lies_l2 _ _ _ _) (one1m _) ?g3 ?g4 ?g5 ?_
        case g1 => omega
        case g2 => rfl
        case g3 => unfold maxLen; omega
        case g4 => omega
        case g5 => simp; omega
        intro A6 c6 w6 ho6 hg6
        have HB6 := hid (HBR.out.trans (((((Kept.refl w1.heap.size [3] wr).alloc _).alloc _).grown hg6 (fun q hq => by obtain ⟨a, cs, b⟩ := own_box ((HO.out.alloc _).alloc _) q hq; exact ⟨a, 3, cs, by simp, b⟩)).below hszr))
        have HO6 := hid ho6
        clear ho6 hg6))
      go_roundw
      case rel => exact ⟨k + 1, A6, c6, by omega, by go_num, rfl, HB6, hid (by rw [HT.out]; simpa [kv] using HO6.out)⟩
      case measure => simp [intOf]; omega
    · have hkn : k = 1 := by omega
      subst hkn
      have hown := HO.out
      have HLK : Hid (Lies wr wr.heap.size A' (([1, 3] : List Int).map (Value.int .i64))) := hid (Lies.own hown)
      have HBWR := bel_trans HBW HBR
      have HSB : Hid (SlB wr wr.heap.size (some ⟨bk, o, none⟩) c ((99 : UInt8) :: r)) := slb_at HB HBWR
      have HX0r := box_p HX0 HBR
      have HX1r := box_p HX1 HBR
      have hszr : w1.heap.size ≤ wr.heap.size := HBR.out.size
      clear hown HO HX0 HX1 HF1
      by_cases her : er = 0
      · subst her
        have HP : Hid (decF ((99 : UInt8) :: r) = putsF [.chan] (fs.drop 1) { zeroM with kind := 99 }) := by show _ = _; rw [HDE.out, if_pos rfl]
        obtain ⟨xs, rfl, hxk, hbit⟩ := readF_facts (ps := [.chan]) (b0 := 99) (r := r) HRD.out
        obtain ⟨f0, rfl⟩ : ∃ f0, xs = [f0] := by
          have hlen := congrArg List.length hxk
          simp only [List.length_map] at hlen
          match xs, hlen with
          | [f0], _ => exact ⟨_, rfl⟩
        obtain ⟨n0, N0⟩ : ∃ x, Hid (f0.text.length = x) := ⟨_, hid rfl⟩
        clear hbit hxk
        obtain rfl : fn = 2 := HFN.out.symm
        have HE : Hid (decF ((99 : UInt8) :: r) = (0, { zeroM with kind := 99, chan := f0.n })) := by
          show _ = _
          rw [HP.out]
          first | (simp [putsF, Pl.ok, Pl.put]; done) | (simp [putsF, Pl.ok, Pl.put]; rfl) | rfl
        clear HP HDE
        go_wp2_with (
          (go_at_call 24
           ((with_reducible refine (rread_x wr A' c' 2 [1, 3] (some ⟨bk, o, none⟩) c n ((99 : UInt8) :: r) 0 (⟨1, ((99 : UInt8)).toNat, [], []⟩ :: [f0]) 2 HRD rfl rfl HN HLK (by omega) HSB hl).mono ?_); rintro e w6 ⟨A6, c6, rfl, hcs, HB6⟩)
           obtain ⟨cs, ho6, hf6⟩ := hcs.out
           obtain ⟨tAk, tck, lAk, lck, rk, rfl, hk1, hk2, tA0, tc0, lA0, lc0, r0, rfl, ht0, hl0, hre⟩ := hf6
           have hre : _ = [] := hre
           subst hre
           obtain ⟨fb, rfl, hfb, hfl, hc6, hc6m, hcc⟩ := own_at ho6 (by simp)
           have hfb1 : w.heap.size + 1 < fb := by omega
           have hfb2 : ¬ fb = w.heap.size + 1 := by omega
           have hfb3 : ¬ w.heap.size + 1 = fb := by omega
           have hfb4 : ¬ w.heap.size = fb := by omega
           have hci : (2 : Int) ≤ c6 := by have : (2 : Nat) ≤ c6 := hc6; omega
           have hc1 : ¬ (c6 = 1) := by have : (2 : Nat) ≤ c6 := hc6; omega
           unfold maxLen at hc6m
           have HX06 := box_p HX0r HB6
           have HX16 := box_p HX1r HB6
           have y01 : w6.cell? ⟨fb, 5, none⟩ = some (.int .u32 f0.n) := hcc 5 _ rfl
           have y02 : w6.cell? ⟨fb, 6, none⟩ = some (.slice tA0 n0 tc0) := by have h := hcc 6 _ rfl; rw [N0.out] at h; exact h
           have mc0 : w6.cell? ⟨w.heap.size + 1, 0, none⟩ = some (.int .i64 99) := HX16.out.cell 0
           have mf0 : w6.frozen? ⟨w.heap.size + 1, 0, none⟩ = false := HX16.out.frozen 0
           have mc1 : w6.cell? ⟨w.heap.size + 1, 1, none⟩ = some (.int .u32 0) := HX16.out.cell 1
           have mf1 : w6.frozen? ⟨w.heap.size + 1, 1, none⟩ = false := HX16.out.frozen 1
           have mc2 : w6.cell? ⟨w.heap.size + 1, 2, none⟩ = some (.int .u32 0) := HX16.out.cell 2
           have mf2 : w6.frozen? ⟨w.heap.size + 1, 2, none⟩ = false := HX16.out.frozen 2
           have mc3 : w6.cell? ⟨w.heap.size + 1, 3, none⟩ = some (.int .u32 0) := HX16.out.cell 3
           have mf3 : w6.frozen? ⟨w.heap.size + 1, 3, none⟩ = false := HX16.out.frozen 3
           have mc4 : w6.cell? ⟨w.heap.size + 1, 4, none⟩ = some (.int .u32 0) := HX16.out.cell 4
           have mf4 : w6.frozen? ⟨w.heap.size + 1, 4, none⟩ = false := HX16.out.frozen 4
           have mc5 : w6.cell? ⟨w.heap.size + 1, 5, none⟩ = some (.int .u32 0) := HX16.out.cell 5
           have mf5 : w6.frozen? ⟨w.heap.size + 1, 5, none⟩ = false := HX16.out.frozen 5
           have mc6 : w6.cell? ⟨w.heap.size + 1, 6, none⟩ = some (.string ⟨#[]⟩) := HX16.out.cell 6
           have mf6 : w6.frozen? ⟨w.heap.size + 1, 6, none⟩ = false := HX16.out.frozen 6
           have mc7 : w6.cell? ⟨w.heap.size + 1, 7, none⟩ = some (.string ⟨#[]⟩) := HX16.out.cell 7
           have mf7 : w6.frozen? ⟨w.heap.size + 1, 7, none⟩ = false := HX16.out.frozen 7
           have mc8 : w6.cell? ⟨w.heap.size + 1, 8, none⟩ = some (.bool false) := HX16.out.cell 8
           have mf8 : w6.frozen? ⟨w.heap.size + 1, 8, none⟩ = false := HX16.out.frozen 8
           have mc9 : w6.cell? ⟨w.heap.size + 1, 9, none⟩ = some (.slice none 0 0) := HX16.out.cell 9
           have mf9 : w6.frozen? ⟨w.heap.size + 1, 9, none⟩ = false := HX16.out.frozen 9
           have HBF := bel_trans HBWR HB6
           clear hcs ht0 hl0 hk1 hk2 ho6 hcc))
        go_wp2_with (
          (go_at_call 21
           ((with_reducible refine (wz_99 _ f0.n).mono ?_); rintro e w8 ⟨rfl, hb8⟩)
           obtain ⟨k68, hx08, hx18⟩ := rd_tail0 [(1, .int .u32 f0.n)] HX06.out HX16.out hb8
           have HX08 := hid hx08
           have HX18 := hid hx18
           have K68 := hid k68
           have HB8 : Hid (Below w.heap.size w w8) := hid (HBF.out.trans ((K68.out.below (by have := HX16.out.lt; omega)).mono (by omega)))
           clear hx08 hx18 k68 hb8
           have rc0 : w8.cell? ⟨w.heap.size, 0, none⟩ = some (.int .i64 0) := HX08.out.cell 0
           have rf0 : w8.frozen? ⟨w.heap.size, 0, none⟩ = false := HX08.out.frozen 0
           have rc1 : w8.cell? ⟨w.heap.size, 1, none⟩ = some (.int .u32 0) := HX08.out.cell 1
           have rf1 : w8.frozen? ⟨w.heap.size, 1, none⟩ = false := HX08.out.frozen 1
           have rc2 : w8.cell? ⟨w.heap.size, 2, none⟩ = some (.int .u32 0) := HX08.out.cell 2
           have rf2 : w8.frozen? ⟨w.heap.size, 2, none⟩ = false := HX08.out.frozen 2
           have rc3 : w8.cell? ⟨w.heap.size, 3, none⟩ = some (.int .u32 0) := HX08.out.cell 3
           have rf3 : w8.frozen? ⟨w.heap.size, 3, none⟩ = false := HX08.out.frozen 3
           have rc4 : w8.cell? ⟨w.heap.size, 4, none⟩ = some (.int .u32 0) := HX08.out.cell 4
           have rf4 : w8.frozen? ⟨w.heap.size, 4, none⟩ = false := HX08.out.frozen 4
           have rc5 : w8.cell? ⟨w.heap.size, 5, none⟩ = some (.int .u32 0) := HX08.out.cell 5
           have rf5 : w8.frozen? ⟨w.heap.size, 5, none⟩ = false := HX08.out.frozen 5
           have rc6 : w8.cell? ⟨w.heap.size, 6, none⟩ = some (.string ⟨#[]⟩) := HX08.out.cell 6
           have rf6 : w8.frozen? ⟨w.heap.size, 6, none⟩ = false := HX08.out.frozen 6
           have rc7 : w8.cell? ⟨w.heap.size, 7, none⟩ = some (.string ⟨#[]⟩) := HX08.out.cell 7
           have rf7 : w8.frozen? ⟨w.heap.size, 7, none⟩ = false := HX08.out.frozen 7
           have rc8 : w8.cell? ⟨w.heap.size, 8, none⟩ = some (.bool false) := HX08.out.cell 8
           have rf8 : w8.frozen? ⟨w.heap.size, 8, none⟩ = false := HX08.out.frozen 8
           have rc9 : w8.cell? ⟨w.heap.size, 9, none⟩ = some (.slice none 0 0) := HX08.out.cell 9
           have rf9 : w8.frozen? ⟨w.heap.size, 9, none⟩ = false := HX08.out.frozen 9
           have gc0 : w8.cell? ⟨w.heap.size + 1, 0, none⟩ = some (.int .i64 99) := HX18.out.cell 0
           have gc1 : w8.cell? ⟨w.heap.size + 1, 1, none⟩ = some (.int .u32 f0.n) := HX18.out.cell 1
           have gc2 : w8.cell? ⟨w.heap.size + 1, 2, none⟩ = some (.int .u32 0) := HX18.out.cell 2
           have gc3 : w8.cell? ⟨w.heap.size + 1, 3, none⟩ = some (.int .u32 0) := HX18.out.cell 3
           have gc4 : w8.cell? ⟨w.heap.size + 1, 4, none⟩ = some (.int .u32 0) := HX18.out.cell 4
           have gc5 : w8.cell? ⟨w.heap.size + 1, 5, none⟩ = some (.int .u32 0) := HX18.out.cell 5
           have gc6 : w8.cell? ⟨w.heap.size + 1, 6, none⟩ = some (.string ⟨#[]⟩) := HX18.out.cell 6
           have gc7 : w8.cell? ⟨w.heap.size + 1, 7, none⟩ = some (.string ⟨#[]⟩) := HX18.out.cell 7
           have gc8 : w8.cell? ⟨w.heap.size + 1, 8, none⟩ = some (.bool false) := HX18.out.cell 8
           have gc9 : w8.cell? ⟨w.heap.size + 1, 9, none⟩ = some (.slice none 0 0) := HX18.out.cell 9
           ))
        refine bodyPost_ret (v := .tuple #[.agg #[.int .i64 99, .int .u32 f0.n, .int .u32 0, .int .u32 0, .int .u32 0, .int .u32 0, .string ⟨#[]⟩, .string ⟨#[]⟩, .bool false, .slice none 0 0], .int .i64 0]) (by simp [results, Tryd.results16, go_sem, rc0, rc1, rc2, rc3, rc4, rc5, rc6, rc7, rc8, rc9]) rfl ?_
        rw [show decF ((99 : UInt8) :: r) = (0, { zeroM with kind := 99, chan := f0.n }) from HE.out]
        exact decodeR_ok { zeroM with kind := 99, chan := f0.n } none 0 0 rfl (World.ownsRow_nil _ _ _ _) (bel_ten HB8.out (Nat.le_refl _) _ _ _ _ _ _ _ _ _ _)
      · have HE : Hid (decF ((99 : UInt8) :: r) = (er, zeroM)) := by show _ = _; rw [HDE.out, if_neg her]
        have hz : (er != 0) = true := by simpa using her
        clear her HDE
        go_wp2_with (
          (go_at_call 24
           ((with_reducible refine (rread_x wr A' c' 2 [1, 3] (some ⟨bk, o, none⟩) c n ((99 : UInt8) :: r) er fs fn HRD HFN.out rfl HN HLK (by omega) HSB hl).mono ?_); rintro e w6 ⟨A6, c6, rfl, hcs, HB6⟩)
           have HX06 := box_p HX0r HB6
           have rc0 : w6.cell? ⟨w.heap.size, 0, none⟩ = some (.int .i64 0) := HX06.out.cell 0
           have rf0 : w6.frozen? ⟨w.heap.size, 0, none⟩ = false := HX06.out.frozen 0
           have rc1 : w6.cell? ⟨w.heap.size, 1, none⟩ = some (.int .u32 0) := HX06.out.cell 1
           have rf1 : w6.frozen? ⟨w.heap.size, 1, none⟩ = false := HX06.out.frozen 1
           have rc2 : w6.cell? ⟨w.heap.size, 2, none⟩ = some (.int .u32 0) := HX06.out.cell 2
           have rf2 : w6.frozen? ⟨w.heap.size, 2, none⟩ = false := HX06.out.frozen 2
           have rc3 : w6.cell? ⟨w.heap.size, 3, none⟩ = some (.int .u32 0) := HX06.out.cell 3
           have rf3 : w6.frozen? ⟨w.heap.size, 3, none⟩ = false := HX06.out.frozen 3
           have rc4 : w6.cell? ⟨w.heap.size, 4, none⟩ = some (.int .u32 0) := HX06.out.cell 4
           have rf4 : w6.frozen? ⟨w.heap.size, 4, none⟩ = false := HX06.out.frozen 4
           have rc5 : w6.cell? ⟨w.heap.size, 5, none⟩ = some (.int .u32 0) := HX06.out.cell 5
           have rf5 : w6.frozen? ⟨w.heap.size, 5, none⟩ = false := HX06.out.frozen 5
           have rc6 : w6.cell? ⟨w.heap.size, 6, none⟩ = some (.string ⟨#[]⟩) := HX06.out.cell 6
           have rf6 : w6.frozen? ⟨w.heap.size, 6, none⟩ = false := HX06.out.frozen 6
           have rc7 : w6.cell? ⟨w.heap.size, 7, none⟩ = some (.string ⟨#[]⟩) := HX06.out.cell 7
           have rf7 : w6.frozen? ⟨w.heap.size, 7, none⟩ = false := HX06.out.frozen 7
           have rc8 : w6.cell? ⟨w.heap.size, 8, none⟩ = some (.bool false) := HX06.out.cell 8
           have rf8 : w6.frozen? ⟨w.heap.size, 8, none⟩ = false := HX06.out.frozen 8
           have rc9 : w6.cell? ⟨w.heap.size, 9, none⟩ = some (.slice none 0 0) := HX06.out.cell 9
           have rf9 : w6.frozen? ⟨w.heap.size, 9, none⟩ = false := HX06.out.frozen 9
           have HBF := bel_trans HBWR HB6
           clear hcs))
        refine bodyPost_ret (v := .tuple #[.agg (zeroM.cells none 0), .int .i64 er]) (by simp [results, Tryd.results16, go_sem, zeroM, Mg.cells, rc0, rc1, rc2, rc3, rc4, rc5, rc6, rc7, rc8, rc9]) rfl ?_
        rw [HE.out]
        exact decodeR_err _ _ _ (bel_ten HBF.out (Nat.le_refl _) _ _ _ _ _ _ _ _ _ _)
theorem wz_100 (W : World) (a0 : Nat)  :
    Calls Tryd.prog 21 #[.agg #[.int .i64 100, .int .u32 a0, .int .u32 0, .int .u32 0, .int .u32 0, .int .u32 0, .string ⟨#[]⟩, .string ⟨#[]⟩, .bool false, .slice none 0 0]] W fun e w' => e = .returned (.bool (true)) ∧ Below W.heap.size W w' :=
  words21_100 a0 0 0 0 0 0 0 ⟨#[]⟩ ⟨#[]⟩ false none W

set_option maxHeartbeats 8000000 in
set_option maxRecDepth 100000 in
theorem rdec_100 (w : World) (A : Option Addr) (c n : Nat) (r : List UInt8) (hn : ((100 : UInt8) :: r).length = n) (hb : SlB w w.heap.size A c ((100 : UInt8) :: r)) (hl : n ≤ 100000) :
    Calls Tryd.prog 16 #[.slice A n c] w (DecodeR (decF ((100 : UInt8) :: r)) w) := by
  have HB := hid hb
  have HN := hid hn
  obtain ⟨bk, o, rfl, hbk, hcells⟩ := hb.2.2.2 (by simp [bv])
  have cb : w.cell? ⟨bk, o, none⟩ = some (.int .u8 100) := hcells 0 _ rfl
  have cb1 : ∀ ob, (w.alloc ob).cell? ⟨bk, o, none⟩ = some (.int .u8 100) := fun ob => ((bel1 w ob).cell (p := ⟨bk, o, none⟩) hbk).trans cb
  have hn1 : 0 < n := by rw [← hn]; simp
  have hn2 : (0 : Int) < n := by omega
  have hn3 : ((n : Int) == 0) = false := by simp; omega
  clear hcells hb hn
  obtain ⟨i3, hi3, hz3, hz31, hz32⟩ := info_parts Tryd.info3m
  obtain ⟨⟨er, fs⟩, HRD⟩ : ∃ x, Hid (readF [1, 3] ((100 : UInt8) :: r) = x) := ⟨_, hid rfl⟩
  have HDE : Hid (decF ((100 : UInt8) :: r) = if er = 0 then putsF [.chan] (fs.drop 1) { zeroM with kind := 100 } else (er, zeroM)) := by
    have h : decF ((100 : UInt8) :: r) = if (readF [1, 3] ((100 : UInt8) :: r)).1 = 0 then putsF [.chan] ((readF [1, 3] ((100 : UInt8) :: r)).2.drop 1) { zeroM with kind := 100 } else ((readF [1, 3] ((100 : UInt8) :: r)).1, zeroM) := rfl
    rw [HRD.out] at h
    exact h
  obtain ⟨fn, HFN⟩ : ∃ x, Hid (fs.length = x) := ⟨_, hid rfl⟩
  go_enter Tryd.func16, Tryd.ntmps16
  go_wp2_with (
    go_at_call 20
    ((with_reducible refine (fz_100 _).mono ?_); rintro e w1 ⟨HB1, A1, rfl, HF1⟩)
    have HX0 : Hid (Box w1 w.heap.size 25 #[.int .i64 0, .int .u32 0, .int .u32 0, .int .u32 0, .int .u32 0, .int .u32 0, .string ⟨#[]⟩, .string ⟨#[]⟩, .bool false, .slice none 0 0]) := box_below (box_below (Box.new w 25 _) (bel1 _ _)) HB1.out
    have HX1 : Hid (Box w1 (w.heap.size + 1) 25 #[.int .i64 100, .int .u32 0, .int .u32 0, .int .u32 0, .int .u32 0, .int .u32 0, .string ⟨#[]⟩, .string ⟨#[]⟩, .bool false, .slice none 0 0]) := by
      have h := box_below (Box.new (w.alloc (.cells #[.int .i64 0, .int .u32 0, .int .u32 0, .int .u32 0, .int .u32 0, .int .u32 0, .string ⟨#[]⟩, .string ⟨#[]⟩, .bool false, .slice none 0 0] 25)) 25 #[.int .i64 100, .int .u32 0, .int .u32 0, .int .u32 0, .int .u32 0, .int .u32 0, .string ⟨#[]⟩, .string ⟨#[]⟩, .bool false, .slice none 0 0]) HB1.out
      have e : (w.alloc (.cells #[.int .i64 0, .int .u32 0, .int .u32 0, .int .u32 0, .int .u32 0, .int .u32 0, .string ⟨#[]⟩, .string ⟨#[]⟩, .bool false, .slice none 0 0] 25)).heap.size = w.heap.size + 1 := by simp
      rw [e] at h
      exact h
    have HBW := bel_trans (bel2_h w _ _) HB1
    have hsz1 : w.heap.size + 2 ≤ w1.heap.size := by have := HB1.out.size; simpa using this)
  go_loopw [32, 7] (fun i v wr => ∃ (k : Nat) (A' : Option Addr) (c' : Nat), k ≤ 1 ∧ i = .int .i64 k ∧ v = .slice A' (k + 1) c' ∧ Hid (Below w1.heap.size w1 wr) ∧ Hid (wr.ownsRow w1.heap.size 3 1 (.slice A' (k + 1) c') (k + 1) (kv (1 :: (([3] : List Int).take k))))) (fun i _ _ => 1 - (intOf i).toNat)
  case atStart => exact ⟨0, _, _, Nat.zero_le _, rfl, rfl, bel1 w1 _, World.ownsRow_lit (base := w1.heap.size) (e := 3) (size := 1) w1 #[.int .i64 1] 1 (Nat.le_refl _) (by unfold maxLen; omega) (by simp)⟩
  case round =>
    obtain ⟨k, A', c', hk, rfl, rfl, HBR, HO⟩ := hrel
    by_cases hlt : k < 1
    · obtain ⟨lb, lo, rfl, hlb, hlc⟩ := (HF1.out.below HBR.out) (by simp)
      obtain ⟨fn0, tn, tc, ln, lc, tA, lA, d0, d1, d2, d3⟩ := hlc k hlt
      have HT : Hid (([3] : List Int).take (k + 1) = ([3] : List Int).take k ++ [([3] : List Int)[k]]) := take_snoc ([3] : List Int) k hlt
      clear hlc
      have hszr : w1.heap.size ≤ wr.heap.size := HBR.out.size
      obtain ⟨kd, HK⟩ : ∃ z, Hid (([3] : List Int)[k] = z) := ⟨_, hid rfl⟩
      rw [HK.out] at d0 HT
      go_wp2_with (
        at_builtin
        go_loud (
        refine wpList_app _ rfl (.tmp 36) (.tmp 39) 64 rfl w1.heap.size 3 i3 _ 1 8 Tryd.underlying64 hi3 hz3 hz31 hz32 rfl ?g1 A' (k + 1) c' (kv (1 :: ([3] : List Int).take k)) rfl ((HO.out.alloc _).alloc _) _ _ 1 1 [.int .i64 kd] rfl ?g2 (lies_l2 _ _ _ _) (one1m _) ?g3 ?g4 ?g5 ?_
        case g1 => omega
        case g2 => rfl
        case g3 => unfold maxLen; omega
        case g4 => omega
        case g5 => simp; omega
        intro A6 c6 w6 ho6 hg6
        have HB6 := hid (HBR.out.trans (((((Kept.refl w1.heap.size [3] wr).alloc _).alloc _).grown hg6 (fun q hq => by obtain ⟨a, cs, b⟩ := own_box ((HO.out.alloc _).alloc _) q hq; exact ⟨a, 3, cs, by simp, b⟩)).below hszr))
        have HO6 := hid ho6
        clear ho6 hg6))
      go_roundw
      case rel => exact ⟨k + 1, A6, c6, by omega, by go_num, rfl, HB6, hid (by rw [HT.out]; simpa [kv] using HO6.out)⟩
      case measure => simp [intOf]; omega
    · have hkn : k = 1 := by omega
      subst hkn
      have hown := HO.out
      have HLK : Hid (Lies wr wr.heap.size A' (([1, 3] : List Int).map (Value.int .i64))) := hid (Lies.own hown)
      have HBWR := bel_trans HBW HBR
      have HSB : Hid (SlB wr wr.heap.size (some ⟨bk, o, none⟩) c ((100 : UInt8) :: r)) := slb_at HB HBWR
      have HX0r := box_p HX0 HBR
      have HX1r := box_p HX1 HBR
      have hszr : w1.heap.size ≤ wr.heap.size := HBR.out.size
      clear hown HO HX0 HX1 HF1
      by_cases her : er = 0
      · subst her
        have HP : Hid (decF ((100 : UInt8) :: r) = putsF [.chan] (fs.drop 1) { zeroM with kind := 100 }) := by show _ = _; rw [HDE.out, if_pos rfl]
        obtain ⟨xs, rfl, hxk, hbit⟩ := readF_facts (ps := [.chan]) (b0 := 100) (r := r) HRD.out
        obtain ⟨f0, rfl⟩ : ∃ f0, xs = [f0] := by
          have hlen := congrArg List.length hxk
          simp only [List.length_map] at hlen
          match xs, hlen with
          | [f0], _ => exact ⟨_, rfl⟩
        obtain ⟨n0, N0⟩ : ∃ x, Hid (f0.text.length = x) := ⟨_, hid rfl⟩
        clear hbit hxk
        obtain rfl : fn = 2 := HFN.out.symm
        have HE : Hid (decF ((100 : UInt8) :: r) = (0, { zeroM with kind := 100, chan := f0.n })) := by
          show _ = _
          rw [HP.out]
          first | (simp [putsF, Pl.ok, Pl.put]; done) | (simp [putsF, Pl.ok, Pl.put]; rfl) | rfl
        clear HP HDE
        go_wp2_with (
          (go_at_call 24
           ((with_reducible refine (rread_x wr A' c' 2 [1, 3] (some ⟨bk, o, none⟩) c n ((100 : UInt8) :: r) 0 (⟨1, ((100 : UInt8)).toNat, [], []⟩ :: [f0]) 2 HRD rfl rfl HN HLK (by omega) HSB hl).mono ?_); rintro e w6 ⟨A6, c6, rfl, hcs, HB6⟩)
           obtain ⟨cs, ho6, hf6⟩ := hcs.out
           obtain ⟨tAk, tck, lAk, lck, rk, rfl, hk1, hk2, tA0, tc0, lA0, lc0, r0, rfl, ht0, hl0, hre⟩ := hf6
           have hre : _ = [] := hre
           subst hre
           obtain ⟨fb, rfl, hfb, hfl, hc6, hc6m, hcc⟩ := own_at ho6 (by simp)
           have hfb1 : w.heap.size + 1 < fb := by omega
           have hfb2 : ¬ fb = w.heap.size + 1 := by omega
           have hfb3 : ¬ w.heap.size + 1 = fb := by omega
           have hfb4 : ¬ w.heap.size = fb := by omega
           have hci : (2 : Int) ≤ c6 := by have : (2 : Nat) ≤ c6 := hc6; omega
           have hc1 : ¬ (c6 = 1) := by have : (2 : Nat) ≤ c6 := hc6; omega
           unfold maxLen at hc6m
           have HX06 := box_p HX0r HB6
           have HX16 := box_p HX1r HB6
           have y01 : w6.cell? ⟨fb, 5, none⟩ = some (.int .u32 f0.n) := hcc 5 _ rfl
           have y02 : w6.cell? ⟨fb, 6, none⟩ = some (.slice tA0 n0 tc0) := by have h := hcc 6 _ rfl; rw [N0.out] at h; exact h
           have mc0 : w6.cell? ⟨w.heap.size + 1, 0, none⟩ = some (.int .i64 100) := HX16.out.cell 0
           have mf0 : w6.frozen? ⟨w.heap.size + 1, 0, none⟩ = false := HX16.out.frozen 0
           have mc1 : w6.cell? ⟨w.heap.size + 1, 1, none⟩ = some (.int .u32 0) := HX16.out.cell 1
           have mf1 : w6.frozen? ⟨w.heap.size + 1, 1, none⟩ = false := HX16.out.frozen 1
           have mc2 : w6.cell? ⟨w.heap.size + 1, 2, none⟩ = some (.int .u32 0) := HX16.out.cell 2
           have mf2 : w6.frozen? ⟨w.heap.size + 1, 2, none⟩ = false := HX16.out.frozen 2
           have mc3 : w6.cell? ⟨w.heap.size + 1, 3, none⟩ = some (.int .u32 0) := HX16.out.cell 3
           have mf3 : w6.frozen? ⟨w.heap.size + 1, 3, none⟩ = false := HX16.out.frozen 3
           have mc4 : w6.cell? ⟨w.heap.size + 1, 4, none⟩ = some (.int .u32 0) := HX16.out.cell 4
           have mf4 : w6.frozen? ⟨w.heap.size + 1, 4, none⟩ = false := HX16.out.frozen 4
           have mc5 : w6.cell? ⟨w.heap.size + 1, 5, none⟩ = some (.int .u32 0) := HX16.out.cell 5
           have mf5 : w6.frozen? ⟨w.heap.size + 1, 5, none⟩ = false := HX16.out.frozen 5
           have mc6 : w6.cell? ⟨w.heap.size + 1, 6, none⟩ = some (.string ⟨#[]⟩) := HX16.out.cell 6
           have mf6 : w6.frozen? ⟨w.heap.size + 1, 6, none⟩ = false := HX16.out.frozen 6
           have mc7 : w6.cell? ⟨w.heap.size + 1, 7, none⟩ = some (.string ⟨#[]⟩) := HX16.out.cell 7
           have mf7 : w6.frozen? ⟨w.heap.size + 1, 7, none⟩ = false := HX16.out.frozen 7
           have mc8 : w6.cell? ⟨w.heap.size + 1, 8, none⟩ = some (.bool false) := HX16.out.cell 8
           have mf8 : w6.frozen? ⟨w.heap.size + 1, 8, none⟩ = false := HX16.out.frozen 8
           have mc9 : w6.cell? ⟨w.heap.size + 1, 9, none⟩ = some (.slice none 0 0) := HX16.out.cell 9
           have mf9 : w6.frozen? ⟨w.heap.size + 1, 9, none⟩ = false := HX16.out.frozen 9
           have HBF := bel_trans HBWR HB6
           clear hcs ht0 hl0 hk1 hk2 ho6 hcc))
        go_wp2_with (
          (go_at_call 21
           ((with_reducible refine (wz_100 _ f0.n).mono ?_); rintro e w8 ⟨rfl, hb8⟩)
           obtain ⟨k68, hx08, hx18⟩ := rd_tail0 [(1, .int .u32 f0.n)] HX06.out HX16.out hb8
           have HX08 := hid hx08
           have HX18 := hid hx18
           have K68 := hid k68
           have HB8 : Hid (Below w.heap.size w w8) := hid (HBF.out.trans ((K68.out.below (by have := HX16.out.lt; omega)).mono (by omega)))
           clear hx08 hx18 k68 hb8
           have rc0 : w8.cell? ⟨w.heap.size, 0, none⟩ = some (.int .i64 0) := HX08.out.cell 0
           have rf0 : w8.frozen? ⟨w.heap.size, 0, none⟩ = false := HX08.out.frozen 0
           have rc1 : w8.cell? ⟨w.heap.size, 1, none⟩ = some (.int .u32 0) := HX08.out.cell 1
           have rf1 : w8.frozen? ⟨w.heap.size, 1, none⟩ = false := HX08.out.frozen 1
           have rc2 : w8.cell? ⟨w.heap.size, 2, none⟩ = some (.int .u32 0) := HX08.out.cell 2
           have rf2 : w8.frozen? ⟨w.heap.size, 2, none⟩ = false := HX08.out.frozen 2
           have rc3 : w8.cell? ⟨w.heap.size, 3, none⟩ = some (.int .u32 0) := HX08.out.cell 3
           have rf3 : w8.frozen? ⟨w.heap.size, 3, none⟩ = false := HX08.out.frozen 3
           have rc4 : w8.cell? ⟨w.heap.size, 4, none⟩ = some (.int .u32 0) := HX08.out.cell 4
           have rf4 : w8.frozen? ⟨w.heap.size, 4, none⟩ = false := HX08.out.frozen 4
           have rc5 : w8.cell? ⟨w.heap.size, 5, none⟩ = some (.int .u32 0) := HX08.out.cell 5
           have rf5 : w8.frozen? ⟨w.heap.size, 5, none⟩ = false := HX08.out.frozen 5
           have rc6 : w8.cell? ⟨w.heap.size, 6, none⟩ = some (.string ⟨#[]⟩) := HX08.out.cell 6
           have rf6 : w8.frozen? ⟨w.heap.size, 6, none⟩ = false := HX08.out.frozen 6
           have rc7 : w8.cell? ⟨w.heap.size, 7, none⟩ = some (.string ⟨#[]⟩) := HX08.out.cell 7
           have rf7 : w8.frozen? ⟨w.heap.size, 7, none⟩ = false := HX08.out.frozen 7
           have rc8 : w8.cell? ⟨w.heap.size, 8, none⟩ = some (.bool false) := HX08.out.cell 8
           have rf8 : w8.frozen? ⟨w.heap.size, 8, none⟩ = false := HX08.out.frozen 8
           have rc9 : w8.cell? ⟨w.heap.size, 9, none⟩ = some (.slice none 0 0) := HX08.out.cell 9
           have rf9 : w8.frozen? ⟨w.heap.size, 9, none⟩ = false := HX08.out.frozen 9
           have gc0 : w8.cell? ⟨w.heap.size + 1, 0, none⟩ = some (.int .i64 100) := HX18.out.cell 0
           have gc1 : w8.cell? ⟨w.heap.size + 1, 1, none⟩ = some (.int .u32 f0.n) := HX18.out.cell 1
           have gc2 : w8.cell? ⟨w.heap.size + 1, 2, none⟩ = some (.int .u32 0) := HX18.out.cell 2
           have gc3 : w8.cell? ⟨w.heap.size + 1, 3, none⟩ = some (.int .u32 0) := HX18.out.cell 3
           have gc4 : w8.cell? ⟨w.heap.size + 1, 4, none⟩ = some (.int .u32 0) := HX18.out.cell 4
           have gc5 : w8.cell? ⟨w.heap.size + 1, 5, none⟩ = some (.int .u32 0) := HX18.out.cell 5
           have gc6 : w8.cell? ⟨w.heap.size + 1, 6, none⟩ = some (.string ⟨#[]⟩) := HX18.out.cell 6
           have gc7 : w8.cell? ⟨w.heap.size + 1, 7, none⟩ = some (.string ⟨#[]⟩) := HX18.out.cell 7
           have gc8 : w8.cell? ⟨w.heap.size + 1, 8, none⟩ = some (.bool false) := HX18.out.cell 8
           have gc9 : w8.cell? ⟨w.heap.size + 1, 9, none⟩ = some (.slice none 0 0) := HX18.out.cell 9
           ))
        refine bodyPost_ret (v := .tuple #[.agg #[.int .i64 100, .int .u32 f0.n, .int .u32 0, .int .u32 0, .int .u32 0, .int .u32 0, .string ⟨#[]⟩, .string ⟨#[]⟩, .bool false, .slice none 0 0], .int .i64 0]) (by simp [results, Tryd.results16, go_sem, rc0, rc1, rc2, rc3, rc4, rc5, rc6, rc7, rc8, rc9]) rfl ?_
        rw [show decF ((100 : UInt8) :: r) = (0, { zeroM with kind := 100, chan := f0.n }) from HE.out]
        exact decodeR_ok { zeroM with kind := 100, chan := f0.n } none 0 0 rfl (World.ownsRow_nil _ _ _ _) (bel_ten HB8.out (Nat.le_refl _) _ _ _ _ _ _ _ _ _ _)
      · have HE : Hid (decF ((100 : UInt8) :: r) = (er, zeroM)) := by show _ = _; rw [HDE.out, if_neg her]
        have hz : (er != 0) = true := by simpa using her
        clear her HDE
        go_wp2_with (
          (go_at_call 24
           ((with_reducible refine (rread_x wr A' c' 2 [1, 3] (some ⟨bk, o, none⟩) c n ((100 : UInt8) :: r) er fs fn HRD HFN.out rfl HN HLK (by omega) HSB hl).mono ?_); rintro e w6 ⟨A6, c6, rfl, hcs, HB6⟩)
           have HX06 := box_p HX0r HB6
           have rc0 : w6.cell? ⟨w.heap.size, 0, none⟩ = some (.int .i64 0) := HX06.out.cell 0
           have rf0 : w6.frozen? ⟨w.heap.size, 0, none⟩ = false := HX06.out.frozen 0
           have rc1 : w6.cell? ⟨w.heap.size, 1, none⟩ = some (.int .u32 0) := HX06.out.cell 1
           have rf1 : w6.frozen? ⟨w.heap.size, 1, none⟩ = false := HX06.out.frozen 1
           have rc2 : w6.cell? ⟨w.heap.size, 2, none⟩ = some (.int .u32 0) := HX06.out.cell 2
           have rf2 : w6.frozen? ⟨w.heap.size, 2, none⟩ = false := HX06.out.frozen 2
           have rc3 : w6.cell? ⟨w.heap.size, 3, none⟩ = some (.int .u32 0) := HX06.out.cell 3
           have rf3 : w6.frozen? ⟨w.heap.size, 3, none⟩ = false := HX06.out.frozen 3
           have rc4 : w6.cell? ⟨w.heap.size, 4, none⟩ = some (.int .u32 0) := HX06.out.cell 4
           have rf4 : w6.frozen? ⟨w.heap.size, 4, none⟩ = false := HX06.out.frozen 4
           have rc5 : w6.cell? ⟨w.heap.size, 5, none⟩ = some (.int .u32 0) := HX06.out.cell 5
           have rf5 : w6.frozen? ⟨w.heap.size, 5, none⟩ = false := HX06.out.frozen 5
           have rc6 : w6.cell? ⟨w.heap.size, 6, none⟩ = some (.string ⟨#[]⟩) := HX06.out.cell 6
           have rf6 : w6.frozen? ⟨w.heap.size, 6, none⟩ = false := HX06.out.frozen 6
           have rc7 : w6.cell? ⟨w.heap.size, 7, none⟩ = some (.string ⟨#[]⟩) := HX06.out.cell 7
           have rf7 : w6.frozen? ⟨w.heap.size, 7, none⟩ = false := HX06.out.frozen 7
           have rc8 : w6.cell? ⟨w.heap.size, 8, none⟩ = some (.bool false) := HX06.out.cell 8
           have rf8 : w6.frozen? ⟨w.heap.size, 8, none⟩ = false := HX06.out.frozen 8
           have rc9 : w6.cell? ⟨w.heap.size, 9, none⟩ = some (.slice none 0 0) := HX06.out.cell 9
           have rf9 : w6.frozen? ⟨w.heap.size, 9, none⟩ = false := HX06.out.frozen 9
           have HBF := bel_trans HBWR HB6
           clear hcs))
        refine bodyPost_ret (v := .tuple #[.agg (zeroM.cells none 0), .int .i64 er]) (by simp [results, Tryd.results16, go_sem, zeroM, Mg.cells, rc0, rc1, rc2, rc3, rc4, rc5, rc6, rc7, rc8, rc9]) rfl ?_
        rw [HE.out]
        exact decodeR_err _ _ _ (bel_ten HBF.out (Nat.le_refl _) _ _ _ _ _ _ _ _ _ _)

end Go.Proofs.YtlmdbcmaophhnaaDoor
