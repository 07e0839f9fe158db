import Derived.Test.YtibkbcffoabhfaaLA
namespace Go.Proofs.Ytibkbcffoabhfaa
open Go.RowKit

theorem qb_one {P : Prop} (h : P) : Hid P := h
theorem pl_quiet {w2 w : World} {S : Nat → Prop} {C : Cf} {g gm : Nat} {L L2 : List (List UInt8)} {ov ov2 : Bool} (h : Pl w2 w S C g gm L ov L2 ov2) (d : Nat) : Pl w2 (w.drewN d) S C g gm L ov L2 ov2 := by
  obtain ⟨rb, rm, f⟩ := h
  exact ⟨rb, rm, f.keep (bel_drewN (Below.refl _ _) d)⟩
theorem Pl.keep {w2 w w' : World} {S : Nat → Prop} {C : Cf} {g gm : Nat} {L L2 : List (List UInt8)} {ov ov2 : Bool} (h : Pl w2 w S C g gm L ov L2 ov2) (k : Below w.heap.size w w') : Pl w2 w' S C g gm L ov L2 ov2 := by
  obtain ⟨rb, rm, f⟩ := h
  exact ⟨rb, rm, f.keep k⟩
theorem Pl.mono {w2 w : World} {S S' : Nat → Prop} {C : Cf} {g gm : Nat} {L L2 : List (List UInt8)} {ov ov2 : Bool} (h : Pl w2 w S C g gm L ov L2 ov2) (hS : ∀ x, x < w.heap.size → S x → S' x) : Pl w2 w S' C g gm L ov L2 ov2 := by
  obtain ⟨rb, rm, f⟩ := h
  exact ⟨rb, rm, f.mono hS⟩
theorem Pl.bel {w2 w : World} {S : Nat → Prop} {C : Cf} {g gm : Nat} {L L2 : List (List UInt8)} {ov ov2 : Bool} (h : Pl w2 w S C g gm L ov L2 ov2) : Below w2.heap.size w2 w := by
  obtain ⟨rb, rm, f⟩ := h
  exact f.bel
theorem Pl.sums {w2 w : World} {S : Nat → Prop} {C : Cf} {g gm : Nat} {L L2 : List (List UInt8)} {ov ov2 : Bool} (h : Pl w2 w S C g gm L ov L2 ov2) : sumB L ≤ C.b ∧ C.b ≤ 65536 ∧ L.length ≤ 4096 := by
  obtain ⟨rb, rm, f⟩ := h
  have h1 := f.qu.ok
  have h2 := f.qu.sum
  have h3 := f.qu.cnt
  unfold Cf.ok at h1
  exact ⟨h2, by omega, by omega⟩
theorem Pl.turn {w2 w w' : World} {S : Nat → Prop} {C : Cf} {g gm : Nat} {L L2 : List (List UInt8)} {ov ov2 : Bool} {K : List Nat} (h : Pl w2 w S C g gm L ov L2 ov2) (k : But K w w') (hK : ∀ y ∈ K, (∃ base v n xs, w.ownsRow base 5 1 v n xs ∧ v.ownBlock = some y) ∧ ¬ S y ∧ w2.heap.size ≤ y) : Pl w2 w' S C g gm L ov L2 ov2 := by
  obtain ⟨rb, rm, f⟩ := h
  exact ⟨rb, rm, f.turn k hK⟩
/-- What the elements' blocks are in a round. -/
def Sr (B M : Nat) (k : Int) : Nat → Prop := fun x => x < B ∨ (k = 1 ∧ M ≤ x)
/-- The block of a row that was handed out, and is turned. -/
theorem mr_one {w2 w0 w : World} {A : Option Addr} {n c B M base : Nat} {k : Int} {xs : List UInt8} (hw : Below w2.heap.size w2 w0) (hn : xs.length = n) (ho : w0.ownsRow base 5 1 (.slice A n c) n (bv xs)) (hB : B ≤ base) (h2 : w2.heap.size ≤ base) (hk : k = 1 → n = 0 ∨ ∀ y, (Value.slice A n c).ownBlock = some y → y < M) (_m : Mr w0 w A n c) :
    ∀ y ∈ (if n = 0 then [] else (Value.slice A n c).ownBlock.toList), (∃ base v n xs, w0.ownsRow base 5 1 v n xs ∧ v.ownBlock = some y) ∧ ¬ Sr B M k y ∧ w2.heap.size ≤ y := by
  intro y hy
  split at hy
  · simp at hy
  · have hy' : (Value.slice A n c).ownBlock = some y := by simpa using hy
    have h1 := (ho.lt y hy').1
    refine ⟨⟨base, _, n, _, ho, hy'⟩, fun hs => ?_, by omega⟩
    rcases hs with hs | ⟨hk1, hs⟩
    · omega
    · rcases hk hk1 with e | e
      · omega
      · have := e y hy'
        omega

set_option maxHeartbeats 16000000 in
set_option maxRecDepth 100000 in
theorem plays_walk (w : World) (C : Cf) (hok : Hid C.ok) (A : Option Addr) (c n : Nat) (l : List OpV) (hl : Hid (OpsV w w.heap.size A l)) (hn : Hid (l.length = n)) (hl2 : n ≤ maxLen) (hg : Hid (greatO l = false))
    (hsz : Hid (∀ o ∈ l, o.2.length ≤ 140737488355328)) :
    Calls Try.prog 3 #[.agg #[.int .i64 C.b, .int .i64 C.r, .int .i64 C.h, .int .i64 C.l], .slice A n c] w fun e w' => e = .returned (.bool true) ∧ Hid (Below w.heap.size w w') := by
  obtain ⟨i0, hi0, hz0, hz1, hz2⟩ := info_parts Try.info5
  have h100 := great_len hg.out
  rw [hn.out] at h100
  have HB0 : Hid (Below w.heap.size w (w.alloc (.cells #[.int .i64 C.b, .int .i64 C.r, .int .i64 C.h, .int .i64 C.l] 23))) := (Below.refl _ _).alloc (Nat.le_refl _) _
  have HX0 : Hid (Box (w.alloc (.cells #[.int .i64 C.b, .int .i64 C.r, .int .i64 C.h, .int .i64 C.l] 23)) w.heap.size 23 #[.int .i64 C.b, .int .i64 C.r, .int .i64 C.h, .int .i64 C.l]) := Box.new _ _ _
  have HL0 := ops_at hl HB0
  go_enter Try.func3, Try.ntmps3
  go_wp2_with (first
    | (go_at_call 7
       ((with_reducible refine (alive_any _).mono ?_); rintro e w1 ⟨rfl, HB1⟩)
       have HL1 : Hid (OpsV w1 w1.heap.size A l) := ops_at HL0 HB1
       have hx1 := hid (box_below HX0.out HB1.out))
    | (go_at_call 8
       ((with_reducible refine (great_any _ A c n l false HL1 hn hl2 hg).mono ?_); rintro e w2 ⟨rfl, HB2⟩)
       have HX2 := hid (box_below hx1.out HB2.out)
       have HL2 : Hid (OpsV w2 w2.heap.size A l) := ops_at HL1 HB2
       have HBw2 := bel_trans HB0 (bel_trans HB1 HB2)
       have c0 := HX2.out.cell 0
       have c1 := HX2.out.cell 1
       have c2 := HX2.out.cell 2
       have c3 := HX2.out.cell 3)
    | (go_at_call 9
       ((with_reducible refine (made_any _ hok).mono ?_); rintro e w3 ⟨g, rfl, HQ3, hg3, HB3⟩)
       have hx3 := box_below HX2.out HB3.out
       have c30 := hx3.cell 0
       have c31 := hx3.cell 1
       have c32 := hx3.cell 2
       have c33 := hx3.cell 3
       clear hx3)
    | (go_at_call 10
       ((with_reducible refine (rnew_any _ Tt hok).mono ?_); rintro e w4 ⟨gm, rfl, HR4, hg4, HB4⟩)
       have HP4 : Hid (Pl w2 w4 Tt C g gm [] false [] false) := ⟨none, none, (HQ3.out Tt).keep0 (But.of_below HB4.out []), HR4.out, by simp, ⟨hg3, Nat.le_trans HB3.out.size hg4⟩, by simp, HB3.out.trans (HB4.out.mono HB3.out.size)⟩))
  clear c0 c1 c2 c3 hx1 c30 c31 c32 c33
  go_loopw [55] (fun i wr => ∃ (k : Nat) (L : List (List UInt8)) (ov : Bool), k ≤ n ∧ i = .int .i64 k ∧ Hid (Pl w2 wr Tt C g gm L ov L ov)) (fun i _ => n - (intOf i).toNat)
  case atStart => exact ⟨0, [], false, Nat.zero_le _, rfl, HP4.out⟩
  case round =>
    obtain ⟨k, L, ov, hk, rfl, HP⟩ := hrel
    have HBr := hid HP.out.bel
    by_cases hlt : k < n
    · have hkl : k < l.length := by rw [hn.out]; exact hlt
      obtain ⟨b0, o0, rfl, hbw, hcells⟩ := HL2.out (by intro e; rw [e] at hkl; simp at hkl)
      obtain ⟨tA, tc, hsl, e0, e2⟩ := hcells k hkl
      have cc0 := (HBr.out.cell (p := ⟨b0, _, none⟩) hbw).trans e0
      have cc2 := (HBr.out.cell (p := ⟨b0, _, none⟩) hbw).trans e2
      have hx47 := hsz.out _ (List.getElem_mem hkl)
      obtain ⟨bb, HBB⟩ : ∃ x, Hid (l[k].2 = x) := ⟨_, hid rfl⟩
      rw [HBB.out] at cc2 hsl hx47
      obtain ⟨x, HX⟩ : ∃ x : Nat, Hid (bb.length = x) := ⟨_, hid rfl⟩
      rw [HX.out] at cc2 hx47
      obtain ⟨kk, HKK⟩ : ∃ x : Int, Hid (l[k].1 = x) := ⟨_, hid rfl⟩
      rw [HKK.out] at cc0
      have HSL := hid hsl
      have i1 : (k : Int) < n := by omega
      clear e0 e2 hcells hsl
      obtain ⟨⟨out, ok, L', ov'⟩, HST⟩ : ∃ x, Hid (doF C kk bb L ov = x) := ⟨_, hid rfl⟩
      obtain ⟨ol, HOL⟩ : ∃ x : Nat, Hid (out.length = x) := ⟨_, hid rfl⟩
      obtain ⟨cnt, HCN⟩ : ∃ x : Nat, Hid (L'.length = x) := ⟨_, hid rfl⟩
      obtain ⟨us, HUS⟩ : ∃ x : Nat, Hid (sumB L' = x) := ⟨_, hid rfl⟩
      have hol : ol ≤ 65536 := by
        have h1 := HP.out.sums
        have h2 := do_len' h1.1 HST.out
        rw [HOL.out] at h2
        omega
      have HK1 : Hid (kk = 1 → ol = 0) := fun e => by rw [← HOL.out, do_out1 HST.out e]; rfl
      have HXo : Hid (Box (wr.alloc (.cells #[.int .i64 kk, .slice tA x tc] 36)) wr.heap.size 36 #[.int .i64 kk, .slice tA x tc]) := Box.new _ _ _
      have HPo : Hid (Pl w2 (wr.alloc (.cells #[.int .i64 kk, .slice tA x tc] 36)) (fun x => x < wr.heap.size) C g gm L ov L ov) := (HP.out.mono (S' := fun x => x < wr.heap.size) (fun x hx _ => hx)).keep ((Below.refl _ _).alloc (Nat.le_refl _) _)
      have HSo : Hid (SlB (wr.alloc (.cells #[.int .i64 kk, .slice tA x tc] 36)) (wr.alloc (.cells #[.int .i64 kk, .slice tA x tc] 36)).heap.size tA tc bb) := slb_at HSL (hid HPo.out.bel)
      have co0 := (box_below HXo.out ((Below.refl _ _).alloc (Nat.le_refl _) (.cells #[] 5))).cell 0
      have co1 := (box_below HXo.out ((Below.refl _ _).alloc (Nat.le_refl _) (.cells #[] 5))).cell 1
      have hxz : 0 + x = x := Nat.zero_add x
      go_wp2_with (first
        | (at_builtin
           (refine wpList_app _ rfl (.tmp 59) (.tmp 61) 34 rfl (wr.heap.size + 1) 5 i0 _ 1 1 Try.underlying34 hi0 hz0 hz1 hz2 rfl (by decide) (some ⟨wr.heap.size + 1, 0, none⟩) 0 0 [] rfl (lit_own (by simp) (by simp)) _ tA x tc (bv bb) rfl (by rw [bv_length, HX.out]; omega) (HSo.out.2.2.2.alloc (Nat.le_refl _) _) (bv_one _) (by unfold maxLen; omega) (by omega) (by simp) ?_
            intro A4 c4 w4 ho4 hg4
            have HO4 : Hid (w4.ownsRow (wr.heap.size + 1) 5 1 (.slice A4 x c4) x (bv bb)) := by
              show World.ownsRow _ _ _ _ _ _ _
              simpa using ho4
            have HB4 : Hid (Below (wr.alloc (.cells #[.int .i64 kk, .slice tA x tc] 36)).heap.size (wr.alloc (.cells #[.int .i64 kk, .slice tA x tc] 36)) w4) := lit_grown (by simp) hg4
            have HX4 : Hid (Box w4 wr.heap.size 36 #[.int .i64 kk, .slice tA x tc]) := box_below HXo.out HB4.out
            have c40 := HX4.out.cell 0
            have c41 := HX4.out.cell 1
            have HSi : Hid (SlB w4 w4.heap.size A4 c4 bb) := own_slb' HX.out HO4.out
            have hz4 : wr.heap.size < w4.heap.size := by have := HB4.out.size; simp at this; omega
            have HP4 : Hid (Pl w2 w4 (Sr wr.heap.size w4.heap.size kk) C g gm L ov L ov) := (HPo.out.keep HB4.out).mono (fun x _ hx => .inl hx)
            have HS4 : Hid (kk = 1 → ∀ x, w4.heap.size ≤ x → Sr wr.heap.size w4.heap.size kk x) := fun e x hx => .inr ⟨e, hx⟩
            clear ho4 hg4 co0 co1))
        | (go_at_call 11
           ((with_reducible refine (pl_do _ kk HP4 HS4 HSi HX HST HOL).mono ?_); rintro e w7 ⟨A7, c7, rfl, HO7, HP7, HK7⟩)
           have HX7 : Hid (Box w7 wr.heap.size 36 #[.int .i64 kk, .slice tA x tc]) := HK7.out.box HX4.out
           have c70 := HX7.out.cell 0
           have c71 := HX7.out.cell 1
           have HO47 := hid (HK7.out.own HO4.out)
           have hz7 : w4.heap.size ≤ w7.heap.size := by obtain ⟨K, k, _⟩ := HK7.out; exact k.size
           have HS7 : Hid (kk = 1 → ∀ x, w7.heap.size ≤ x → Sr wr.heap.size w4.heap.size kk x) := fun e x hx => .inr ⟨e, by omega⟩
           have HSt7 : Hid (SlB w7 w7.heap.size tA tc bb) := slb_at HSL (hid HP7.out.bel)
           clear c40 c41)
        | (go_at_call 12
           ((with_reducible refine (pl_rdo _ kk HP7 HS7 HSt7 HX HST HOL).mono ?_); rintro e w8 ⟨A8, c8, rfl, HO8, HP8, HK8⟩)
           have HX8 : Hid (Box w8 wr.heap.size 36 #[.int .i64 kk, .slice tA x tc]) := HK8.out.box HX7.out
           have c80 := HX8.out.cell 0
           have c81 := HX8.out.cell 1
           have HO48 := hid (HK8.out.own HO47.out)
           have HO78 := hid (HK8.out.own HO7.out)
           have HSt8 : Hid (SlB w8 w8.heap.size tA tc bb) := slb_at HSL (hid HP8.out.bel)
           clear c70 c71))
      obtain ⟨rb8, rm8, f8⟩ := HP8.out
      obtain ⟨Am, cm, hxm, hwm⟩ := f8.rq.body
      rw [HCN.out] at hxm
      have cm4 := hxm.cell 4
      have cm5 := hxm.cell 5
      unfold rqC at cm4 cm5
      clear hxm hwm f8
      have HLb : Hid (Lies w8 w8.heap.size A7 (bv out)) := Lies.own HO78.out
      have HLw : Hid (Lies w8 w8.heap.size A8 (bv out)) := Lies.own HO8.out
      have HLi : Hid (Lies w8 w8.heap.size A4 (bv bb)) := Lies.own HO48.out
      have HLo : Hid (Lies w8 w8.heap.size tA (bv bb)) := HSt8.out.2.2.2
      have Q1 : Hid (∀ a, Calls Try.prog 13 #[.slice A7 ol c7, .slice A8 ol c8] (w8.drewN a) fun e w' => ∃ k, e = .returned (.bool true) ∧ w' = (w8.drewN a).drewN k) := fun a =>
        bytes_n _ _ _ A7 A8 c7 c8 ol ol out out true (hid (HLb.out.drewN a)) (hid (HLw.out.drewN a)) HOL HOL (by unfold maxLen; omega) (by unfold maxLen; omega) (hid (by simp))
      have Q2 : Hid (∀ a, Calls Try.prog 14 #[.pointer (some ⟨g, 0, none⟩)] (w8.drewN a) fun e w' => e = .returned (.int .i64 cnt) ∧ w' = w8.drewN a) := fun a => by
        obtain ⟨rb, rm, f⟩ := pl_quiet HP8.out a
        exact count_any _ HCN (hid f.qu)
      have Q3 : Hid (∀ a, Calls Try.prog 15 #[.pointer (some ⟨g, 0, none⟩)] (w8.drewN a) fun e w' => e = .returned (.int .i64 us) ∧ w' = w8.drewN a) := fun a => by
        obtain ⟨rb, rm, f⟩ := pl_quiet HP8.out a
        exact used_any _ HUS (hid f.qu)
      have Q4 : Hid (∀ a, Calls Try.prog 16 #[.pointer (some ⟨gm, 0, none⟩)] (w8.drewN a) fun e w' => e = .returned (.int .i64 us) ∧ w' = w8.drewN a) := fun a => by
        obtain ⟨rb, rm, f⟩ := pl_quiet HP8.out a
        exact rused_any _ HUS (hid f.rq)
      have Q5 : Hid (∀ a, Calls Try.prog 17 #[.pointer (some ⟨g, 0, none⟩)] (w8.drewN a) fun e w' => e = .returned (.bool ov') ∧ w' = w8.drewN a) := fun a => by
        obtain ⟨rb, rm, f⟩ := pl_quiet HP8.out a
        exact over_any _ (hid f.qu)
      have Q6 : Hid (∀ a, Calls Try.prog 13 #[.slice A4 x c4, .slice tA x tc] (w8.drewN a) fun e w' => ∃ k, e = .returned (.bool true) ∧ w' = (w8.drewN a).drewN k) := fun a =>
        bytes_n _ _ _ A4 tA c4 tc x x bb bb true (hid (HLi.out.drewN a)) (hid (HLo.out.drewN a)) HX HX (by unfold maxLen; omega) (by unfold maxLen; omega) (hid (by simp))
      go_quiet (first
        | (go_at_call 13; first | (with_reducible exact quietx_b2 (Q1.out _)) | (with_reducible exact quietx_b (Q1.out _)) | (with_reducible exact quietx_b2 (Q6.out _)) | (with_reducible exact quietx_b (Q6.out _)))
        | (go_at_call 14; first | (with_reducible exact quietx_v2 (Q2.out _)) | (with_reducible exact quietx_v (Q2.out _)))
        | (go_at_call 15; first | (with_reducible exact quietx_v2 (Q3.out _)) | (with_reducible exact quietx_v (Q3.out _)))
        | (go_at_call 16; first | (with_reducible exact quietx_v2 (Q4.out _)) | (with_reducible exact quietx_v (Q4.out _)))
        | (go_at_call 17; first | (with_reducible exact quietx_v2 (Q5.out _)) | (with_reducible exact quietx_v (Q5.out _))))
      have HP9 := hid (pl_quiet HP8.out nq)
      have HO79 : Hid ((w8.drewN nq).ownsRow w4.heap.size 5 1 (.slice A7 ol c7) ol (bv out)) := HO78
      have HO49 : Hid ((w8.drewN nq).ownsRow (wr.heap.size + 1) 5 1 (.slice A4 x c4) x (bv bb)) := HO48
      have HX9 : Hid (Box (w8.drewN nq) wr.heap.size 36 #[.int .i64 kk, .slice tA x tc]) := HX8
      have HA4 : Hid (∀ y, (Value.slice A4 x c4).ownBlock = some y → y < w4.heap.size) := fun y hy => (HO4.out.lt y hy).2
      obtain ⟨M, hM⟩ : ∃ z, z = w4.heap.size := ⟨_, rfl⟩
      obtain ⟨B, hB⟩ : ∃ z, z = wr.heap.size := ⟨_, rfl⟩
      have hBM : B < M := by omega
      have hB2 : w2.heap.size ≤ B := by rw [hB]; exact HBr.out.size
      obtain ⟨W9, hW9⟩ : ∃ z : World, z = w8.drewN nq := ⟨_, rfl⟩
      rw [← hW9] at HP9 HO79 HO49 HX9
      rw [← hM] at HP9 HO79 HA4
      rw [← hB] at HP9 HO49 HX9
      rw [← hB, ← hW9]
      clear Q1 Q2 Q3 Q4 Q5 Q6 c80 c81 cm4 cm5 hz7 hz4
      clear hM hB hW9
      have c90 := HX9.out.cell 0
      by_cases h3 : kk = 3
      · subst h3
        obtain ⟨wb, hwb⟩ : ∃ z : World, z = W9 := ⟨_, rfl⟩
        rw [← hwb] at HP9 HO49 c90
        rw [← hwb]
        clear hwb
        have HPb := HP9
        have HOb := HO49
        go_wp2
        have HMi : Hid (Mr wb wb A4 x c4) := Mr.start HX.out HOb.out
        go_loopw [139] (fun i w9 => ∃ k2 : Nat, k2 ≤ x ∧ i = .int .i64 k2 ∧ Hid (Mr wb w9 A4 x c4)) (fun i _ => x - (intOf i).toNat)
        case atStart => exact ⟨0, Nat.zero_le _, rfl, HMi.out⟩
        case round =>
          obtain ⟨k2, hk2, rfl, HM2⟩ := hrel
          by_cases hlt2 : k2 < x
          · obtain ⟨gb, cur, hA4, hbx, hz⟩ := HM2.out.row (by omega)
            subst hA4
            obtain ⟨z, hz2⟩ := hz k2 hlt2
            have cc : wr.cell? ⟨gb, k2, none⟩ = some (.int .u8 z) := by rw [hbx.cell]; exact hz2
            have ff : wr.frozen? ⟨gb, k2, none⟩ = false := hbx.frozen k2
            have HBX := hid hbx
            have HZ := hid hz
            have i2 : (k2 : Int) < x := by omega
            clear hbx hz hz2
            go_wp2
            go_roundw
            case rel => exact ⟨k2 + 1, by omega, by go_num, HM2.out.store HBX.out HZ.out k2 hlt2 _⟩
            case measure => simp [intOf]; omega
          · have j9 : ¬ ((k2 : Int) < x) := by omega
            have HPc : Hid (Pl w2 wr Tt C g gm L' ov' L' ov') := (HPb.out.turn HM2.out.but (mr_one HPb.out.bel HX.out HOb.out (Nat.le_succ B) (by omega) (fun _ => .inr HA4.out) HMi.out)).mono (fun _ _ _ => trivial)
            clear HM2 HMi
            go_wp2
            go_roundw
            case rel => exact ⟨k + 1, L', ov', by omega, by go_num, HPc.out⟩
            case measure => simp [intOf]; omega
      · have m3 : (kk == 3) = false := by simpa using h3
        have m3' : (kk != 3) = true := by simpa using h3
        have HMs : Hid (Mr W9 W9 A7 ol c7) := Mr.start HOL.out HO79.out
        go_wp2
        go_loopw [125] (fun i w9 => ∃ k1 : Nat, k1 ≤ ol ∧ i = .int .i64 k1 ∧ Hid (Mr W9 w9 A7 ol c7)) (fun i _ => ol - (intOf i).toNat)
        case atStart => exact ⟨0, Nat.zero_le _, rfl, HMs.out⟩
        case round =>
          obtain ⟨k1, hk1, rfl, HM1⟩ := hrel
          by_cases hlt1 : k1 < ol
          · obtain ⟨gb, cur, hA7, hbx, hz⟩ := HM1.out.row (by omega)
            subst hA7
            obtain ⟨z, hz2⟩ := hz k1 hlt1
            have cc : wr.cell? ⟨gb, k1, none⟩ = some (.int .u8 z) := by rw [hbx.cell]; exact hz2
            have ff : wr.frozen? ⟨gb, k1, none⟩ = false := hbx.frozen k1
            have HBX := hid hbx
            have HZ := hid hz
            have i2 : (k1 : Int) < ol := by omega
            clear hbx hz hz2
            go_wp2
            go_roundw
            case rel => exact ⟨k1 + 1, by omega, by go_num, HM1.out.store HBX.out HZ.out k1 hlt1 _⟩
            case measure => simp [intOf]; omega
          · have j9 : ¬ ((k1 : Int) < ol) := by omega
            have HPb : Hid (Pl w2 wr (Sr B M kk) C g gm L' ov' L' ov') := HP9.out.turn HM1.out.but (mr_one HP9.out.bel HOL.out HO79.out (by omega) (by omega) (fun e => .inl (HK1.out e)) HMs.out)
            have HOb : Hid (wr.ownsRow (B + 1) 5 1 (.slice A4 x c4) x (bv bb)) := HM1.out.but.own HO49.out (fun y hy hm => by
              split at hm
              · simp at hm
              · have h1 := HA4.out y hy
                have h2 := (HO79.out.lt y (by simpa using hm)).1
                omega)
            obtain ⟨wb, hwb⟩ : ∃ z : World, z = wr := ⟨_, rfl⟩
            rw [← hwb] at HPb HOb
            clear HM1 HMs
            go_wp2
            rw [← hwb]
            clear hwb
            have HMi : Hid (Mr wb wb A4 x c4) := Mr.start HX.out HOb.out
            go_loopw [139] (fun i w9 => ∃ k2 : Nat, k2 ≤ x ∧ i = .int .i64 k2 ∧ Hid (Mr wb w9 A4 x c4)) (fun i _ => x - (intOf i).toNat)
            case atStart => exact ⟨0, Nat.zero_le _, rfl, HMi.out⟩
            case round =>
              obtain ⟨k2, hk2, rfl, HM2⟩ := hrel
              by_cases hlt2 : k2 < x
              · obtain ⟨gb, cur, hA4, hbx, hz⟩ := HM2.out.row (by omega)
                subst hA4
                obtain ⟨z, hz2⟩ := hz k2 hlt2
                have cc : wr.cell? ⟨gb, k2, none⟩ = some (.int .u8 z) := by rw [hbx.cell]; exact hz2
                have ff : wr.frozen? ⟨gb, k2, none⟩ = false := hbx.frozen k2
                have HBX := hid hbx
                have HZ := hid hz
                have i2 : (k2 : Int) < x := by omega
                clear hbx hz hz2
                go_wp2
                go_roundw
                case rel => exact ⟨k2 + 1, by omega, by go_num, HM2.out.store HBX.out HZ.out k2 hlt2 _⟩
                case measure => simp [intOf]; omega
              · have j9 : ¬ ((k2 : Int) < x) := by omega
                have HPc : Hid (Pl w2 wr Tt C g gm L' ov' L' ov') := (HPb.out.turn HM2.out.but (mr_one HPb.out.bel HX.out HOb.out (Nat.le_succ B) (by omega) (fun _ => .inr HA4.out) HMi.out)).mono (fun _ _ _ => trivial)
                clear HM2 HMi
                go_wp2
                go_roundw
                case rel => exact ⟨k + 1, L', ov', by omega, by go_num, HPc.out⟩
                case measure => simp [intOf]; omega
    · go_wp2
      go_ret
      exact ⟨rfl, (bel_trans HBw2 HBr).out⟩
end Go.Proofs.Ytibkbcffoabhfaa
