import Derived.Test.YtibkbcffoabhfaaKR
namespace Go.Proofs.Ytibkbcffoabhfaa
open Go.RowKit

def slLen : Value → Nat
  | .slice _ n _ => n
  | _ => 0
theorem od_in {w w' w2 : World} {C : Cf} {g : Nat} {L : List (List UInt8)} {ov : Bool} {A1 A2 : Option Addr} {n1 c1 n2 c2 : Nat} {In Out : List (List UInt8)} {rb rb1 rb2 : Option Nat} (f : QO w2 w C g rb L ov A1 n1 c1 rb1 In A2 n2 c2 rb2 Out) {A1' : Option Addr} {n1' c1' : Nat} {In' : List (List UInt8)} (hw : ∃ rb1', Wg (Ea w2) w' A1' n1' c1' rb1' In' ∧ ∀ x, rb1' = some x → rb1 = some x ∨ w.heap.size ≤ x) (k : But rb1.toList w w') : Od w2 w' C g L ov A1' n1' c1' In' A2 n2 c2 Out := by
  obtain ⟨rb1', f'⟩ := f.inned hw k
  exact ⟨rb, rb1', rb2, f'⟩
theorem od_out {w w' w2 : World} {C : Cf} {g : Nat} {L : List (List UInt8)} {ov : Bool} {A1 A2 : Option Addr} {n1 c1 n2 c2 : Nat} {In Out : List (List UInt8)} {rb rb1 rb2 : Option Nat} (f : QO w2 w C g rb L ov A1 n1 c1 rb1 In A2 n2 c2 rb2 Out) {A2' : Option Addr} {n2' c2' : Nat} {Out' : List (List UInt8)} (hw : ∃ rb2', Wn w' Tt A2' n2' c2' rb2' Out' ∧ ∀ x, rb2' = some x → rb2 = some x ∨ w.heap.size ≤ x) (k : But rb2.toList w w') : Od w2 w' C g L ov A1 n1 c1 In A2' n2' c2' Out' := by
  obtain ⟨rb2', f'⟩ := f.outed hw k
  exact ⟨rb, rb1, rb2', f'⟩
theorem el_own {w : World} {base n c : Nat} {A : Option Addr} {bs : List UInt8} (hn : bs.length = n) (h : w.ownsRow base 5 1 (.slice A n c) n (bv bs)) (o : Obj) : El (w.alloc o) Tt (.slice A n c) bs := by
  subst hn
  exact ⟨A, c, rfl, own_mono (h.alloc o) (Nat.zero_le _), fun _ _ => trivial⟩
theorem front_len {L : List (List UInt8)} {out : List UInt8} {ok : Bool} {m : Nat} (hs : sumB L ≤ m) (h : frontF L = (out, ok)) : out.length ≤ m := by
  cases L with
  | nil => simp only [frontF, Prod.mk.injEq] at h; rw [← h.1]; simp
  | cons x r => simp only [frontF, Prod.mk.injEq] at h; rw [← h.1]; rw [sumB] at hs; omega

set_option maxHeartbeats 16000000 in
set_option maxRecDepth 100000 in
theorem order_walk (w : World) (C : Cf) (hok : Hid C.ok) (A : Option Addr) (c n : Nat) (l : List OpV) (hl : Hid (OpsV w w.heap.size A l)) (hn : Hid (l.length = n)) (hl2 : n ≤ maxLen) (hg : Hid (greatO l = false)) :
    Calls Try.prog 4 #[.agg #[.int .i64 C.b, .int .i64 C.r, .int .i64 C.h, .int .i64 C.l], .slice A n c] w fun e w' => e = .returned (.bool true) ∧ Hid (Below w.heap.size w w') := by
  obtain ⟨i0, hi0, hz0, hz1, hz2⟩ := info_parts Try.info5
  have h100 := great_len hg.out
  rw [hn.out] at h100
  have HB0 : Hid (Below w.heap.size w (w.alloc (.cells #[.int .i64 C.b, .int .i64 C.r, .int .i64 C.h, .int .i64 C.l] 23))) := (Below.refl _ _).alloc (Nat.le_refl _) _
  have HX0 : Hid (Box (w.alloc (.cells #[.int .i64 C.b, .int .i64 C.r, .int .i64 C.h, .int .i64 C.l] 23)) w.heap.size 23 #[.int .i64 C.b, .int .i64 C.r, .int .i64 C.h, .int .i64 C.l]) := Box.new _ _ _
  have HL0 := ops_at hl HB0
  go_enter Try.func4, Try.ntmps4
  go_wp2_with (first
    | (go_at_call 7
       ((with_reducible refine (alive_any _).mono ?_); rintro e w1 ⟨rfl, HB1⟩)
       have HL1 : Hid (OpsV w1 w1.heap.size A l) := ops_at HL0 HB1
       have hx1 := hid (box_below HX0.out HB1.out))
    | (go_at_call 8
       ((with_reducible refine (great_any _ A c n l false HL1 hn hl2 hg).mono ?_); rintro e w2 ⟨rfl, HB2⟩)
       have HX2 := hid (box_below hx1.out HB2.out)
       have HL2 : Hid (OpsV w2 w2.heap.size A l) := ops_at HL1 HB2
       have HBw2 := bel_trans HB0 (bel_trans HB1 HB2)
       have c0 := HX2.out.cell 0
       have c1 := HX2.out.cell 1
       have c2 := HX2.out.cell 2
       have c3 := HX2.out.cell 3)
    | (go_at_call 9
       ((with_reducible refine (made_any _ hok).mono ?_); rintro e w3 ⟨g, rfl, HQ3, hg3, HB3⟩)
       have HOd3 : Hid (Od w2 w3 C g [] false none 0 0 [] none 0 0 []) := ⟨none, none, none, QO.start (HQ3.out _) hg3 HB3.out⟩))
  clear c0 c1 c2 c3 hx1
  go_loopw [7, 8, 34] (fun i1 i2 i wr => ∃ (k : Nat) (L : List (List UInt8)) (ov : Bool) (A1 : Option Addr) (n1 c1 : Nat) (In : List (List UInt8)) (A2 : Option Addr) (n2 c2 : Nat) (Out : List (List UInt8)), k ≤ n ∧ i = .int .i64 k ∧ i1 = .slice A1 n1 c1 ∧ i2 = .slice A2 n2 c2 ∧ n1 ≤ k ∧ n2 ≤ n1 ∧
    Hid (Od w2 wr C g L ov A1 n1 c1 In A2 n2 c2 Out ∧ Iv C L ov ∧ Out ++ L = In)) (fun _ _ i _ => n - (intOf i).toNat)
  case atStart => exact ⟨0, [], false, none, 0, 0, [], none, 0, 0, [], Nat.zero_le _, rfl, rfl, rfl, Nat.le_refl _, Nat.le_refl _, HOd3.out, Iv.start C hok.out, rfl⟩
  case round =>
    obtain ⟨k, L, ov, A1, n1, c1, In, A2, n2, c2, Out, hk, rfl, rfl, rfl, hn1, hn2, HFF⟩ := hrel
    obtain ⟨hQ, hI, hE⟩ := HFF.out
    have HQ := hid hQ
    have HBr := hid hQ.bel
    have HE := hid hE
    have HI := hid hI
    obtain ⟨q1, q2, q3, q4, q5⟩ := hQ.len1
    have HN1 := hid q1
    have HN2 := hid q2
    clear hQ hE hI HFF
    by_cases hlt : k < n
    · have hkl : k < l.length := by rw [hn.out]; exact hlt
      obtain ⟨b0, o0, rfl, hbw, hcells⟩ := HL2.out (by intro e; rw [e] at hkl; simp at hkl)
      obtain ⟨tA, tc, hsl, e0, e2⟩ := hcells k hkl
      have cc0 := (HBr.out.cell (p := ⟨b0, _, none⟩) hbw).trans e0
      have cc2 := (HBr.out.cell (p := ⟨b0, _, none⟩) hbw).trans e2
      obtain ⟨bb, HBB⟩ : ∃ x, Hid (l[k].2 = x) := ⟨_, hid rfl⟩
      rw [HBB.out] at cc2 hsl
      obtain ⟨x, HX⟩ : ∃ x : Nat, Hid (bb.length = x) := ⟨_, hid rfl⟩
      rw [HX.out] at cc2
      obtain ⟨kk, HKK⟩ : ∃ x : Int, Hid (l[k].1 = x) := ⟨_, hid rfl⟩
      rw [HKK.out] at cc0
      have HSL := hid hsl
      have i1 : (k : Int) < n := by omega
      clear e0 e2 hcells hsl
      obtain ⟨⟨fo, fk⟩, HFR⟩ : ∃ x, Hid (frontF L = x) := ⟨_, hid rfl⟩
      obtain ⟨fl, HFL⟩ : ∃ x : Nat, Hid (fo.length = x) := ⟨_, hid rfl⟩
      obtain ⟨⟨out, ok, L', ov'⟩, HST⟩ : ∃ x, Hid (doF C kk bb L ov = x) := ⟨_, hid rfl⟩
      obtain ⟨ol, HOL⟩ : ∃ x : Nat, Hid (out.length = x) := ⟨_, hid rfl⟩
      have hfl : fl ≤ 65536 := by
        have := front_len q3 HFR.out
        rw [HFL.out] at this
        omega
      have HI' := hid (Iv.step hok.out HI.out HST.out).1
      have HMM := hid (order_math HST.out HE.out)
      clear q1 q2 q3 q4 q5
      have HBo : Hid (Below w2.heap.size w2 (wr.alloc (.cells #[.int .i64 kk, .slice tA x tc] 36))) := HBr.out.alloc HBr.out.size _
      have HXo : Hid (Box (wr.alloc (.cells #[.int .i64 kk, .slice tA x tc] 36)) wr.heap.size 36 #[.int .i64 kk, .slice tA x tc]) := Box.new _ _ _
      have HQo : Hid (Od w2 (wr.alloc (.cells #[.int .i64 kk, .slice tA x tc] 36)) C g L ov A1 n1 c1 In A2 n2 c2 Out) := HQ.out.keep ((Below.refl _ _).alloc (Nat.le_refl _) _)
      obtain ⟨wo, hwo⟩ : ∃ z : World, z = wr.alloc (.cells #[.int .i64 kk, .slice tA x tc] 36) := ⟨_, rfl⟩
      have hwos : wr.heap.size < wo.heap.size := by rw [hwo]; simp
      rw [← hwo] at HBo HXo HQo
      go_wp2_with (first
        | (go_at_call 18
           (rw [← hwo]
            (with_reducible refine (od_front _ HQo HFR HFL).mono ?_); rintro e w4 ⟨A4, c4, rfl, HO4, HQ4, HB4⟩))
        | (at_builtin
           (refine wpList_app _ rfl (.tmp 43) (.tmp 44) 34 rfl w4.heap.size 5 i0 _ 1 1 Try.underlying34 hi0 hz0 hz1 hz2 rfl (by decide) (some ⟨w4.heap.size, 0, none⟩) 0 0 [] rfl (lit_own (Nat.le_refl _) rfl) _ A4 fl c4 (bv fo) rfl (by rw [bv_length, HFL.out]; omega) ((Lies.own HO4.out).alloc (Nat.le_refl _) _) (bv_one _) (by unfold maxLen; omega) (by omega) (by simp) ?_
            intro A5 c5 w5 ho5 hg5
            have HO5 : Hid (w5.ownsRow w4.heap.size 5 1 (.slice A5 fl c5) fl (bv fo)) := by
              show World.ownsRow _ _ _ _ _ _ _
              simpa using ho5
            have HB5 : Hid (Below w4.heap.size w4 w5) := lit_grown rfl hg5
            clear ho5 hg5)))
      obtain ⟨gx, hgx⟩ : ∃ z, z = wr.heap.size := ⟨_, rfl⟩
      rw [← hgx] at HXo
      rw [← hgx]
      have HB45 : Hid (Below wo.heap.size wo w5) := HB4.out.trans (HB5.out.mono HB4.out.size)
      have HMS : Hid (Mt w5 w5 A4 fl c4) := Mt.start HFL.out (own_keep HO4.out HB5.out)
      clear hwo hwos hgx
      go_loopw [48] (fun i w9 => ∃ k1 : Nat, k1 ≤ fl ∧ i = .int .i64 k1 ∧ Hid (Mt w5 w9 A4 fl c4)) (fun i _ => fl - (intOf i).toNat)
      case atStart => exact ⟨0, Nat.zero_le _, rfl, HMS.out⟩
      case round =>
        obtain ⟨k1, hk1, rfl, HM1⟩ := hrel
        by_cases hlt1 : k1 < fl
        · obtain ⟨gb, cur, hA4, hbx, hz⟩ := HM1.out.row (by omega)
          subst hA4
          obtain ⟨z, hz2⟩ := hz k1 hlt1
          have cc : wr.cell? ⟨gb, k1, none⟩ = some (.int .u8 z) := by rw [hbx.cell]; exact hz2
          have ff : wr.frozen? ⟨gb, k1, none⟩ = false := hbx.frozen k1
          have HBX := hid hbx
          have HZ := hid hz
          have i2 : (k1 : Int) < fl := by omega
          clear hbx hz hz2
          go_wp2
          go_roundw
          case rel => exact ⟨k1 + 1, by omega, by go_num, HM1.out.store HBX.out HZ.out k1 _⟩
          case measure => simp [intOf]; omega
        · have j9 : ¬ ((k1 : Int) < fl) := by omega
          have HBx : Hid (Below wo.heap.size wo wr) := HB45.out.trans (HM1.out.but.below HB45.out.size (fun y hy => (HO4.out.lt y (by simpa using hy)).1))
          have HQx : Hid (Od w2 wr C g L ov A1 n1 c1 In A2 n2 c2 Out) := HQo.out.keep HBx.out
          have HKx : Hid (wr.ownsRow w4.heap.size 5 1 (.slice A5 fl c5) fl (bv fo)) := HM1.out.but.own HO5.out (fun y hy hm => by
            have h1 := (HO5.out.lt y hy).1
            have h2 := (HO4.out.lt y (by simpa using hm)).2
            omega)
          have HXx : Hid (Box wr gx 36 #[.int .i64 kk, .slice tA x tc]) := box_below HXo.out HBx.out
          have HSx : Hid (SlB wr wr.heap.size tA tc bb) := slb_at HSL (hid HQx.out.bel)
          have cx0 := HXx.out.cell 0
          have cx1 := HXx.out.cell 1
          clear HM1 HMS HB45 HBx HO5 HB5 HO4 HB4
          rcases HMM.out with ⟨y1, y2, y3, y4⟩ | ⟨y1, y2, y3, y4⟩ | ⟨y1, y2, y3, y4, y5⟩ | ⟨y1, y2, y3, y4, y5⟩ | ⟨y1, y2, y3⟩
          · subst y1
            subst y2
            go_wp2_with (first
              | (go_at_call 11
                 ((with_reducible refine (od_do _ _ HQx HSx HX HST HOL).mono ?_); rintro e w7 ⟨A7, c7, rfl, HO7, HQ7, HK7⟩)
                 have hx7 := HK7.out.box HXx.out (by decide) (by decide)
                 have c70 := hx7.cell 0
                 have c71 := hx7.cell 1
                 have HK57 := hid (HK7.out.own HKx.out)
                 have HL7 : Hid (Lies w7 w7.heap.size A7 (bv out)) := Lies.own HO7.out
                 have HL5 : Hid (Lies w7 w7.heap.size A5 (bv fo)) := Lies.own HK57.out
                 have HQ7a : ∀ o : Obj, Hid (Od w2 (w7.alloc o) C g L' ov' A1 n1 c1 In A2 n2 c2 Out) := fun o => HQ7.out.keep ((Below.refl _ _).alloc (Nat.le_refl _) _)
                 have HX7 := hid hx7
                 clear hx7)
              | (at_builtin
                 (obtain ⟨rb, rb1, rb2, f⟩ := (HQ7a (.cells #[.slice tA x tc] 34)).out
                  refine step_wg _ rfl (.tmp 72) (.tmp 75) rfl rfl f.inn ⟨w7.heap.size, 0, none⟩ 1 (.slice tA x tc) bb rfl ((Box.new w7 34 #[.slice tA x tc]).cell 0) ⟨tA, tc, by rw [HX.out], HSL.out⟩ rfl (by omega) ?_
                  intro A8 c8 w8 hw8 hk8
                  have HQ8 := hid (od_in f hw8 hk8)
                  have hx8 : Box w8 gx 36 _ := hk8.box (box_below HX7.out ((Below.refl _ _).alloc (Nat.le_refl _) _)) (fun hm => by
                    obtain ⟨cs, hb⟩ := f.inn.box gx (by simpa using hm)
                    exact box_ne (box_below HX7.out ((Below.refl _ _).alloc (Nat.le_refl _) _)) hb (by decide) rfl)
                  have c80 := hx8.cell 0
                  clear hw8 hk8 f hx8)))
            go_roundw
            case rel =>
              have hE2 := y3
              refine ⟨k + 1, _, _, _, _, _, _, _, _, _, _, by omega, by go_num, by rfl, by rfl, by omega, ?_, HQ8.out, HI'.out, hE2⟩
              obtain ⟨e1, e2, _⟩ := HQ8.out.len1
              have e3 := congrArg List.length hE2
              rw [List.length_append, e1, e2] at e3
              omega
            case measure => simp [intOf]; omega
          · subst y1
            subst y2
            go_wp2_with (first
              | (go_at_call 11
                 ((with_reducible refine (od_do _ _ HQx HSx HX HST HOL).mono ?_); rintro e w7 ⟨A7, c7, rfl, HO7, HQ7, HK7⟩)
                 have hx7 := HK7.out.box HXx.out (by decide) (by decide)
                 have c70 := hx7.cell 0
                 have c71 := hx7.cell 1
                 have HK57 := hid (HK7.out.own HKx.out)
                 have HL7 : Hid (Lies w7 w7.heap.size A7 (bv out)) := Lies.own HO7.out
                 have HL5 : Hid (Lies w7 w7.heap.size A5 (bv fo)) := Lies.own HK57.out
                 have HQ7a : ∀ o : Obj, Hid (Od w2 (w7.alloc o) C g L' ov' A1 n1 c1 In A2 n2 c2 Out) := fun o => HQ7.out.keep ((Below.refl _ _).alloc (Nat.le_refl _) _)
                 have HX7 := hid hx7
                 clear hx7)
)
            go_roundw
            case rel =>
              have hE2 := y3
              refine ⟨k + 1, _, _, _, _, _, _, _, _, _, _, by omega, by go_num, by rfl, by rfl, by omega, ?_, HQ7.out, HI'.out, hE2⟩
              obtain ⟨e1, e2, _⟩ := HQ7.out.len1
              have e3 := congrArg List.length hE2
              rw [List.length_append, e1, e2] at e3
              omega
            case measure => simp [intOf]; omega
          · subst y1
            subst y2
            have hfo := HFR.out.symm.trans y3
            simp only [Prod.mk.injEq] at hfo
            obtain ⟨e1, e2⟩ := hfo
            have e3 : ol = fl := by rw [← HFL.out, ← HOL.out, e1]
            have e1 := e1.symm
            subst e1
            subst e2
            subst e3
            go_wp2_with (first
              | (go_at_call 11
                 ((with_reducible refine (od_do _ _ HQx HSx HX HST HOL).mono ?_); rintro e w7 ⟨A7, c7, rfl, HO7, HQ7, HK7⟩)
                 have hx7 := HK7.out.box HXx.out (by decide) (by decide)
                 have c70 := hx7.cell 0
                 have c71 := hx7.cell 1
                 have HK57 := hid (HK7.out.own HKx.out)
                 have HL7 : Hid (Lies w7 w7.heap.size A7 (bv out)) := Lies.own HO7.out
                 have HL5 : Hid (Lies w7 w7.heap.size A5 (bv out)) := Lies.own HK57.out
                 have HQ7a : ∀ o : Obj, Hid (Od w2 (w7.alloc o) C g L' ov' A1 n1 c1 In A2 n2 c2 Out) := fun o => HQ7.out.keep ((Below.refl _ _).alloc (Nat.le_refl _) _)
                 have HX7 := hid hx7
                 clear hx7)
              | (go_at_call 13
                 ((with_reducible refine (bytes_n _ _ _ A7 A5 c7 c5 ol ol out out true HL7 HL5 HOL HOL (by unfold maxLen; omega) (by unfold maxLen; omega) (hid (by simp))).mono ?_); rintro e w8 ⟨d, rfl, rfl⟩)
                 have HQ8 : Hid (Od w2 (w7.drewN d) C g L' ov' A1 n1 c1 In A2 n2 c2 Out) := HQ7.out.keep (bel_drewN (Below.refl _ _) d)
                 have HQ8a : ∀ o : Obj, Hid (Od w2 ((w7.drewN d).alloc o) C g L' ov' A1 n1 c1 In A2 n2 c2 Out) := fun o => HQ8.out.keep ((Below.refl _ _).alloc (Nat.le_refl _) _)
                 have HO8 : Hid ((w7.drewN d).ownsRow 0 5 1 (.slice A7 ol c7) ol (bv out)) := own_mono HO7.out (Nat.zero_le _))
              | (at_builtin
                 (obtain ⟨rb, rb1, rb2, f⟩ := (HQ8a (.cells #[.slice A7 ol c7] 34)).out
                  refine list_wn _ rfl (.tmp 90) (.tmp 92) rfl rfl f.out ⟨(w7.drewN d).heap.size, 0, none⟩ 1 (.slice A7 ol c7) out rfl ((Box.new (w7.drewN d) 34 #[.slice A7 ol c7]).cell 0) (el_own HOL.out HO8.out _) (by omega) ?_
                  intro A9 c9 w9 hw9 hk9
                  have HQ9 := hid (od_out f hw9 hk9)
                  clear hw9 hk9 f)))
            go_roundw
            case rel =>
              have hE2 := y4
              refine ⟨k + 1, _, _, _, _, _, _, _, _, _, _, by omega, by go_num, by rfl, by rfl, by omega, ?_, HQ9.out, HI'.out, hE2⟩
              obtain ⟨e1, e2, _⟩ := HQ9.out.len1
              have e3 := congrArg List.length hE2
              rw [List.length_append, e1, e2] at e3
              omega
            case measure => simp [intOf]; omega
          · subst y1
            subst y2
            have hfo := HFR.out.symm.trans y3
            simp only [Prod.mk.injEq] at hfo
            obtain ⟨e1, e2⟩ := hfo
            have e3 : ol = fl := by rw [← HFL.out, ← HOL.out, e1]
            have e1 := e1.symm
            subst e1
            subst e2
            subst e3
            go_wp2_with (first
              | (go_at_call 11
                 ((with_reducible refine (od_do _ _ HQx HSx HX HST HOL).mono ?_); rintro e w7 ⟨A7, c7, rfl, HO7, HQ7, HK7⟩)
                 have hx7 := HK7.out.box HXx.out (by decide) (by decide)
                 have c70 := hx7.cell 0
                 have c71 := hx7.cell 1
                 have HK57 := hid (HK7.out.own HKx.out)
                 have HL7 : Hid (Lies w7 w7.heap.size A7 (bv out)) := Lies.own HO7.out
                 have HL5 : Hid (Lies w7 w7.heap.size A5 (bv out)) := Lies.own HK57.out
                 have HQ7a : ∀ o : Obj, Hid (Od w2 (w7.alloc o) C g L' ov' A1 n1 c1 In A2 n2 c2 Out) := fun o => HQ7.out.keep ((Below.refl _ _).alloc (Nat.le_refl _) _)
                 have HX7 := hid hx7
                 clear hx7)
              | (go_at_call 13
                 ((with_reducible refine (bytes_n _ _ _ A7 A5 c7 c5 ol ol out out true HL7 HL5 HOL HOL (by unfold maxLen; omega) (by unfold maxLen; omega) (hid (by simp))).mono ?_); rintro e w8 ⟨d, rfl, rfl⟩)
                 have HQ8 : Hid (Od w2 (w7.drewN d) C g L' ov' A1 n1 c1 In A2 n2 c2 Out) := HQ7.out.keep (bel_drewN (Below.refl _ _) d)
                 have HQ8a : ∀ o : Obj, Hid (Od w2 ((w7.drewN d).alloc o) C g L' ov' A1 n1 c1 In A2 n2 c2 Out) := fun o => HQ8.out.keep ((Below.refl _ _).alloc (Nat.le_refl _) _)
                 have HO8 : Hid ((w7.drewN d).ownsRow 0 5 1 (.slice A7 ol c7) ol (bv out)) := own_mono HO7.out (Nat.zero_le _)))
            go_roundw
            case rel =>
              have hE2 := y4
              refine ⟨k + 1, _, _, _, _, _, _, _, _, _, _, by omega, by go_num, by rfl, by rfl, by omega, ?_, HQ8.out, HI'.out, hE2⟩
              obtain ⟨e1, e2, _⟩ := HQ8.out.len1
              have e3 := congrArg List.length hE2
              rw [List.length_append, e1, e2] at e3
              omega
            case measure => simp [intOf]; omega
          · have m1 : (kk == 1) = false := by simpa using y1
            have m2 : (kk == 2) = false := by simpa using y2
            go_wp2_with (first
              | (go_at_call 11
                 ((with_reducible refine (od_do _ _ HQx HSx HX HST HOL).mono ?_); rintro e w7 ⟨A7, c7, rfl, HO7, HQ7, HK7⟩)
                 have hx7 := HK7.out.box HXx.out (by decide) (by decide)
                 have c70 := hx7.cell 0
                 have c71 := hx7.cell 1
                 have HK57 := hid (HK7.out.own HKx.out)
                 have HL7 : Hid (Lies w7 w7.heap.size A7 (bv out)) := Lies.own HO7.out
                 have HL5 : Hid (Lies w7 w7.heap.size A5 (bv fo)) := Lies.own HK57.out
                 have HQ7a : ∀ o : Obj, Hid (Od w2 (w7.alloc o) C g L' ov' A1 n1 c1 In A2 n2 c2 Out) := fun o => HQ7.out.keep ((Below.refl _ _).alloc (Nat.le_refl _) _)
                 have HX7 := hid hx7
                 clear hx7)
)
            go_roundw
            case rel =>
              have hE2 := y3
              refine ⟨k + 1, _, _, _, _, _, _, _, _, _, _, by omega, by go_num, by rfl, by rfl, by omega, ?_, HQ7.out, HI'.out, hE2⟩
              obtain ⟨e1, e2, _⟩ := HQ7.out.len1
              have e3 := congrArg List.length hE2
              rw [List.length_append, e1, e2] at e3
              omega
            case measure => simp [intOf]; omega
    · have hkn : ¬ ((k : Int) < n) := by omega
      have hn1' : n1 ≤ 1000 := by omega
      have HSt : Hid (∃ (L : List (List UInt8)) (ov : Bool) (Out : List (List UInt8)), Od w2 wr C g L ov A1 n1 c1 In A2 n2 c2 Out ∧ Iv C L ov ∧ Out ++ L = In) := ⟨L, ov, Out, HQ.out, HI.out, HE.out⟩
      clear HQ HI HE HN2 HBr
      go_wp2
      go_loopw [8] (fun o w9 => ∃ (A2 : Option Addr) (n2 c2 : Nat), o = .slice A2 n2 c2 ∧ n2 ≤ n1 ∧ Hid (∃ (L : List (List UInt8)) (ov : Bool) (Out : List (List UInt8)), Od w2 w9 C g L ov A1 n1 c1 In A2 n2 c2 Out ∧ Iv C L ov ∧ Out ++ L = In)) (fun o _ => n1 - slLen o)
      case atStart => exact ⟨A2, n2, c2, rfl, hn2, HSt.out⟩
      case round =>
        obtain ⟨A3, n3, c3, rfl, hn3, HF⟩ := hrel
        obtain ⟨L, ov, Out, hQ, hI, hE⟩ := HF.out
        obtain ⟨q1, q2, q3, q4, q5⟩ := hQ.len1
        have HQ := hid hQ
        have HE := hid hE
        have HI := hid hI
        have hlen := congrArg List.length hE
        rw [List.length_append, q1, q2] at hlen
        clear hQ hI hE HF
        cases L with
        | nil =>
          have HLn : Hid (([] : List (List UInt8)).length = 0) := rfl
          have HSn : Hid (sumB [] = 0) := rfl
          have ho : Out = In := by have := HE.out; simpa using this
          subst ho
          have hov : ov = false := HI.out.2 rfl
          subst hov
          have hmx : n1 ≤ maxLen := by unfold maxLen; omega
          go_wp2_with (first
            | (go_at_call 14
               ((with_reducible refine (od_count _ HLn HQ).mono ?_); rintro e w4 ⟨rfl, rfl⟩))
            | (go_at_call 20
               ((with_reducible refine (od_lists _ HQ hmx).mono ?_); rintro e w5 ⟨d, rfl, rfl⟩)
               have HQd := hid (HQ.out.keep (bel_drewN (Below.refl _ _) d)))
            | (go_at_call 15
               ((with_reducible refine (od_used _ HSn HQd).mono ?_); rintro e w6 ⟨rfl, rfl⟩))
            | (go_at_call 17
               ((with_reducible refine (od_over _ HQd).mono ?_); rintro e w6 ⟨rfl, rfl⟩)))
          go_ret
          exact ⟨rfl, (bel_trans HBw2 (hid HQd.out.bel)).out⟩
        | cons b r =>
          obtain ⟨m, HM⟩ : ∃ x : Nat, Hid ((b :: r).length = x) := ⟨_, hid rfl⟩
          obtain ⟨ol, HOL⟩ : ∃ x : Nat, Hid (b.length = x) := ⟨_, hid rfl⟩
          have hm0 : 0 < m := by rw [← HM.out]; simp
          have hm1 : (0 : Int) < m := by omega
          rw [HM.out] at hlen
          have HP : Hid (popF C (b :: r) ov = (b, true, r, fallF C (sumB r) ov)) := rfl
          have HI' := hid (Iv.step (k := 2) (b := []) hok.out HI.out (show doF C 2 [] (b :: r) ov = (b, true, r, fallF C (sumB r) ov) from rfl)).1
          have HE' : Hid ((Out ++ [b]) ++ r = In) := by
            show _ = _
            rw [← HE.out]
            simp
          have hn3b : n3 + 1 ≤ 1000000 := by omega
          go_wp2_with (first
            | (go_at_call 14
               ((with_reducible refine (od_count _ HM HQ).mono ?_); rintro e w4 ⟨rfl, rfl⟩))
            | (go_at_call 19
               ((with_reducible refine (od_pop _ HQ HP HOL).mono ?_); rintro e w7 ⟨A7, c7, rfl, HO7, HQ7⟩)
               have HQ7a : ∀ o : Obj, Hid (Od w2 (w7.alloc o) C g r (fallF C (sumB r) ov) A1 n1 c1 In A3 n3 c3 Out) := fun o => HQ7.out.keep ((Below.refl _ _).alloc (Nat.le_refl _) _))
            | (at_builtin
               (obtain ⟨rb, rb1, rb2, f⟩ := (HQ7a (.cells #[.slice A7 ol c7] 34)).out
                refine list_wn _ rfl (.tmp 105) (.tmp 107) rfl rfl f.out ⟨w7.heap.size, 0, none⟩ 1 (.slice A7 ol c7) b rfl ((Box.new w7 34 #[.slice A7 ol c7]).cell 0) (el_own HOL.out HO7.out _) hn3b ?_
                intro A9 c9 w9 hw9 hk9
                have HQ9 := hid (od_out f hw9 hk9)
                clear hw9 hk9 f)))
          go_roundw
          case rel => exact ⟨A9, n3 + 1, c9, by rfl, by omega, _, _, _, HQ9.out, HI'.out, HE'.out⟩
          case measure => simp [slLen]; omega
end Go.Proofs.Ytibkbcffoabhfaa
