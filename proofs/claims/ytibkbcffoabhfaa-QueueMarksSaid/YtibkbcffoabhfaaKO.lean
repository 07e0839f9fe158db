import Derived.Test.YtibkbcffoabhfaaKN
namespace Go.Proofs.Ytibkbcffoabhfaa
open Go.RowKit

theorem quiet_v {P : Program} {f : FuncId} {args : Array Value} {W : World} {a : Nat} {v : Value} (hc : Calls P f args (W.drewN a) fun e w' => e = .returned v ∧ w' = W.drewN a) :
    Calls P f args (W.drewN a) fun e w'' => e = .returned v ∧ ∃ m, w'' = W.drewN m := hc.mono fun _ _ ⟨he, hm⟩ => ⟨he, a, hm⟩
theorem quiet_v2 {P : Program} {f : FuncId} {args : Array Value} {W : World} {a n : Nat} {v : Value} (hc : Calls P f args (W.drewN (a + n)) fun e w' => e = .returned v ∧ w' = W.drewN (a + n)) :
    Calls P f args (W.drewN (a + n)) fun e w'' => e = .returned v ∧ ∃ m, w'' = W.drewN (a + m) := hc.mono fun _ _ ⟨he, hm⟩ => ⟨he, n, hm⟩
theorem quiet_b {P : Program} {f : FuncId} {args : Array Value} {W : World} {a : Nat} {v : Value} (hc : Calls P f args (W.drewN a) fun e w' => ∃ k, e = .returned v ∧ w' = (W.drewN a).drewN k) :
    Calls P f args (W.drewN a) fun e w'' => e = .returned v ∧ ∃ m, w'' = W.drewN m := hc.mono fun _ _ ⟨k, he, hm⟩ => ⟨he, a + k, by rw [hm, World.drewN_drewN]⟩
theorem quiet_b2 {P : Program} {f : FuncId} {args : Array Value} {W : World} {a n : Nat} {v : Value} (hc : Calls P f args (W.drewN (a + n)) fun e w' => ∃ k, e = .returned v ∧ w' = (W.drewN (a + n)).drewN k) :
    Calls P f args (W.drewN (a + n)) fun e w'' => e = .returned v ∧ ∃ m, w'' = W.drewN (a + m) := hc.mono fun _ _ ⟨k, he, hm⟩ => ⟨he, n + k, by rw [hm, World.drewN_drewN, Nat.add_assoc]⟩


set_option maxHeartbeats 16000000 in
set_option maxRecDepth 100000 in
theorem marks_walk (w : World) (C : Cf) (hok : Hid C.ok) (A : Option Addr) (c n : Nat) (l : List OpV) (hl : Hid (OpsV w w.heap.size A l)) (hn : Hid (l.length = n)) (hl2 : n ≤ maxLen) (hg : Hid (greatO l = false)) :
    Calls Try.prog 5 #[.agg #[.int .i64 C.b, .int .i64 C.r, .int .i64 C.h, .int .i64 C.l], .slice A n c] w fun e w' => e = .returned (.bool true) ∧ Hid (Below w.heap.size w w') := by
  have h100 := great_len hg.out
  rw [hn.out] at h100
  have HB0 : Hid (Below w.heap.size w (w.alloc (.cells #[.int .i64 C.b, .int .i64 C.r, .int .i64 C.h, .int .i64 C.l] 23))) := (Below.refl _ _).alloc (Nat.le_refl _) _
  have HX0 : Hid (Box (w.alloc (.cells #[.int .i64 C.b, .int .i64 C.r, .int .i64 C.h, .int .i64 C.l] 23)) w.heap.size 23 #[.int .i64 C.b, .int .i64 C.r, .int .i64 C.h, .int .i64 C.l]) := Box.new _ _ _
  have HL0 := ops_at hl HB0
  go_enter Try.func5, Try.ntmps5
  go_wp2_with (first
    | (go_at_call 7
       ((with_reducible refine (alive_any _).mono ?_); rintro e w1 ⟨rfl, HB1⟩)
       have HL1 : Hid (OpsV w1 w1.heap.size A l) := ops_at HL0 HB1
       have hx1 := hid (box_below HX0.out HB1.out))
    | (go_at_call 8
       ((with_reducible refine (great_any _ A c n l false HL1 hn hl2 hg).mono ?_); rintro e w2 ⟨rfl, HB2⟩)
       have HX2 := hid (box_below hx1.out HB2.out)
       have HL2 : Hid (OpsV w2 w2.heap.size A l) := ops_at HL1 HB2
       have HBw2 := bel_trans HB0 (bel_trans HB1 HB2)
       have c0 := HX2.out.cell 0
       have c1 := HX2.out.cell 1
       have c2 := HX2.out.cell 2
       have c3 := HX2.out.cell 3)
    | (go_at_call 9
       ((with_reducible refine (made_any _ hok).mono ?_); rintro e w3 ⟨g, rfl, HQ3, hg3, HB3⟩)
       have HQB3 : Hid (QB w2 w3 C g [] false) := ⟨hg3, ⟨none, HQ3.out _, by simp⟩, HB3.out⟩))
  clear c0 c1 c2 c3
  obtain ⟨gc, HGC⟩ : ∃ x, Hid (w.heap.size = x) := ⟨_, hid rfl⟩
  obtain ⟨cb, HCB⟩ : ∃ x, Hid (C.b = x) := ⟨_, hid rfl⟩
  obtain ⟨cr, HCR⟩ : ∃ x, Hid (C.r = x) := ⟨_, hid rfl⟩
  obtain ⟨ch, HCH⟩ : ∃ x, Hid (C.h = x) := ⟨_, hid rfl⟩
  obtain ⟨cl, HCL⟩ : ∃ x, Hid (C.l = x) := ⟨_, hid rfl⟩
  rw [HGC.out, HCB.out, HCR.out, HCH.out, HCL.out] at HX2
  rw [HGC.out]
  go_loopw [30] (fun i wr => ∃ k : Nat, k ≤ n ∧ i = .int .i64 k ∧ Hid (∃ L ov, QB w2 wr C g L ov ∧ Iv C L ov)) (fun i _ => n - (intOf i).toNat)
  case atStart => exact ⟨0, Nat.zero_le _, rfl, [], false, HQB3.out, Iv.start C hok.out⟩
  case round =>
    obtain ⟨k, hk, rfl, HFF⟩ := hrel
    obtain ⟨L, ov, hQ, hI⟩ := HFF.out
    have HQ := hid hQ
    have HBr := hid hQ.bel
    clear hQ
    by_cases hlt : k < n
    · have hkl : k < l.length := by rw [hn.out]; exact hlt
      obtain ⟨b0, o0, rfl, hbw, hcells⟩ := HL2.out (by intro e; rw [e] at hkl; simp at hkl)
      obtain ⟨tA, tc, hsl, e0, e2⟩ := hcells k hkl
      have c0 := (HBr.out.cell (p := ⟨b0, _, none⟩) hbw).trans e0
      have c2 := (HBr.out.cell (p := ⟨b0, _, none⟩) hbw).trans e2
      obtain ⟨bb, HBB⟩ : ∃ x, Hid (l[k].2 = x) := ⟨_, hid rfl⟩
      rw [HBB.out] at c2 hsl
      obtain ⟨x, HX⟩ : ∃ x : Nat, Hid (bb.length = x) := ⟨_, hid rfl⟩
      rw [HX.out] at c2
      obtain ⟨kk, HKK⟩ : ∃ x : Int, Hid (l[k].1 = x) := ⟨_, hid rfl⟩
      rw [HKK.out] at c0
      have HSL := hid hsl
      have i1 : (k : Int) < n := by omega
      have hxm : x ≤ 9223372036854775807 := by
        have h1 := hsl.1
        have h2 := hsl.2.1
        rw [HX.out] at h1
        unfold maxLen at h2
        omega
      clear e0 e2 hcells hsl
      obtain ⟨⟨out, ok, L', ov'⟩, HST⟩ : ∃ x, Hid (doF C kk bb L ov = x) := ⟨_, hid rfl⟩
      obtain ⟨ol, HOL⟩ : ∃ x : Nat, Hid (out.length = x) := ⟨_, hid rfl⟩
      obtain ⟨cnt, HCN⟩ : ∃ x : Nat, Hid (L.length = x) := ⟨_, hid rfl⟩
      obtain ⟨used, HUS⟩ : ∃ x : Nat, Hid (sumB L = x) := ⟨_, hid rfl⟩
      obtain ⟨cnt', HCN'⟩ : ∃ x : Nat, Hid (L'.length = x) := ⟨_, hid rfl⟩
      obtain ⟨nn, HUS'⟩ : ∃ x : Nat, Hid (sumB L' = x) := ⟨_, hid rfl⟩
      obtain ⟨hI', m1, m2, m3, m4, m5, m6⟩ := Iv.step hok.out hI HST.out
      have HI' := hid hI'
      obtain ⟨rb0, hqq, _⟩ := HQ.out.qu
      have hcn1 := hqq.cnt
      have hus1 := hqq.sum
      have hokk := hok.out
      unfold Cf.ok at hokk
      have hmm5 : kk = 1 → ok = false → cnt' = cnt ∧ nn = used ∧ ov' = ov := fun e1 e2 => by
        obtain ⟨e3, e4⟩ := m5 e1 e2
        rw [← HCN'.out, ← HUS'.out, e3, HCN.out, HUS.out]
        exact ⟨rfl, rfl, e4⟩
      have hmm6 : kk = 1 → ok = true → cnt' = cnt + 1 ∧ nn = used + x := fun e1 e2 => by
        obtain ⟨e3, e4⟩ := m6 e1 e2
        rw [HCN'.out, HCN.out] at e3
        rw [HUS'.out, HUS.out, HX.out] at e4
        exact ⟨e3, e4⟩
      rw [HUS'.out, HCH.out] at m1
      rw [HUS'.out] at m2
      rw [HUS'.out, HCL.out, HCH.out] at m3
      rw [HUS'.out, HCL.out] at m4
      rw [HCN.out, HCR.out] at hcn1
      rw [HUS.out, HCB.out] at hus1
      rw [HCB.out, HCR.out, HCH.out, HCL.out] at hokk
      clear m5 m6 hqq hI hI'
      have HXo : Hid (Box (wr.alloc (.cells #[.int .i64 kk, .slice tA x tc] 36)) wr.heap.size 36 #[.int .i64 kk, .slice tA x tc]) := Box.new _ _ _
      have HQo : Hid (QB w2 (wr.alloc (.cells #[.int .i64 kk, .slice tA x tc] 36)) C g L ov) := HQ.out.alloc _
      have HSo : Hid (SlB (wr.alloc (.cells #[.int .i64 kk, .slice tA x tc] 36)) (wr.alloc (.cells #[.int .i64 kk, .slice tA x tc] 36)).heap.size tA tc bb) := slb_at HSL HQo.out.bel
      have HNN : Hid ((kk = 1 ∧ ok = true ∧ cnt' = cnt + 1 ∧ nn = used + x ∧ kk ≠ 2) ∨ (kk = 1 ∧ ok = false ∧ cnt' = cnt ∧ nn = used ∧ ov' = ov ∧ kk ≠ 2) ∨ (kk = 2 ∧ ok = true ∧ kk ≠ 1) ∨ (kk = 2 ∧ ok = false ∧ kk ≠ 1) ∨ (kk ≠ 1 ∧ kk ≠ 2)) := by
        show _ ∨ _
        cases ok <;> by_cases e1 : kk = 1 <;> by_cases e2 : kk = 2 <;> simp_all
      have HRR : Hid ((ch ≤ nn ∧ cl < nn ∧ nn ≠ 0 ∧ ov' = true) ∨ (nn < ch ∧ cl < nn ∧ nn ≠ 0 ∧ ov' = ov) ∨ (nn < ch ∧ nn ≤ cl ∧ nn ≠ 0 ∧ (kk = 2 → ok = true → ov' = false)) ∨ (nn < ch ∧ nn ≤ cl ∧ nn = 0 ∧ ov' = false)) := by
        show _ ∨ _
        by_cases e1 : ch ≤ nn
        · exact .inl ⟨e1, by omega, by omega, m1 e1⟩
        · by_cases e2 : cl < nn
          · exact .inr (.inl ⟨by omega, e2, by omega, m3 e2 (by omega)⟩)
          · by_cases e3 : nn = 0
            · exact .inr (.inr (.inr ⟨by omega, by omega, e3, m2 e3⟩))
            · exact .inr (.inr (.inl ⟨by omega, by omega, e3, m4 (by omega)⟩))
      clear m1 m2 m3 m4 hmm5 hmm6
      have HFIN : ∀ w8, Hid (QB w2 w8 C g L' ov') → nn ≤ cb ∧ cnt' ≤ cr := fun w8 hq => by
        obtain ⟨_, hqq, _⟩ := hq.out.qu
        have h1 := hqq.cnt
        have h2 := hqq.sum
        rw [HCN'.out, HCR.out] at h1
        rw [HUS'.out, HCB.out] at h2
        exact ⟨h2, h1⟩
      have HFIN := hid HFIN
      have hkn : cnt ≤ 10000 := by omega
      have hkn2 : used ≤ 100000 := by omega
      obtain ⟨m1, m2, m3, m4, m5, m6⟩ := hokk
      rcases HNN.out with ⟨y1, y2, y3, y4, y5⟩ | ⟨y1, y2, y3, y4, y6, y5⟩ | ⟨y1, y2, y5⟩ | ⟨y1, y2, y5⟩ | ⟨y5, y6⟩
      all_goals
        rcases HRR.out with ⟨x1, x2, x3, x4⟩ | ⟨x1, x2, x3, x4⟩ | ⟨x1, x2, x3, x4⟩ | ⟨x1, x2, x3, x4⟩
      all_goals clear HNN HRR
      all_goals
        as_aux_lemma =>
          try subst y1
          try subst y2
          try subst y6
          try subst x4
          go_wp2_with (first
            | (go_at_call 17
               ((with_reducible refine (qb_over _ HQo).mono ?_); rintro e w4 ⟨rfl, rfl⟩))
            | (go_at_call 14
               ((with_reducible refine (qb_count _ HCN HQo).mono ?_); rintro e w5 ⟨rfl, rfl⟩))
            | (go_at_call 15
               ((with_reducible refine (qb_used _ HUS HQo).mono ?_); rintro e w6 ⟨rfl, rfl⟩))
            | (go_at_call 11
               ((with_reducible refine (qb_do _ _ HQo HSo HX HST HOL).mono ?_); rintro e w8 ⟨A8, c8, rfl, HO8, HQ8, HK8⟩)
               obtain ⟨z1, z2⟩ := HFIN.out w8 HQ8
               have hx8 := HK8.out.box HXo.out (by decide) (by decide)
               have c80 := hx8.cell 0
               have c81 := hx8.cell 1
               have hx9 := (HQ8.out.bel.cell (p := ⟨gc, 0, none⟩) HX2.out.lt).trans (HX2.out.cell 0)
               have hx10 := (HQ8.out.bel.cell (p := ⟨gc, 1, none⟩) HX2.out.lt).trans (HX2.out.cell 1)
               have hx11 := (HQ8.out.bel.cell (p := ⟨gc, 2, none⟩) HX2.out.lt).trans (HX2.out.cell 2)
               have hx12 := (HQ8.out.bel.cell (p := ⟨gc, 3, none⟩) HX2.out.lt).trans (HX2.out.cell 3)
               clear hx8)
            | (go_at_call 15
               ((with_reducible refine (qb_used _ HUS' HQ8).mono ?_); rintro e w9 ⟨rfl, rfl⟩))
            | (go_at_call 17
               ((with_reducible refine (qb_over _ HQ8).mono ?_); rintro e w9 ⟨rfl, rfl⟩))
            | (go_at_call 14
               ((with_reducible refine (qb_count _ HCN' HQ8).mono ?_); rintro e w9 ⟨rfl, rfl⟩)))
          have QC : ∀ a : Nat, Calls Try.prog 14 #[.pointer (some ⟨g, 0, none⟩)] (w9.drewN a) fun e w' => e = .returned (.int .i64 cnt') ∧ w' = w9.drewN a := fun a => qb_count (w9.drewN a) HCN' (hid (HQ8.out.drewN a))
          have QC := hid QC
          have hxd9 : ∀ d : Nat, (w9.drewN d).cell? ⟨gc, 0, none⟩ = some (.int .i64 cb) := fun _ => hx9
          have hxd10 : ∀ d : Nat, (w9.drewN d).cell? ⟨gc, 1, none⟩ = some (.int .i64 cr) := fun _ => hx10
          have v1 : decide (cb < nn) = false := by simp; omega
          have v2 : decide (cr < cnt') = false := by simp; omega
          try have v3 : decide ((cb : Int) < (used : Int) + x) = false := decide_eq_false (by omega)
          try have v4 : decide ((cr : Int) < (cnt : Int) + 1) = false := decide_eq_false (by omega)
          go_quiet (first
            | (go_at_call 14; first | (with_reducible exact quiet_v2 (QC.out _)) | (with_reducible exact quiet_v (QC.out _))))
          go_wp2
          go_roundw
          case rel => exact ⟨k + 1, by omega, by go_num, L', _, HQ8.out.drewN nq, HI'.out⟩
          case measure => simp [intOf]; omega
    · go_wp2
      go_ret
      exact ⟨rfl, (bel_trans HBw2 (hid HBr.out)).out⟩
end Go.Proofs.Ytibkbcffoabhfaa
