import Derived.Test.YtggcampdkgfmgaaGreatUD
namespace Go.Proofs.YtggcampdkgfmgaaGreat
open Go.RowKit

/-! TopTyped: the walk. -/
set_option maxRecDepth 100000 in
set_option maxHeartbeats 16000000 in
theorem typed_walk (w : World) (t : Tm) (ht : t.Ok) (A : Option Addr) (c n : Nat) (bs : List UInt8) (hb : Hid (SlB w w.heap.size A c bs)) (hn : Hid (bs.length = n)) :
    Calls Tryz.prog 13 #[.agg t.cs, .slice A n c] w fun e w' => e = .returned (.bool true) ∧ Hid (Below w.heap.size w w') := by
  have hs := cs_size ht.len
  have K0 := old26 w t
  obtain ⟨t6, ht6⟩ : ∃ t6, Hid (tP t = t6) := ⟨_, hid rfl⟩
  have ok6 : t6.Ok := by rw [← ht6.out]; exact (tP_T ht).1
  obtain ⟨t7, ht7⟩ : ∃ t7, Hid (setT t6 53 true = t7) := ⟨_, hid rfl⟩
  have TL := hid (tT_T ht)
  have e7 : tT t = t7 := by rw [← ht7.out, ← ht6.out]; rfl
  rw [e7] at TL
  have ok7 : t7.Ok := TL.out.1
  have hs7 := cs_size ok7.len
  have cS : ∀ W, Calls Tryz.prog 51 #[.agg t.cs] W fun e w' => e = .returned (.agg t6.cs) ∧ Hid (Below W.heap.size W w') := fun W => by rw [← ht6.out]; exact plainSet_any W t ht
  have c53 : ∀ W, Calls Tryz.prog 16 #[.agg t6.cs, .int .i64 53, .bool true] W fun e w' => e = .returned (.agg t7.cs) ∧ Hid (Below W.heap.size W w') := fun W => by rw [← ht7.out]; exact set_any W t6 ok6 53 true
  clear e7
  obtain ⟨p1, hp1⟩ := tt_b t7 bs
  go_enter Tryz.func13, Tryz.ntmps13
  go_upto_region 4 with (first
    | (refine bx26 (by rfl) _ (by rfl) _ (by rfl) hs ?_
       intro G0)
    | (go_at_call 50
       (with_reducible refine (shaken_any _).mono ?_)
       rintro e u1 ⟨rfl, k⟩
       have G1 := hid (box_below G0.out k.out)
       have K1 := bel_t K0 k.out
       clear k G0 K0)
    | (refine ld26 (by rfl) _ (by rfl) _ (by rfl) t.cs G1.out hs ?_)
    | (go_at_call 51
       (with_reducible refine (cS _).mono ?_)
       rintro e u2 ⟨rfl, k2⟩
       have X2 := hid (box_below G1.out k2.out)
       have K2 := bel_t K1 k2.out
       clear k2 G1 K1)
    | (go_at_call 16
       (with_reducible refine (c53 _).mono ?_)
       rintro e u3 ⟨rfl, k3⟩
       have X3 := hid (box_below X2.out k3.out)
       have K3 := bel_t K2 k3.out
       clear k3 X2 K2)
    | (refine st26 (by rfl) _ _ (by rfl) _ (by rfl) t7 ok7.len (by rfl) _ X3.out hs ?_
       intro u4 X4 k4
       have K4 := hid (K3.out.trans (k4.out.below (Nat.le_refl _)))
       clear k4 X3 K3))
  cases p1
  · go_wp2_with (first
      | (refine ld26 (by rfl) _ (by rfl) _ (by rfl) t7.cs X4.out hs7 ?_)
      | (go_at_call 52
         (with_reducible refine (plainText_b _ t7 ok7 A n c bs (slb_at hb K4) hn hp1).mono ?_)
         rintro e u5 ⟨rfl, k5⟩
         have K5 := bel_t K4 k5.out))
    go_ret
    exact ⟨rfl, K5⟩
  have P1 := hid (hp1.out.1 rfl)
  have hn1 : n ≤ 200 := by have := P1.out.1; have := hn.out; omega
  have LT : Hid (LnT t7) := hid ⟨ok7, TL.out.2.2.1, TL.out.2.2.2.1, TL.out.2.2.2.2.1, TL.out.2.2.2.2.2.1, TL.out.2.2.2.2.2.2.1, TL.out.2.2.2.2.2.2.2, P1.out.p.2.1⟩
  have h53 := hid TL.out.2.1
  have h51 := hid TL.out.2.2.1
  have hfit := LnE.text LT.out h53.out bs [] (D := newD t7) ⟨LnAt.new ok7, rfl, rfl⟩ P1.out.e (by have := P1.out.1; simp only [List.length_nil]; omega)
  rw [List.nil_append] at hfit
  obtain ⟨Dn, hDn⟩ : ∃ D, Hid (inAll (newD t7) bs = D) := ⟨_, hid rfl⟩
  rw [hDn.out] at hfit
  have E0 := hid hfit.1
  have sg0 := hid hfit.2
  clear hfit cS c53
  obtain ⟨F, hF⟩ : ∃ F, Hid ((spl bs).1.flatten = F) := ⟨_, hid rfl⟩
  obtain ⟨pp, hpp⟩ : ∃ p, Hid ((spl bs).2 = p) := ⟨_, hid rfl⟩
  obtain ⟨ws0, hws0⟩ : ∃ ws, Hid ((spl bs).1 = ws) := ⟨_, hid rfl⟩
  have hFl : Hid (F.length + pp.length = n) := hid (by rw [← hF.out, ← hpp.out, ← hn.out]; exact spl_len _ bs rfl)
  have hEnd : Hid (Ends ws0) := hid (by rw [← hws0.out]; exact (spl_flat _ bs rfl).2.1)
  rw [hpp.out, hws0.out] at E0
  have hF0 : Hid (ws0.flatten = F) := hid (by rw [← hF.out, hws0.out])
  have hev : Hid (evs 0 (typeM (newD t7) bs).2.2 = []) := hid (by rw [sg0.out]; rfl)
  go_upto_region 12 with (first
    | (refine ld26 (by rfl) _ (by rfl) _ (by rfl) t7.cs X4.out hs7 ?_)
    | (go_at_call 52
       (with_reducible refine (plainText_b _ t7 ok7 A n c bs (slb_at hb K4) hn hp1).mono ?_)
       rintro e v ⟨rfl, k5⟩
       have X5 := hid (box_below X4.out k5.out)
       have K5 := bel_t K4 k5.out
       clear k5 X4 K4)
    | (refine ld26 (by rfl) _ (by rfl) _ (by rfl) t7.cs X5.out hs7 ?_)
    | (go_at_call 53
       (with_reducible refine (opened_any v t7 ok7).mono ?_)
       rintro e v1 ⟨g, p, S1, rfl, H1⟩
       have H1 : Hid (AlP v v1 g p S1 { newPt t7 ⟨0, 0, 0, 0⟩ with sl := 1, d := newD t7 }) := H1)
    | (go_at_call 41
       (with_reducible refine (mw_al2 H1 (hid (Inv.new ok7)) A n c bs (slb_at (slb_at hb K5) (hid H1.out.bel)) hn (by omega) (AlP.fr H1 (hid (slb_lt (slb_at hb K5)))) hDn).mono ?_)
       rintro e v2 ⟨A14, c14, S2, rfl, H2⟩))
  clear H1 hev sg0
  go_wp2_with fail
  go_loopg [9, 48] F.length (fun gk a i wr => ∃ (k : Nat) (S : Nat → Prop) (D : Ds) (ws : List (List UInt8)) (R : List UInt8) (A9 : Option Addr) (m9 c9 : Nat), ws.flatten.length = gk ∧ a = .slice A9 m9 c9 ∧ i = .int .i64 k ∧ k ≤ R.length ∧ Hid (R.length = m9) ∧ Hid (R ++ ws.flatten = F) ∧ Hid (Ends ws) ∧ Hid (AlP v wr g p S { newPt t7 ⟨0, 0, 0, 0⟩ with sl := 1, d := D }) ∧ Hid (LnE t7 ws pp bs D) ∧ Hid (wr.ownsRow 0 5 1 (.slice A9 m9 c9) m9 (bv R)) ∧ Hid (∀ x, A9 = some x → v.heap.size ≤ x.block ∧ ¬ GS g S x.block ∧ x.block < wr.heap.size))
  case atStart => exact ⟨0, S2, Dn, ws0, [], none, 0, 0, by rw [hF0.out], rfl, rfl, Nat.zero_le _, hid rfl, by rw [List.nil_append]; exact hF0, hEnd, H2, E0, own_nil0 _, hid (fun x h => by cases h)⟩
  case round =>
    clear H2 E0 hEnd hF0
    obtain ⟨k, S, D, ws, R, A9, m9, c9, hgk, rfl, rfl, hkR, hm9, hRF, HEnd, H3, E3, O9, F9⟩ := hrel
    have hm9F : R.length + ws.flatten.length = F.length := by rw [← hRF.out, List.length_append]
    have hk3 : k ≤ 200 := by have := hFl.out; omega
    have hki : (k : Int) < 300 := by omega
    have hm9b : m9 ≤ 200 := by have := hm9.out; have := hFl.out; omega
    have I3 := hid E3.out.ln.inv
    cases ws with
    | cons l ws2 =>
      have hu : (l :: ws2).flatten.length + pp.length < 768 := by have := hFl.out; omega
      have hrd := E3.out.read h51.out hu (by have := P1.out.1; omega) (k := 99) (by decide)
      rw [show ((99 : Nat) : Int) = 99 from rfl] at hrd
      obtain ⟨hrd1, hrd2⟩ := hrd
      obtain ⟨b, hbl⟩ : ∃ b, Hid (l.take 99 = b) := ⟨_, hid rfl⟩
      obtain ⟨ws3, hws3⟩ : ∃ b, Hid ((if l.length ≤ 99 then ws2 else l.drop 99 :: ws2) = b) := ⟨_, hid rfl⟩
      obtain ⟨D2, hD2⟩ : ∃ b, Hid ((readD D 99 0).1 = b) := ⟨_, hid rfl⟩
      rw [hws3.out, hD2.out] at hrd2
      rw [hbl.out] at hrd1
      have E4 := hid hrd2
      have hlast := read_last HEnd.out
      rw [hbl.out] at hlast
      have hE4 : Hid (Ends ws3) := hid (by rw [← hws3.out]; exact HEnd.out.next 99)
      have hfl : Hid (b ++ ws3.flatten = (l :: ws2).flatten) := hid (by rw [← hws3.out, ← hbl.out]; exact next_flat l ws2 99)
      have hrp : Hid (rdP { newPt t7 ⟨0, 0, 0, 0⟩ with sl := 1, d := D } 99 0 = ({ newPt t7 ⟨0, 0, 0, 0⟩ with sl := 1, d := D2 }, b, 0)) := hid (by
        unfold rdP rnP newPt
        rw [if_neg (by show ¬ false = true; decide)]
        show (_, _, _) = _
        rw [hrd1, hD2.out]
        rfl)
      clear hrd1 hrd2
      have hb0 := hid hlast.1
      have hb99 := hid hlast.2
      clear hlast
      obtain ⟨N, hN⟩ : ∃ N, Hid (b.length = N) := ⟨_, hid rfl⟩
      have hN0 : 0 < N := by rw [← hN.out]; exact hb0.out
      have hN99 : N ≤ 99 := by rw [← hN.out, ← hbl.out, List.length_take]; omega
      have hNF : R.length + N + ws3.flatten.length = F.length := by
        have h1 := congrArg List.length hfl.out
        rw [List.length_append, hN.out] at h1
        omega
      go_upto_region 17 with (first
        | (go_at_call 43
           (with_reducible refine (rd_al2 H3 I3 hrp).mono ?_)
           rintro e w3 ⟨A3, n3, c3, S4, rfl, N3, L3, H4, Y4⟩
           obtain rfl : N = n3 := hN.out.symm.trans N3.out
           have O10 := own_but O9 Y4.out.but (fun q hq => (F9.out q hq).2.1)
           have F10 : Hid (∀ x, A9 = some x → v.heap.size ≤ x.block ∧ ¬ GS g S4 x.block ∧ x.block < w3.heap.size) := hid (fun x hx => ⟨(F9.out x hx).1, (fun hg => by
             rcases GS.new2 Y4.out hg with h1 | h1
             · exact (F9.out x hx).2.1 h1
             · have := (F9.out x hx).2.2; omega), Nat.lt_of_lt_of_le (F9.out x hx).2.2 Y4.out.but.size⟩)))
      clear H3 O9 F9 hrp
      obtain ⟨b0, o0, y, hA3, hy, cy⟩ := slb_cell L3.out hN.out (j := N - 1) (by omega)
      subst hA3
      have hyt := y.toNat_lt
      have HY := hid hy
      clear hy
      have hz : ((N : Int) == 0) = false := beq_eq_false_iff_ne.2 (by omega)
      have hwN : IntKind.i64.wrap ((N : Int) - 1) = ((N - 1 : Nat) : Int) := by rw [IntKind.wrap_i64]; omega
      have hNlt : N - 1 < N := by omega
      go_cut [73] (fun x wx => x = .bool false ∧ Hid (Below w3.heap.size w3 wx))
      case first =>
        by_cases hy10 : y = 10
        · have q1 : ((y.toNat : Int) == 10) = true := by rw [hy10]; rfl
          have q2 : ((y.toNat : Int) != 10) = false := by rw [bne, q1]; rfl
          clear hy10
          go_wp2_with fail
          go_meet
          exact ⟨rfl, hid (Below.refl _ _)⟩
        · have q1 : ((y.toNat : Int) == 10) = false := u8_ne hy10
          have q2 : ((y.toNat : Int) != 10) = true := by rw [bne, q1]; rfl
          have q3 : N = 99 := by
            by_cases h : N < 99
            · have h1 := hb99.out (by rw [hN.out]; exact h)
              rw [hN.out, HY.out] at h1
              injection h1 with h1
              exact absurd h1 hy10
            · omega
          have q4 : ¬ (N : Int) < 99 := by omega
          have q5 : ¬ N < 99 := by omega
          clear hy10 q3
          go_wp2_with fail
          go_meet
          exact ⟨rfl, hid (Below.refl _ _)⟩
      case rest =>
      obtain ⟨rfl, K7⟩ := hcut
      obtain ⟨v7, hv7⟩ : ∃ x, x = wc := ⟨_, rfl⟩
      subst hv7
      have H7 := hid (H4.out.grow K7.out)
      have O11 := hid (own_keep O10.out K7.out)
      have L7 := slb_at L3 K7
      have F11 : Hid (∀ x, A9 = some x → v.heap.size ≤ x.block ∧ ¬ GS g S4 x.block ∧ x.block < v7.heap.size) := hid (fun x hx => ⟨(F10.out x hx).1, (F10.out x hx).2.1, Nat.lt_of_lt_of_le (F10.out x hx).2.2 K7.out.size⟩)
      clear H4 O10 L3 F10 hz hwN cy
      go_wp2_with (first
        | (at_builtin
           (refine app_but v7 rfl _ _ rfl m9 c9 A9 R (by rfl) O11 (some ⟨b0, o0, none⟩) N c3 b (by rfl) L7 hN.out (by omega) ?_
            intro A12 c12 u12 O12 B12 F12)))
      go_roundg ws3.flatten.length
      case measure => rw [← hgk]; have h1 := congrArg List.length hfl.out; rw [List.length_append, hN.out] at h1; omega
      case rel => exact ⟨k + 1, S4, D2, ws3, R ++ b, A12, m9 + N, c12, rfl, rfl, by go_num, by rw [List.length_append, hN.out]; omega, hid (by rw [List.length_append, hm9.out, hN.out]), hid (by rw [List.append_assoc, hfl.out, hRF.out]), hE4,
        hid ⟨H7.out.at_.keep B12.out (fun x hg => by
          rintro ⟨q, hq, rfl⟩
          exact (F11.out q hq).2.1 hg), H7.out.new, H7.out.bel.trans (B12.out.below H7.out.bel.size (fun x hx => by obtain ⟨q, hq, rfl⟩ := hx; exact (F11.out q hq).1))⟩, E4, O12,
        hid (fun x hx => by
          rcases F12.out x hx with ⟨q, hq, e⟩ | h
          · rw [← e]
            exact ⟨(F11.out q hq).1, (F11.out q hq).2.1, Nat.lt_of_lt_of_le (F11.out q hq).2.2 B12.out.size⟩
          · exact ⟨Nat.le_trans H7.out.bel.size h, fun hg => by have := GS.lt2 H7.out hg; omega, by subst hx; exact own_lt O12 rfl⟩)⟩
    | nil =>
      have hnone := E3.out.ln.none h51.out 99
      have hrp : Hid (rdP { newPt t7 ⟨0, 0, 0, 0⟩ with sl := 1, d := D } 99 0 = ({ newPt t7 ⟨0, 0, 0, 0⟩ with sl := 1, d := D }, [], 10)) := hid (by
        unfold rdP rnP newPt
        rw [if_neg (by show ¬ false = true; decide)]
        show (_, _, _) = _
        rw [hnone]
        rfl)
      have hRF2 : Hid (R = F) := hid (by have := hRF.out; rwa [List.flatten_nil, List.append_nil] at this)
      clear hnone HEnd hkR hgk hm9F
      obtain ⟨W, hW⟩ : ∃ W, Hid (D.out = W) := ⟨_, hid rfl⟩
      obtain ⟨M, hM⟩ : ∃ M, Hid ((L12.bytesP (L12.poF t7) 0 bs).2 = M) := ⟨_, hid rfl⟩
      have hWM : Hid (L12.bytesP (L12.poF t7) 0 bs = (W, M)) := hid (by rw [← hW.out, E3.out.ec.out, ← hM.out])
      have hWl : W.length ≤ 600 := by rw [← hW.out]; exact E3.out.ec.len (by have := P1.out.1; omega)
      obtain ⟨ew, hew⟩ : ∃ z : Int, Hid ((if W = [] then (10 : Int) else 0) = z) := ⟨_, hid rfl⟩
      have cB : ∀ (W' : World) (h : Hid (SlB W' W'.heap.size A c bs)), Calls Tryz.prog 36 #[.agg t7.cs, .int .i64 0, .slice A n c] W' (L12.RetPO W' (W, M)) := fun W' h => by
        have := L12.bytespo_any W' ok7 0 A n c bs (f := L12.poF t7) (hid rfl) h hn.out (by omega)
        rwa [show nrm 0 = 0 from rfl, hWM.out] at this
      go_upto_region 23 with (first
        | (go_at_call 43
           (with_reducible refine (rd_al2 H3 I3 hrp).mono ?_)
           rintro e w3 ⟨A3, n3, c3, S4, rfl, -, -, H4, Y4⟩
           have O10 := own_but O9 Y4.out.but (fun q hq => (F9.out q hq).2.1)
           have F10 : Hid (∀ x, A9 = some x → ¬ GS g S4 x.block) := hid (fun x hx hg => by
             rcases GS.new2 Y4.out hg with h1 | h1
             · exact (F9.out x hx).2.1 h1
             · have := (F9.out x hx).2.2; omega))
        | (go_at_call 44
           (with_reducible refine (mr_al2 H4 I3 E3.out.ln.s (by rw [hW.out]; exact hWl) hW hew).mono ?_)
           rintro e w5 ⟨A5, n5, c5, S5, P5, rfl, N5, L5, H5, Y5⟩
           have O11 := own_but O10 Y5.out.but F10.out
           have X6 := hid (box_below X5.out H5.out.bel)
           have K6 : Hid (Below w.heap.size w w5) := hid (K5.out.trans (H5.out.bel.mono K5.out.size)))
        | (refine ld26 (by rfl) _ (by rfl) _ (by rfl) t7.cs X6.out hs7 ?_)
        | (go_at_call 36
           (with_reducible refine (cB _ (slb_at hb K6)).mono ?_)
           rintro e u6 ⟨AW, nW, cW, rfl, hnW, OW, k6⟩
           have O12 := hid (own_keep O11.out k6.out)
           have L6 := slb_at L5 k6
           have K7 := bel_t K6 k6.out
           have LW : Hid (SlB u6 u6.heap.size AW cW W) := slb_own hnW OW))
      have hnW : Hid (W.length = nW) := hnW
      obtain rfl : n5 = nW := N5.out.symm.trans hnW.out
      have L7 := slb_at hb K7
      have LR : Hid (SlB u6 u6.heap.size A9 c9 F) := by have := own0_slb hm9 O12; rwa [hRF2.out] at this
      have hmF : Hid (F.length = m9) := hid (by rw [← hRF2.out]; exact hm9.out)
      clear O12 O11 OW H5 Y5 H3 H4 Y4 O9 O10 F9 F10 E3 I3 hrp cB X6 L5 K6 hm9
      have hFn : F.length ≤ n := by have := hFl.out; omega
      obtain ⟨f, hf⟩ : ∃ f, Hid (F.length = f) := ⟨_, hid rfl⟩
      rw [hf.out] at hFn
      obtain rfl : f = m9 := hf.out.symm.trans hmF.out
      go_wp2_with fail
      go_loopg [16] (n - f) (fun gk i wr => i = .int .i64 ((f + gk : Nat) : Int) ∧ f + gk ≤ n ∧ Hid (Below u6.heap.size u6 wr))
      case atStart => exact ⟨by congr 2; omega, by omega, hid (Below.refl _ _)⟩
      case round =>
        obtain ⟨rfl, hle, K8⟩ := hrel
        have K9 : Hid (Below w.heap.size w wr) := hid (K7.out.trans (K8.out.mono K7.out.size))
        have L8 := slb_at hb K9
        by_cases hgk : gk = 0
        · subst hgk
          rw [Nat.add_zero] at hle ⊢
          have hfr := run_front L8.out hn.out hle
          have S8 : Hid (SlB wr wr.heap.size A c F) := by
            have h1 := L8.out.take f
            have h2 := front_flat bs
            rw [hF.out, hf.out] at h2
            rw [h2] at h1
            exact hid h1
          have M5 := slb_at L6 K8
          have MW := slb_at LW K8
          have MR := slb_at LR K8
          have hl1 : n5 ≤ maxLen := by have := hnW.out; unfold maxLen; omega
          have hl2 : f ≤ maxLen := by unfold maxLen; omega
          by_cases h0 : f = 0
          · have q0 : ¬ (f : Int) > 0 := by omega
            have q1 : ¬ 0 < f := by omega
            clear h0
            by_cases hW0 : W = []
            · obtain rfl : 10 = ew := by rw [← hew.out, if_pos hW0]
              obtain rfl : 0 = n5 := by rw [← hnW.out, hW0]; rfl
              clear hW0
              go_wp2_with (first
                | (go_at_call 22
                   (first
                     | ((with_reducible refine (bytes_two wr A5 AW c5 cW _ _ W W N5.out hnW.out rfl M5 MW hl1).mono ?_)
                        rintro e u11 ⟨rfl, k11⟩
                        have K12 := bel_t K9 k11.out
                        have MR2 := slb_at MR k11
                        have S82 := slb_at S8 k11)
                     | ((with_reducible refine (bytes_two u11 A9 _ c9 c f f F F hf.out hf.out rfl MR2 S82 hl2).mono ?_)
                        rintro e u12 ⟨rfl, k12⟩
                        have K13 := bel_t K12 k12.out))))
              go_ret
              exact ⟨rfl, K13⟩
            · obtain rfl : 0 = ew := by rw [← hew.out, if_neg hW0]
              clear hW0
              go_wp2_with (first
                | (go_at_call 22
                   (first
                     | ((with_reducible refine (bytes_two wr A5 AW c5 cW _ _ W W N5.out hnW.out rfl M5 MW hl1).mono ?_)
                        rintro e u11 ⟨rfl, k11⟩
                        have K12 := bel_t K9 k11.out
                        have MR2 := slb_at MR k11
                        have S82 := slb_at S8 k11)
                     | ((with_reducible refine (bytes_two u11 A9 _ c9 c f f F F hf.out hf.out rfl MR2 S82 hl2).mono ?_)
                        rintro e u12 ⟨rfl, k12⟩
                        have K13 := bel_t K12 k12.out))))
              go_ret
              exact ⟨rfl, K13⟩
          · have q0 : (f : Int) > 0 := by omega
            have q1 : 0 < f := by omega
            obtain ⟨b0, o0, y, hA, hy, cy⟩ := slb_cell L8.out hn.out (j := f - 1) (by omega)
            subst hA
            have hbe := back_end (bs := bs) (by rw [hF.out, hf.out]; exact q1)
            rw [hF.out, hf.out, hy] at hbe
            injection hbe with hbe
            subst hbe
            have hwf : IntKind.i64.wrap ((f : Int) - 1) = ((f - 1 : Nat) : Int) := by rw [IntKind.wrap_i64]; omega
            have hlt1 : f - 1 < n := by omega
            clear h0 hy
            rw [show ((10 : UInt8).toNat : Int) = 10 from rfl] at cy
            by_cases hW0 : W = []
            · obtain rfl : 10 = ew := by rw [← hew.out, if_pos hW0]
              obtain rfl : 0 = n5 := by rw [← hnW.out, hW0]; rfl
              clear hW0
              go_wp2_with (first
                | (go_at_call 22
                   (first
                     | ((with_reducible refine (bytes_two wr A5 AW c5 cW _ _ W W N5.out hnW.out rfl M5 MW hl1).mono ?_)
                        rintro e u11 ⟨rfl, k11⟩
                        have K12 := bel_t K9 k11.out
                        have MR2 := slb_at MR k11
                        have S82 := slb_at S8 k11)
                     | ((with_reducible refine (bytes_two u11 A9 _ c9 c f f F F hf.out hf.out rfl MR2 S82 hl2).mono ?_)
                        rintro e u12 ⟨rfl, k12⟩
                        have K13 := bel_t K12 k12.out))))
              go_ret
              exact ⟨rfl, K13⟩
            · obtain rfl : 0 = ew := by rw [← hew.out, if_neg hW0]
              clear hW0
              go_wp2_with (first
                | (go_at_call 22
                   (first
                     | ((with_reducible refine (bytes_two wr A5 AW c5 cW _ _ W W N5.out hnW.out rfl M5 MW hl1).mono ?_)
                        rintro e u11 ⟨rfl, k11⟩
                        have K12 := bel_t K9 k11.out
                        have MR2 := slb_at MR k11
                        have S82 := slb_at S8 k11)
                     | ((with_reducible refine (bytes_two u11 A9 _ c9 c f f F F hf.out hf.out rfl MR2 S82 hl2).mono ?_)
                        rintro e u12 ⟨rfl, k12⟩
                        have K13 := bel_t K12 k12.out))))
              go_ret
              exact ⟨rfl, K13⟩
        · have hpos : 0 < f + gk := by omega
          obtain ⟨b0, o0, y, hA, hy, cy⟩ := slb_cell L8.out hn.out (j := f + gk - 1) (by omega)
          subst hA
          have hyt := y.toNat_lt
          have hy10 : y ≠ 10 := back_at (bs := bs) (k := f + gk) (by rw [hF.out, hf.out]; omega) (by rw [hn.out]; exact hle) (by rw [hF.out, hf.out]; omega) hy
          obtain ⟨j, hj⟩ : ∃ j, f + gk = j := ⟨_, rfl⟩
          rw [hj] at hle hpos cy ⊢
          have q0 : (j : Int) > 0 := by omega
          have q1 : ((y.toNat : Int) == 10) = false := u8_ne hy10
          have q2 : ((y.toNat : Int) != 10) = true := by rw [bne, q1]; rfl
          have hwf : IntKind.i64.wrap ((j : Int) - 1) = ((j - 1 : Nat) : Int) := by rw [IntKind.wrap_i64]; omega
          have hlt1 : j - 1 < n := by omega
          clear hy hy10
          go_wp2_with fail
          go_roundg (gk - 1)
          case measure => omega
          case rel => exact ⟨by congr 2; omega, by omega, K8⟩
end Go.Proofs.YtggcampdkgfmgaaGreat
