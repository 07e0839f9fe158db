import Derived.Test.YtmbnjaahiopanaaGP
namespace Go.Proofs.Ytmbnjaahiopanaa
open Go.RowKit

theorem lisV_sizes {w : World} {B : Nat} {A : Option Addr} {ls : List (List UInt8)} (h : LisV w B A ls) : ∀ b ∈ ls, b.length ≤ maxLen := by
  intro b hb
  obtain ⟨k, hk, rfl⟩ := List.getElem_of_mem hb
  obtain ⟨_, _, _, _, hc⟩ := h (by intro e; subst e; simp at hk)
  obtain ⟨A', c', _, hs⟩ := hc k hk
  exact Nat.le_trans hs.1 hs.2.1
theorem lisV_at {w w2 : World} {A : Option Addr} {ls : List (List UInt8)} (h : Hid (LisV w w.heap.size A ls)) (hb : Hid (Below w.heap.size w w2)) : Hid (LisV w2 w2.heap.size A ls) := (h.out.below hb.out).more hb.out.size

/-- What holds behind some pieces that have been handed to the framer at gf. -/
structure Bk (l : List (List UInt8)) (T : Nat) (w wr : World) (gf : Nat) (SA : Option Addr) (sc : Nat) (st : List UInt8) (GA : Option Addr) (gc gk : Nat) (FA : Option Addr) (fc fl : Nat) (got : List (List UInt8)) (fbuf : List UInt8) (cs : List Value) : Prop where
  fed : Fed l got fbuf st T
  str : SF wr wr.heap.size SA sc st
  glen : got.length = gk
  flen : fbuf.length = fl
  gown : wr.ownsRow w.heap.size 22 1 (.slice GA gk gc) gk cs
  gpl : PL wr w.heap.size got cs
  fbox : Box wr gf 34 #[.slice FA fl fc, .bool false]
  fown : wr.ownsRow w.heap.size 5 1 (.slice FA fl fc) fl (bv fbuf)
  bel : Below w.heap.size w wr
  gfw : w.heap.size ≤ gf
theorem bk_next {l : List (List UInt8)} {T : Nat} {w wr w7 : World} {gf : Nat} {SA : Option Addr} {sc : Nat} {st : List UInt8} {GA : Option Addr} {gc gk : Nat} {FA : Option Addr} {fc fl : Nat} {got : List (List UInt8)} {fbuf : List UInt8} {cs : List Value}
    (h : Bk l T w wr gf SA sc st GA gc gk FA fc fl got fbuf cs) {sm : List (List UInt8)} {left : List UInt8} {A7 LA7 : Option Addr} {m7 c7 k7 lc7 : Nat} (hk : FedK wr.drew w7 sm left A7 m7 c7 LA7 k7 lc7) :
    ∃ cs7, ∀ w8, w8 = (w7.setCell ⟨gf, 0, none⟩ (.slice A7 m7 c7)).setCell ⟨gf, 1, none⟩ (.bool false) →
      w8.ownsRow w.heap.size 22 1 (.slice GA gk gc) gk cs ∧ Lies w8 w8.heap.size LA7 cs7 ∧ cs7.length = k7 * 1 ∧ (∀ u ∈ cs7, u.oneCell' = true) ∧ w.heap.size ≤ w8.heap.size ∧
      ∀ (w9 : World) (GA' : Option Addr) (gc' : Nat) (SA' : Option Addr) (sc' : Nat) (st' : List UInt8), w9.ownsRow w.heap.size 22 1 (.slice GA' (gk + k7) gc') (gk + k7) (cs ++ cs7) → w8.grownBy w9 (Value.slice GA gk gc).ownBlock → Fed l (got ++ sm) left st' T → SF wr wr.heap.size SA' sc' st' →
        Bk l T w w9 gf SA' sc' st' GA' gc' (gk + k7) A7 c7 m7 (got ++ sm) left (cs ++ cs7) := by
  obtain ⟨M, cs7, hM1, hM2, ho5, hl7, hp7, _⟩ := hk.more
  have hbd : Below wr.heap.size wr w7 := (bel_drewN (Below.refl _ wr) 1).trans hk.bel
  have hw : w.heap.size ≤ wr.heap.size := h.bel.size
  have hMw : w.heap.size ≤ M := Nat.le_trans hw hM1
  obtain ⟨hx8, hb8, hk8⟩ := two_finT (u0 := .slice A7 m7 c7) (u1 := .bool false) (h.bel.trans (hbd.mono hw)) h.gfw (box_below h.fbox hbd)
  have k8 : Kept 0 [34] w7 _ := hk8.mono (Nat.zero_le _) (fun _ h => h)
  have k78 : Kept 0 [34] wr ((w7.setCell ⟨gf, 0, none⟩ (.slice A7 m7 c7)).setCell ⟨gf, 1, none⟩ (.bool false)) := (Kept.of_below hbd 0 [34]).trans k8
  have hgo8 := k78.own h.gown (by decide)
  have hp7' : PL w7 w.heap.size sm cs7 := hp7.base hw
  refine ⟨cs7, fun w8 hw8 => ?_⟩
  subst hw8
  refine ⟨hgo8, ?_, ?_, hp7'.one, hb8.size, ?_⟩
  · have := hk8.own hl7 (by decide)
    exact Lies.own this
  · rw [hp7.1, hk.lenp, Nat.mul_one]
  · intro w9 GA' gc' SA' sc' st' ho9 hg9 hfed hsf
    have k9 : Kept w.heap.size [22] ((w7.setCell ⟨gf, 0, none⟩ (.slice A7 m7 c7)).setCell ⟨gf, 1, none⟩ (.bool false)) w9 := (Kept.refl _ _ _).grown hg9 (fun k hk => by obtain ⟨a, cs, b⟩ := own_box hgo8 k hk; exact ⟨a, 22, cs, by simp, b⟩)
    have k9' : Kept 0 [22, 34] _ w9 := k9.mono (Nat.zero_le _) (by decide)
    have k79 : Kept 0 [22, 34] wr w9 := (k78.mono (Nat.le_refl _) (by decide)).trans k9'
    have k79' : Kept 0 [22, 34] w7 w9 := (k8.mono (Nat.le_refl _) (by decide)).trans k9'
    exact { fed := hfed
            str := (hsf.kept k79).more k79.size
            glen := by rw [List.length_append, h.glen, hk.lenp]
            flen := hk.lenl
            gown := ho9
            gpl := (h.gpl.kept k79 (by decide)).append (hp7'.kept k79' (by decide))
            fbox := k9.box hx8 (by decide)
            fown := own_mono (k79'.own ho5 (by decide)) hMw
            bel := hb8.trans (k9.below hb8.size)
            gfw := h.gfw }

set_option maxHeartbeats 4000000 in
set_option maxRecDepth 100000 in
theorem backs_any (w : World) (A : Option Addr) (c : Nat) (l : List (List UInt8)) (step : Nat) (hl : LisV w w.heap.size A l) (hc : l.length ≤ c) (hc2 : c ≤ maxLen) (h1 : step < 256) :
    Calls Try.prog 6 #[.slice A l.length c, .int .u8 step] w fun e w' => e = .returned (.bool true) ∧ Below w.heap.size w w' := by
  obtain ⟨i0, hi0, hz0, hz1, hz2⟩ := info_parts Try.info5
  obtain ⟨i1, hi1, hz10, hz11, hz12⟩ := info_parts Try.info22
  obtain ⟨n, HN⟩ : ∃ n, Hid (l.length = n) := ⟨_, hid rfl⟩
  unfold maxLen at hc2
  rw [HN.out] at hc ⊢
  have HL := hid hl
  have HSZ := hid (lisV_sizes hl)
  clear hl
  by_cases h20 : 20 < n
  · have t1 : (20 : Int) < n := by omega
    go_enter Try.func6, Try.ntmps6
    go_wp2_with (first
      | (go_at_call 8
         ((with_reducible refine (alive_h _).mono ?_); rintro e w1 ⟨rfl, HB1⟩)))
    go_ret
    exact ⟨rfl, HB1.out⟩
  · have t1 : ¬ ((20 : Int) < n) := by omega
    by_cases hgr : great l = true
    · have HG := hid hgr
      clear hgr
      go_enter Try.func6, Try.ntmps6
      go_wp2_with (first
        | (go_at_call 8
           ((with_reducible refine (alive_h _).mono ?_); rintro e w1 ⟨rfl, HB1⟩)
           have HL1 := lisV_at HL HB1)
        | (go_at_call 9
           ((with_reducible refine (great_w _ A c n l true HL1 HN (by unfold maxLen; omega) HSZ HG).mono ?_); rintro e w2 ⟨rfl, rfl⟩)))
      go_ret
      exact ⟨rfl, HB1.out⟩
    · have hg : great l = false := by simpa using hgr
      have HGA := hid (great_all hg)
      have HG := hid hg
      clear hgr hg
      go_enter Try.func6, Try.ntmps6
      go_wp2_with (first
        | (go_at_call 8
           ((with_reducible refine (alive_h _).mono ?_); rintro e w1 ⟨rfl, HB1⟩)
           have HL1 := lisV_at HL HB1)
        | (go_at_call 9
           ((with_reducible refine (great_w _ A c n l false HL1 HN (by unfold maxLen; omega) HSZ HG).mono ?_); rintro e w2 ⟨rfl, rfl⟩)))
      go_loopw [26, 5] (fun i v wr => ∃ (k1 sn sc : Nat) (SA : Option Addr), k1 ≤ n ∧ i = .int .i64 k1 ∧ v = .slice SA sn sc ∧ Hid ((streamF (l.take k1)).length = sn) ∧ Hid (wr.ownsRow w1.heap.size 5 1 (.slice SA sn sc) sn (bv (streamF (l.take k1)))) ∧ Hid (Below w1.heap.size w1 wr) ∧ Hid (∀ p ∈ l.take k1, 1 ≤ p.length ∧ p.length ≤ 33792)) (fun i _ _ => n - (intOf i).toNat)
      case atStart => exact ⟨0, 0, 0, none, Nat.zero_le _, rfl, rfl, rfl, World.ownsRow_nil _ _ _ _, Below.refl _ _, fun p hp => by simp at hp⟩
      case round =>
        obtain ⟨k1, sn, sc, SA, hk1, rfl, rfl, HSN, HRO, HBW, HV⟩ := hrel
        have hsz1 : w1.heap.size ≤ wr.heap.size := HBW.out.size
        have hsnb : sn ≤ 33796 * n := by
          have h := streamF_len _ HV.out
          rw [HSN.out, List.length_take] at h
          have : 33796 * min k1 l.length ≤ 33796 * n := Nat.mul_le_mul_left _ (by omega)
          omega
        by_cases hlt : k1 < n
        · have hkl : k1 < l.length := by rw [HN.out]; exact hlt
          obtain ⟨bl, ol, rfl, hbl, hcells⟩ := HL1.out (by intro e; rw [e] at hkl; simp at hkl)
          obtain ⟨Ap, cp, hcell, hsp⟩ := hcells k1 hkl
          have cl0 := (HBW.out.cell (p := ⟨bl, ol + k1, none⟩) hbl).trans hcell
          have HSP : Hid (SlB wr wr.heap.size Ap cp l[k1]) := (hsp.below HBW.out).more hsz1
          have hpl := HGA.out l[k1] (List.getElem_mem hkl)
          have HST := hid (streamF_take l k1 hkl)
          have HTK := hid (take_snoc l k1 hkl)
          obtain ⟨p, Hp⟩ : ∃ p, Hid (l[k1] = p) := ⟨_, hid rfl⟩
          rw [Hp.out] at cl0 HSP hpl HST HTK
          obtain ⟨np, Hnp⟩ : ∃ z, Hid (p.length = z) := ⟨_, hid rfl⟩
          rw [Hnp.out] at cl0 hpl
          have i1 : (k1 : Int) < n := by omega
          clear hcells hcell hsp
          by_cases hval : 1 ≤ p.length ∧ p.length ≤ 33792
          · have HX := hid (putF_ok hval)
            have HM : Hid ((four p.length ++ p).length = 4 + np) := by show _ = _; rw [List.length_append, four_length, Hnp.out]
            have HVP := hid hval
            clear hval
            go_wp2_with (first
              | (go_at_call 10
                 ((with_reducible refine (put_n _ _ Ap cp np (4 + np) p _ 0 HX HSP (hid (Nat.le_refl _)) Hnp (by unfold maxLen; omega) HM).mono ?_); rintro e w4 ⟨A4, c4, rfl, HO4, HB4⟩)
                 have HRO4 := hid (own_keep HRO.out HB4.out)
                 have HBW4 := bel_trans HBW HB4
                 have hz4 : w1.heap.size ≤ w4.heap.size := HBW4.out.size)
              | (at_builtin
                 (
                   refine wpList_app _ rfl (.tmp 40) (.tmp 41) 22 rfl w1.heap.size 5 i0 _ 1 1 Try.underlying22 hi0 hz0 hz1 hz2 rfl (by decide) SA sn sc (bv (streamF (l.take k1))) rfl HRO4.out w4.heap.size A4 (4 + np) c4 (bv (four p.length ++ p)) rfl (by rw [bv_length, HM.out, Nat.mul_one]) (Lies.own HO4.out) (bv_one _) (by unfold maxLen; omega) (by omega) hz4 ?_
                   intro A5 c5 w5 ho5 hg5
                   have HB5 : Hid (Below w1.heap.size w1 w5) := app_bel HBW4.out HRO4.out hg5
                   have HO5 := hid ho5
                   clear ho5 hg5)))
            go_roundw
            case rel =>
              refine ⟨k1 + 1, sn + (4 + np), c5, A5, by omega, by go_num, rfl, ?_, ?_, HB5, ?_⟩
              · show _ = _
                rw [HST.out, List.length_append, HSN.out, HM.out]
              · show World.ownsRow _ _ _ _ _ _ _
                rw [HST.out, bv_append]
                exact HO5.out
              · intro q hq
                rw [HTK.out] at hq
                rcases List.mem_append.1 hq with hq | hq
                · exact HV.out q hq
                · rw [List.mem_singleton] at hq
                  rw [hq]
                  exact HVP.out
            case measure => simp [intOf]; omega
          · have HX := hid (putF_bad hval)
            have HM : Hid (([] : List UInt8).length = 0) := hid rfl
            clear hval
            go_wp2_with (first
              | (go_at_call 10
                 ((with_reducible refine (put_n _ _ Ap cp np 0 p _ 5 HX HSP (hid (Nat.le_refl _)) Hnp (by unfold maxLen; omega) HM).mono ?_); rintro e w4 ⟨A4, c4, rfl, HO4, HB4⟩)))
            go_ret
            exact ⟨rfl, (bel_trans (bel_trans HB1 HBW) HB4).out⟩
        · have hk1n : k1 = n := by omega
          have htk : l.take k1 = l := List.take_of_length_le (by rw [HN.out]; omega)
          rw [htk] at HSN HRO HV
          by_cases hbig : 4000 < sn ∧ step < 100
          · obtain ⟨hb1, hb2⟩ := hbig
            have t2 : (4000 : Int) < sn := by omega
            have t3 : (step : Int) < 100 := by omega
            go_wp2
            go_ret
            exact ⟨rfl, (bel_trans HB1 HBW).out⟩
          · have hcase : (¬ ((4000 : Int) < sn)) ∨ ((4000 : Int) < sn ∧ ¬ ((step : Int) < 100)) := by omega
            have HST := hid (SF.of_own HSN.out HRO.out)
            have HFS : Hid (Fed l [] [] (streamF l) sn) := by show Fed _ _ _ _ _; rw [← HSN.out]; exact Fed.start l (by rw [← htk]; rw [htk]; exact HV.out)
            have HB1r := bel_trans HB1 HBW
            clear hbig HRO
            rcases hcase with t2 | ⟨t2, t3⟩
            all_goals
              go_wp2
              obtain ⟨wo, rfl⟩ : ∃ wo : World, wo = wr := ⟨_, rfl⟩
              go_loopw [5, 11, 12] (fun v u x wq => ∃ (SA : Option Addr) (sc : Nat) (st : List UInt8) (GA : Option Addr) (gc gk : Nat) (FA : Option Addr) (fc fl : Nat) (got : List (List UInt8)) (fbuf : List UInt8) (cs : List Value) (nn : Nat), v = .slice SA st.length sc ∧ u = .slice GA gk gc ∧ x = .int .i64 nn ∧ 1 ≤ nn ∧ nn ≤ 256 ∧ Hid (Bk l sn w1 wq wo.heap.size SA sc st GA gc gk FA fc fl got fbuf cs)) (fun v _ _ _ => match v with | .slice _ n _ => n | _ => 0)
              case atStart =>
                refine ⟨SA, sc, streamF l, none, 0, 0, none, 0, 0, [], [], [], 1 + step, by rw [HSN.out], rfl, by go_num, by omega, by omega, ?_⟩
                exact { fed := HFS.out
                        str := (HST.out.kept ((Kept.refl 0 [] wo).alloc _)).more (by simp)
                        glen := rfl
                        flen := rfl
                        gown := World.ownsRow_nil _ _ _ _
                        gpl := PL.nil_ _ _
                        fbox := Box.new wo 34 _
                        fown := World.ownsRow_nil _ _ _ _
                        bel := HBW.out.alloc hsz1 _
                        gfw := hsz1 }
              case round =>
                clear HST HFS
                obtain ⟨SA2, sc2, st, GA, gc, gk, FA, fc, fl, got, fbuf, cs, nn, rfl, rfl, rfl, hn1, hn2, HBK⟩ := hrel
                obtain ⟨sl, Hsl⟩ : ∃ z, Hid (st.length = z) := ⟨_, hid rfl⟩
                rw [Hsl.out]
                have hflt : fl + sl ≤ sn := by have h := HBK.out.fed.len; rw [HBK.out.flen, Hsl.out] at h; exact h
                have c0 : wr.cell? ⟨wo.heap.size, 0, none⟩ = some (.slice FA fl fc) := HBK.out.fbox.cell 0
                have c1 : wr.cell? ⟨wo.heap.size, 1, none⟩ = some (.bool false) := HBK.out.fbox.cell 1
                by_cases hpos : 0 < sl
                · have p1 : (0 : Int) < sl := by omega
                  have hne : st ≠ [] := by intro e; have h := Hsl.out; rw [e] at h; simp at h; omega
                  obtain ⟨ab, ao, rfl, _⟩ := HBK.out.str.now.2.2.2 (by simpa [bv] using hne)
                  have hscl : sl ≤ sc2 := by have h := HBK.out.str.now.1; rw [Hsl.out] at h; exact h
                  have hscm : sc2 ≤ 9223372036854775807 := by have h := HBK.out.str.now.2.1; unfold maxLen at h; omega
                  obtain ⟨n2, hn2e⟩ : ∃ n2 : Nat, n2 = min nn sl := ⟨_, rfl⟩
                  have hmin : min (nn : Int) (sl : Int) = n2 := by omega
                  have hn21 : 1 ≤ n2 := by omega
                  have hn22 : n2 ≤ sl := by omega
                  have hn23 : n2 ≤ 256 := by omega
                  have i2 : (n2 : Int) ≤ sl := by omega
                  have i3 : (n2 : Int) ≤ sc2 := by omega
                  obtain ⟨sm, left, hfx, hfed⟩ := HBK.out.fed.next (n := n2) (by rw [Hsl.out]; exact hn22)
                  have HFX : Hid (feedX false (fbuf ++ st.take n2) = (sm, left, 0)) := hfx
                  have HFED := hid hfed
                  have HSF' : Hid (SF wr wr.heap.size (if sc2 = n2 then some ⟨ab, ao, none⟩ else some ⟨ab, ao + n2, none⟩) (sc2 - n2) (st.drop n2)) := SF.cut HBK.out.str (by rw [Hsl.out]; exact hn22)
                  have HDL : Hid ((st.drop n2).length = sl - n2) := by show _ = _; rw [List.length_drop, Hsl.out]
                  have HTL : Hid ((st.take n2).length = n2) := by show _ = _; rw [List.length_take, Hsl.out]; omega
                  obtain ⟨k7, HK7⟩ : ∃ z, Hid (sm.length = z) := ⟨_, hid rfl⟩
                  obtain ⟨m7, HM7⟩ : ∃ z, Hid (left.length = z) := ⟨_, hid rfl⟩
                  have HBD : Hid (decide ((0 : Int) ≠ 0) = false) := hid rfl
                  have HFLN := hid HBK.out.flen
                  have HFB : Hid (SlB wr.drew wr.drew.heap.size FA fc fbuf) := slb_own HFLN (hid HBK.out.fown)
                  have HSB : Hid (SlB wr.drew wr.drew.heap.size (some ⟨ab, ao, none⟩) sc2 (st.take n2)) := HBK.out.str.now.take n2
                  have hgks : gk + k7 ≤ 20 := by
                    obtain ⟨r, hlr, _⟩ := HFED.out.rest
                    have h := congrArg List.length hlr
                    rw [HN.out, List.length_append, List.length_append, HBK.out.glen, HK7.out] at h
                    omega
                  have hwhich : (n2 = sl ∧ (sl : Int) < nn) ∨ (n2 = nn ∧ ¬ ((sl : Int) < nn)) := by omega
                  clear hfx hfed hne hn2e hmin
                  rcases hwhich with ⟨e2, t6⟩ | ⟨e2, t6⟩
                  all_goals
                    subst e2
                    go_wp2
                    go_region_law (first
                      | (go_simp
                         go_at_call 14
                         ((refine (feed_n wr.drew _ FA (some ⟨ab, ao, none⟩) fc sc2 fl n2 k7 m7 fbuf (st.take n2) false false sm left 0 HFX HFB HSB (hid (Nat.le_refl _)) HFLN HTL (by omega) HK7 HM7 HBD).mono ?_); rintro e w7 ⟨A7, c7, LA7, lc7, rfl, HFK7⟩)
                         have HX7 : Hid (Box w7 wo.heap.size 34 #[.slice FA fl fc, .bool false]) := box_below HBK.out.fbox ((bel_drewN (Below.refl _ wr) 1).trans HFK7.out.bel)
                         have c70 : w7.cell? ⟨wo.heap.size, 0, none⟩ = some (.slice FA fl fc) := HX7.out.cell 0
                         have c71 : w7.cell? ⟨wo.heap.size, 1, none⟩ = some (.bool false) := HX7.out.cell 1
                         have f70 : w7.frozen? ⟨wo.heap.size, 0, none⟩ = false := HX7.out.frozen 0
                         have f71 : w7.frozen? ⟨wo.heap.size, 1, none⟩ = false := HX7.out.frozen 1))
                    all_goals
                      obtain ⟨cs7, hnx⟩ := bk_next HBK.out HFK7.out
                      clear c70 c71 f70 f71 HX7
                      generalize hw8 : (w7.setCell _ _).setCell _ _ = w8
                      obtain ⟨hgo8, hl8, hlen8, hone8, hsz8, hfin⟩ := hnx w8 hw8.symm
                      have HGO8 := hid hgo8
                      have HL8 := hid hl8
                      have HLEN8 := hid hlen8
                      have HONE8 := hid hone8
                      have HFIN := hid hfin
                      clear hnx hw8 hgo8 hl8 hlen8 hone8 hfin
                      go_wp2_with (first
                        | (at_builtin
                           (
                             refine wpList_app _ rfl (.tmp 73) (.tmp 74) 36 rfl w1.heap.size 22 i1 _ 1 24 Try.underlying36 hi1 hz10 hz11 hz12 rfl (by decide) GA gk gc cs rfl HGO8.out w8.heap.size LA7 k7 lc7 cs7 rfl HLEN8.out HL8.out HONE8.out (by unfold maxLen; omega) (by omega) hsz8 ?_
                             intro A9 c9 w9 ho9 hg9
                             have HBK9 := hid (HFIN.out w9 A9 c9 _ _ _ ho9 hg9 HFED.out HSF'.out)
                             clear ho9 hg9)))
                      refine ⟨⟨_, _, st.drop n2, _, _, _, _, _, _, _, _, _, _, ?_, rfl, rfl, hn21, hn23, HBK9⟩, ?_⟩
                      · first
                          | rw [HDL.out, Nat.sub_self]
                          | rw [HDL.out]
                      · first
                          | (show 0 < n2; omega)
                          | (show sl - n2 < sl; omega)
                · have hst : st = [] := List.eq_nil_of_length_eq_zero (by rw [Hsl.out]; omega)
                  subst hst
                  obtain ⟨hgl, hfb⟩ := HBK.out.fed.done
                  have hfl0 : fl = 0 := by rw [← HBK.out.flen, hfb]; rfl
                  have hgk : gk = n := by rw [← HBK.out.glen, hgl]; exact HN.out
                  have HLG : Hid (LisV wr wr.heap.size GA l) := by
                    have h := HBK.out.gpl.lis HBK.out.gown
                    rw [hgl] at h
                    exact h
                  have HLA : Hid (LisV wr wr.heap.size A l) := lisV_at HL1 (hid HBK.out.bel)
                  have HS1 : Hid (∀ b ∈ l, b.length ≤ 1000000) := fun b hb => by have := HGA.out b hb; omega
                  have HBE := hid HBK.out.bel
                  clear hgl hfb HBK
                  subst hfl0
                  subst hgk
                  go_wp2_with (first
                    | (go_at_call 17
                       ((with_reducible refine (lists_t _ GA A gc c _ l HLG HLA HN (by omega) HS1).mono ?_); rintro e w9 ⟨d, rfl, rfl⟩)))
                  go_ret
                  exact ⟨rfl, bel_drewN (bel_trans HB1 HBE).out d⟩
end Go.Proofs.Ytmbnjaahiopanaa
