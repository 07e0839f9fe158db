import Derived.Test.YtdplngplljejhaaDoorTX
namespace Go.Proofs.YtdplngplljejhaaDoor
open Go.RowKit

section
variable {ops : Array Oper} {rest : List Oper} {o : Oper} {a : Act} {Q : Exit → Act → World → Prop} {w : World} {SA WA : Option Addr} {sn sc wk wc : Nat} {P : List (List UInt8)} {W : List Mg} {vs : List Value}
/-- A packet is put behind the stream. -/
theorem app_stream (W0 : World) (hgd : o.guard = none) (s x : Operand) (ho : o.op = .call { callee := .builtin .append, args := #[s, x], argTypes := #[22, 22] }) (h : Hid (L1 w W0 SA sn sc WA wk wc P W vs)) (hs : a.eval s = .slice SA sn sc) (A2 : Option Addr) (m c2 : Nat) (p : List UInt8) (hx : a.eval x = .slice A2 m c2)
    (hp : Hid (SlB W0 W0.heap.size A2 c2 (four p.length ++ p))) (hm : Hid ((four p.length ++ p).length = m)) (hb : sn + m ≤ 1000000)
    (h' : ∀ SA' sc' u2, Hid ((streamF (P ++ [p])).length = sn + m) → Hid (u2.ownsRow w.heap.size 5 1 (.slice SA' (sn + m) sc') (sn + m) (bv (streamF (P ++ [p])))) → Hid (u2.ownsRow w.heap.size 40 10 (.slice WA wk wc) wk vs) → Hid (Below w.heap.size w u2) → Hid (Kept w.heap.size [5] W0 u2) → wpList Tryd.prog ops Q rest (a.put o.dst (.slice SA' (sn + m) sc')) u2) : wpList Tryd.prog ops Q (o :: rest) a W0 := by
  obtain ⟨i5, hi5, hz5, hz51, hz52⟩ := info_parts Tryd.info5
  have h1 := h.out
  refine wpList_app _ hgd s x 22 ho w.heap.size 5 i5 _ 1 1 Tryd.underlying22 hi5 hz5 hz51 hz52 rfl (by decide) SA sn sc (bv (streamF P)) hs h1.sown W0.heap.size A2 m c2 (bv (four p.length ++ p)) hx (by rw [bv_length, hm.out, Nat.mul_one]) hp.out.2.2.2 (bv_one _) (by unfold maxLen; omega) (by omega) h1.bel.size ?_
  intro A' c' u2 ho2 hg2
  have hk : Kept w.heap.size [5] W0 u2 := (Kept.refl _ _ _).grown hg2 (fun k hk => by obtain ⟨a, cs, b⟩ := own_box h1.sown k hk; exact ⟨a, 5, cs, by simp, b⟩)
  refine h' A' c' u2 (hid (by rw [streamF_snoc, List.length_append, h1.slen, hm.out])) (hid ?_) (hid (hk.own h1.wown (by decide))) (hid (h1.bel.trans (hk.below h1.bel.size))) (hid hk)
  rw [streamF_snoc, bv_append]
  exact ho2
/-- A message is put behind the list. -/
theorem app_want (W0 : World) (hgd : o.guard = none) (s x : Operand) (ho : o.op = .call { callee := .builtin .append, args := #[s, x], argTypes := #[37, 37] }) (hG : Hid (Good P W)) (hw : Hid (W.length = wk)) (hWC : Hid (WC w W vs)) (p : List UInt8) (sn' sc' : Nat) (SA' : Option Addr)
    (h1 : Hid ((streamF (P ++ [p])).length = sn')) (h2 : Hid (W0.ownsRow w.heap.size 5 1 (.slice SA' sn' sc') sn' (bv (streamF (P ++ [p]))))) (h3 : Hid (W0.ownsRow w.heap.size 40 10 (.slice WA wk wc) wk vs)) (h4 : Hid (Below w.heap.size w W0)) (hs : a.eval s = .slice WA wk wc)
    (X : Mg) (A : Option Addr) (c : Nat) (cs : Array Value) (hcs : X.cells A c = cs) (hX : Hid (SlB w w.heap.size A c X.data)) (hp : Hid (1 ≤ p.length ∧ p.length ≤ 33792)) (hd : Hid (decF p = (0, X))) (g : Nat) (hg : g = W0.heap.size) (hx : a.eval x = .slice (some ⟨g, 0, none⟩) 1 1) (hk : wk ≤ 1000)
    (h' : ∀ WA' wc' u2, Hid (L1 w u2 SA' sn' sc' WA' (wk + 1) wc' (P ++ [p]) (W ++ [X]) (vs ++ (X.cells A c).toList)) → wpList Tryd.prog ops Q rest (a.put o.dst (.slice WA' (wk + 1) wc')) u2) : wpList Tryd.prog ops Q (o :: rest) a (W0.alloc (.cells cs 40)) := by
  subst hg hcs
  obtain ⟨i1, hi1, hz10, hz11, hz12⟩ := info_parts Tryd.info40
  have ba : Below W0.heap.size W0 (W0.alloc (.cells (X.cells A c) 40)) := (Below.refl _ W0).alloc (Nat.le_refl _) _
  have ho1 := own_keep h3.out ba
  have hone : ∀ v ∈ (X.cells A c).toList, v.oneCell' = true := fun v hv => by
    have := mcells_one X A c
    rw [Array.all_eq_true'] at this
    exact this v (by simpa using hv)
  refine wpList_app _ hgd s x 37 ho w.heap.size 40 i1 _ 10 96 Tryd.underlying37 hi1 hz10 hz11 hz12 rfl (by decide) WA wk wc vs hs ho1 (W0.heap.size + 1) (some ⟨W0.heap.size, 0, none⟩) 1 1 (X.cells A c).toList hx (mcells_len X A c) (lies_lit W0 (X.cells A c) 40) hone (by unfold maxLen; omega) (by omega) (by have := h4.out.size; simp; omega) ?_
  intro A' c' u2 ho2 hg2
  have hk2 : Kept w.heap.size [40] (W0.alloc (.cells (X.cells A c) 40)) u2 := (Kept.refl _ _ _).grown hg2 (fun k hk => by obtain ⟨a, cs, b⟩ := own_box ho1 k hk; exact ⟨a, 40, cs, by simp, b⟩)
  have hb2 : Below w.heap.size w (W0.alloc (.cells (X.cells A c) 40)) := h4.out.trans (ba.mono h4.out.size)
  exact h' A' c' u2 (hid ⟨hG.out.snoc hp.out hd.out, h1.out, hk2.own (own_keep h2.out ba) (by decide), by rw [List.length_append, hw.out]; rfl, ho2, hWC.out.snoc hX.out, hb2.trans (hk2.below hb2.size)⟩)
end
attribute [local go_sem ↓] ex_ldM
set_option maxRecDepth 100000 in
set_option maxHeartbeats 8000000 in
theorem frames_walk (w : World) (A : Option Addr) (c n : Nat) (ms : List Mg) (step : Nat) (mm : Int) (hV : Hid (MsgsV w w.heap.size A ms)) (hok : Hid (∀ m ∈ ms, m.Ok)) (hn : Hid (ms.length = n)) (hnc : n ≤ maxLen) (hst : step ≤ 65535) (hmm : Hid (w.cell? ⟨0, 0, none⟩ = some (.int .i64 mm))) :
    Calls Tryd.prog 4 #[.slice A n c, .int .u16 (step : Int)] w fun e w' => e = .returned (.bool true) ∧ Below w.heap.size w w' := by
  have hpos : 0 < w.heap.size := World.block_lt_of_cell? w _ hmm.out
  unfold maxLen at hnc
  by_cases h1 : 10 < n
  · have k1 : (10 : Int) < (n : Int) := by omega
    go_enter Tryd.func4, Tryd.ntmps4
    go_wp2_with (first
      | (go_at_call 10
         (with_reducible refine (shaken_any _).mono ?_)
         rintro e v1 ⟨rfl, k⟩))
    go_ret
    exact ⟨rfl, k.out⟩
  · have k1 : ¬ (10 : Int) < (n : Int) := by omega
    go_enter Tryd.func4, Tryd.ntmps4
    go_wp2_with (first
      | (go_at_call 10
         (with_reducible refine (shaken_any _).mono ?_)
         rintro e v1 ⟨rfl, k⟩))
    go_loopw [5, 6, 29] (fun st wn i wr => ∃ (j sn sc wk wc : Nat) (SA WA : Option Addr) (P : List (List UInt8)) (W : List Mg) (vs : List Value), j ≤ n ∧ i = .int .i64 (j : Int) ∧ st = .slice SA sn sc ∧ wn = .slice WA wk wc ∧ P.length ≤ j ∧ Hid (L1 w wr SA sn sc WA wk wc P W vs)) (fun _ _ i _ => n - (intOf i).toNat)
    case atStart => exact ⟨0, 0, 0, 0, 0, none, none, [], [], [], Nat.zero_le _, rfl, rfl, rfl, Nat.le_refl _, hid ⟨Good.nil_, rfl, World.ownsRow_nil _ _ _ _, rfl, World.ownsRow_nil _ _ _ _, WC.nil_ w, k.out⟩⟩
    case round =>
      obtain ⟨j, sn, sc, wk, wc, SA, WA, P, W, vs, hj, rfl, rfl, rfl, hP, HL⟩ := hrel
      have hsn : sn ≤ 400000 := by
        have h2 := streamF_len P HL.out.good.2.1
        rw [HL.out.slen] at h2
        have : 33796 * P.length ≤ 33796 * 10 := Nat.mul_le_mul_left _ (by omega)
        omega
      have hwk : wk ≤ 10 := by
        have := HL.out.good.1
        rw [HL.out.wlen] at this
        omega
      by_cases hjn : j < n
      · have kj : (j : Int) < (n : Int) := by omega
        have hjl : j < ms.length := by have := hn.out; omega
        obtain ⟨b, o, hA, hbl, hcl⟩ := hV.out (by rintro e; rw [e] at hjl; simp at hjl)
        subst hA
        obtain ⟨A', c', hr0, hs⟩ := hcl j hjl
        have hmo0 := hok.out _ (List.getElem_mem hjl)
        obtain ⟨m, hm⟩ : ∃ m, ms[j] = m := ⟨_, rfl⟩
        rw [hm] at hr0 hs hmo0
        have hr : wr.rangeAt b (o + j * 10) (m.cells A' c').toList := fun j' v hj' => (HL.out.bel.cell (p := ⟨b, o + j * 10 + j', none⟩) hbl).trans (hr0 j' v hj')
        have hmo := hid hmo0
        have hml : m.data.length ≤ maxLen := Nat.le_trans hs.1 hs.2.1
        clear hcl hr0 hm hmo0
        cases hgb : greatB m
        · have hgr := hid hgb
          obtain ⟨⟨er, bs⟩, hX0⟩ : ∃ x, encF m = x := ⟨_, rfl⟩
          have hX := hid hX0
          obtain ⟨nb, hnb⟩ : ∃ nb, Hid (bs.length = nb) := ⟨_, hid rfl⟩
          by_cases her : er = 0
          · subst her
            obtain ⟨hd0, hl0, hr1⟩ := back_math hmo.out (by rw [hX0])
            rw [hX0] at hd0 hl0 hr1
            have hpl : 1 ≤ bs.length ∧ bs.length ≤ 33792 := ⟨by obtain ⟨r, h⟩ := hr1; simp only at h; rw [h]; simp, hl0⟩
            have HPL := hid hpl
            have HDX := hid hd0
            obtain ⟨X, hXm⟩ : ∃ X, Hid (ownM m = X) := ⟨_, hid rfl⟩
            rw [hXm.out] at HDX
            obtain ⟨np, hnp⟩ : ∃ np, Hid ((four bs.length ++ bs).length = np) := ⟨_, hid rfl⟩
            have hnp2 : np ≤ 33796 := by have := hnp.out; rw [List.length_append, four_length] at this; omega
            clear hd0 hl0 hr1 hX0
            go_wp2_with (first
              | (refine ldM (by rfl) _ (by rfl) b (o + j * 10) (by rfl) m A' c' hr ?_)
              | (refine snM (by rfl) _ _ (by rfl) wr _ rfl rfl (by rfl) m A' c' (by rfl) ?_
                 intro v2 G2 k2
                 have HL2 := hid (HL.out.keep k2.out))
              | (refine ldM (by rfl) _ (by rfl) wr.heap.size 0 (by rfl) m A' c' (box_range G2.out) ?_)
              | (refine ldM (by rfl) _ (by rfl) wr.heap.size 0 (by rfl) m A' c' (box_range G3.out) ?_)
              | (go_at_call 11
                 (with_reducible refine (great_x _ m A' c' hmo hml hgr).mono ?_)
                 rintro e v3 ⟨rfl, k3⟩
                 have G3 := hid (box_below G2.out k3.out)
                 have HL3 := hid (HL2.out.keep k3.out))
              | (go_at_call 12
                 (with_reducible refine (encode_x _ m A' c' nb _ bs hX hmo (hid ((hs.below HL3.out.bel).more HL3.out.bel.size)) hnb.out).mono ?_)
                 rintro e v4 ⟨A4, c4, rfl, o4, k4⟩
                 have G4 := hid (box_below G3.out k4.out)
                 have HL4 := hid (HL3.out.keep k4.out))
              | (refine ldM (by rfl) _ (by rfl) wr.heap.size 0 (by rfl) m A' c' (box_range G6.out) ?_)
              | (go_at_call 13
                 (with_reducible refine (put_x _ A4 c4 nb np bs HPL.out hnb.out hnp.out (by have h := o4.out; rw [← hnb.out] at h; exact hid (own_slb (n := 0) h))).mono ?_)
                 rintro e v5 ⟨A5, c5, rfl, o5, k5⟩
                 have G5 := hid (box_below G4.out k5.out)
                 have HL5 := hid (HL4.out.keep k5.out)
                 have S5 : Hid (SlB v5 v5.heap.size A5 c5 (four bs.length ++ bs)) := by have h := o5.out; rw [← hnp.out] at h; exact hid (own_slb (n := 0) h))
              | (at_builtin
                 (first
                   | (refine app_stream v5 rfl (.tmp 49) (.tmp 50) rfl HL5 rfl A5 np c5 bs rfl S5 hnp (by omega) ?_
                      intro SA6 sc6 v6 hl6 os6 ow6 b6 k6
                      have G6 := hid (k6.out.box G5.out (by decide)))
                   | (refine app_want v7 rfl (.tmp 52) (.tmp 55) rfl HGd HWl HWC bs (sn + np) sc6 SA6 hl6 os7 ow7 b7 rfl X A7 c7 _ rfl HX7 HPL HDX _ rfl rfl (by omega) ?_
                      intro WA8 wc8 v8 HL8)))
              | (go_at_call 14
                 (with_reducible refine (own_d m A' c' _).mono ?_)
                 rw [hXm.out]
                 rintro e v7 ⟨A7, c7, rfl, k7, hd7⟩
                 have os7 := hid (own_keep os6.out k7)
                 have ow7 := hid (own_keep ow6.out k7)
                 have b7 := hid (b6.out.trans (k7.mono b6.out.size))
                 have HX7 : Hid (SlB w w.heap.size A7 c7 X.data) := hid (by
                   rcases hd7 with ⟨e1, e2, e3⟩ | ⟨e1, e2, e3⟩
                   · rw [e1, e2, e3]; exact hs
                   · rw [e1, e2, e3]; exact ⟨Nat.le_refl _, Nat.zero_le _, fun _ => rfl, Lies.nil_⟩)
                 have HGd := hid HL.out.good
                 have HWl := hid HL.out.wlen
                 have HWC := hid HL.out.wc
                 clear hd7
                 simp only [Mg.cells]))
            go_roundw
            case rel => exact ⟨j + 1, sn + np, sc6, wk + 1, wc8, SA6, WA8, P ++ [bs], W ++ [X], _, by omega, by go_num, rfl, rfl, by simp; omega, HL8⟩
            case measure => simp [intOf]; omega
          · have hz : (er != 0) = true := by simpa using her
            clear hX0
            go_wp2_with (first
              | (refine ldM (by rfl) _ (by rfl) b (o + j * 10) (by rfl) m A' c' hr ?_)
              | (refine snM (by rfl) _ _ (by rfl) wr _ rfl rfl (by rfl) m A' c' (by rfl) ?_
                 intro v2 G2 k2
                 have HL2 := hid (HL.out.keep k2.out))
              | (refine ldM (by rfl) _ (by rfl) wr.heap.size 0 (by rfl) m A' c' (box_range G2.out) ?_)
              | (refine ldM (by rfl) _ (by rfl) wr.heap.size 0 (by rfl) m A' c' (box_range G3.out) ?_)
              | (go_at_call 11
                 (with_reducible refine (great_x _ m A' c' hmo hml hgr).mono ?_)
                 rintro e v3 ⟨rfl, k3⟩
                 have G3 := hid (box_below G2.out k3.out)
                 have HL3 := hid (HL2.out.keep k3.out))
              | (go_at_call 12
                 (with_reducible refine (encode_x _ m A' c' nb _ bs hX hmo (hid ((hs.below HL3.out.bel).more HL3.out.bel.size)) hnb.out).mono ?_)
                 rintro e v4 ⟨A4, c4, rfl, o4, k4⟩
                 have G4 := hid (box_below G3.out k4.out)
                 have HL4 := hid (HL3.out.keep k4.out)))
            go_roundw
            case rel => exact ⟨j + 1, sn, sc, wk, wc, SA, WA, P, W, vs, by omega, by go_num, rfl, rfl, by omega, HL4⟩
            case measure => simp [intOf]; omega
        · have hgr := hid hgb
          go_wp2_with (first
            | (refine ldM (by rfl) _ (by rfl) b (o + j * 10) (by rfl) m A' c' hr ?_)
            | (refine snM (by rfl) _ _ (by rfl) wr _ rfl rfl (by rfl) m A' c' (by rfl) ?_
               intro v2 G2 k2
               have HL2 := hid (HL.out.keep k2.out))
            | (refine ldM (by rfl) _ (by rfl) wr.heap.size 0 (by rfl) m A' c' (box_range G2.out) ?_)
            | (refine ldM (by rfl) _ (by rfl) wr.heap.size 0 (by rfl) m A' c' (box_range G3.out) ?_)
            | (go_at_call 11
               (with_reducible refine (great_x _ m A' c' hmo hml hgr).mono ?_)
               rintro e v3 ⟨rfl, k3⟩
               have G3 := hid (box_below G2.out k3.out)
               have HL3 := hid (HL2.out.keep k3.out)))
          go_ret
          exact ⟨rfl, HL3.out.bel⟩
      · have kj : ¬ (j : Int) < (n : Int) := by omega
        have hjn2 : j = n := by omega
        obtain ⟨wo, rfl⟩ : ∃ wo : World, wo = wr := ⟨_, rfl⟩
        have HSTR : Hid (SlB wo wo.heap.size SA sc (streamF P)) := by have h := HL.out.sown; rw [← HL.out.slen] at h; exact hid (own_slb (n := 0) h)
        have HWV : Hid (MsgsV wo wo.heap.size WA W) := hid (HL.out.wc.view HL.out.wown HL.out.bel)
        have HWK := hid (own_caps HL.out.wown)
        have HSL := hid HL.out.slen
        have HWL := hid HL.out.wlen
        have HG := hid HL.out.good
        have HB0 := hid HL.out.bel
        have HFE : Hid (Fed P [] [] (streamF P) (streamF P).length) := hid (Fed.start P HL.out.good.2.1)
        have HM0 : Hid (wo.cell? ⟨0, 0, none⟩ = some (.int .i64 mm)) := hid ((HB0.out.cell (p := ⟨0, 0, none⟩) hpos).trans hmm.out)
        have hpos2 : 0 < wo.heap.size := Nat.lt_of_lt_of_le hpos HB0.out.size
        clear HL hV hok hn
        obtain ⟨nn, eN0⟩ : ∃ nn : Nat, 1 + step = nn := ⟨_, rfl⟩
        have eN : (1 : Int) + (step : Int) = (nn : Int) := by omega
        have hn1 : 1 ≤ nn := by omega
        have hn2 : nn ≤ 65536 := by omega
        clear eN0
        by_cases hbig : 50 * nn < sn
        · have t2 : (50 : Int) * (nn : Int) < (sn : Int) := by omega
          go_wp2
          go_ret
          exact ⟨rfl, HB0.out⟩
        · have t2 : ¬ (50 : Int) * (nn : Int) < (sn : Int) := by omega
          go_wp2
          go_loopw [5, 6] (fun sv wv wq => ∃ (sn2 sc2 wk2 wc2 fc fl : Nat) (SA2 WA2 FA : Option Addr) (st : List UInt8) (got : List (List UInt8)) (fbuf : List UInt8), sv = .slice SA2 sn2 sc2 ∧ wv = .slice WA2 wk2 wc2 ∧ Hid (L2 wo wq P W (streamF P).length SA2 sn2 sc2 st WA2 wk2 wc2 FA fc fl got fbuf)) (fun sv _ _ => match sv with | .slice _ n _ => n | _ => 0)
          case atStart =>
            refine ⟨sn, sc, wk, wc, 0, 0, SA, WA, none, streamF P, [], [], rfl, rfl, ?_⟩
            exact { fed := HFE.out
                    slen := HSL.out
                    str := HSTR.out
                    want := HWV.out
                    wlen := HWL.out
                    wcap := HWK.out
                    flen := rfl
                    fbox := Box.new wo 47 _
                    fown := World.ownsRow_nil _ _ _ _
                    bel := (Below.refl _ wo).alloc (Nat.le_refl _) _ }
          case round =>
            clear HSTR HWV HWK HSL HWL HFE t2 hbig hjn2
            obtain ⟨sn2, sc2, wk2, wc2, fc, fl, SA2, WA2, FA, st, got, fbuf, rfl, rfl, HBK⟩ := hrel
            have hflt : fl + sn2 ≤ 400000 := by
              have h := HBK.out.fed.len
              rw [HBK.out.flen, HBK.out.slen] at h
              have h2 := streamF_len P HG.out.2.1
              have : 33796 * P.length ≤ 33796 * 10 := Nat.mul_le_mul_left _ (by omega)
              omega
            have c0 : wr.cell? ⟨wo.heap.size, 0, none⟩ = some (.slice FA fl fc) := HBK.out.fbox.cell 0
            have c1 : wr.cell? ⟨wo.heap.size, 1, none⟩ = some (.bool false) := HBK.out.fbox.cell 1
            have HSLN := hid HBK.out.slen
            by_cases hp2 : 0 < sn2
            · have p1 : (0 : Int) < sn2 := by omega
              have hne : st ≠ [] := by intro e; have h := HSLN.out; rw [e] at h; simp at h; omega
              obtain ⟨ab, ao, rfl, _⟩ := HBK.out.str.2.2.2 (by simpa [bv] using hne)
              have hscl : sn2 ≤ sc2 := by have h := HBK.out.str.1; rw [HSLN.out] at h; exact h
              have hscm : sc2 ≤ 9223372036854775807 := by have h := HBK.out.str.2.1; unfold maxLen at h; omega
              obtain ⟨n2, hn2e⟩ : ∃ n2 : Nat, n2 = min nn sn2 := ⟨_, rfl⟩
              have hmin : min (nn : Int) (sn2 : Int) = n2 := by omega
              have hn21 : 1 ≤ n2 := by omega
              have hn22 : n2 ≤ sn2 := by omega
              have hn23 : n2 ≤ 65536 := by omega
              have i2 : (n2 : Int) ≤ sn2 := by omega
              have i3 : (n2 : Int) ≤ sc2 := by omega
              obtain ⟨sm, left, hfx, hfed⟩ := HBK.out.fed.next (n := n2) (by rw [HSLN.out]; exact hn22)
              have HFX : Hid (feedX false (fbuf ++ st.take n2) = (sm, left, 0)) := hfx
              have HFED := hid hfed
              have HSF' : Hid (SlB wo wo.heap.size (some (if sc2 = n2 then (⟨ab, ao, none⟩ : Addr) else ⟨ab, ao + n2, none⟩)) (sc2 - n2) (st.drop n2)) := by
                have h := HBK.out.str.drop n2 (by rw [HSLN.out]; exact hn22)
                rw [Addr.add_lit] at h
                exact hid h
              have HDL : Hid ((st.drop n2).length = sn2 - n2) := by show _ = _; rw [List.length_drop, HSLN.out]
              have HTL : Hid ((st.take n2).length = n2) := by show _ = _; rw [List.length_take, HSLN.out]; omega
              obtain ⟨k7, HK7⟩ : ∃ z, Hid (sm.length = z) := ⟨_, hid rfl⟩
              obtain ⟨m7, HM7⟩ : ∃ z, Hid (left.length = z) := ⟨_, hid rfl⟩
              have HBD : Hid (decide ((0 : Int) ≠ 0) = false) := hid rfl
              have HFLN := hid HBK.out.flen
              have HFB : Hid (SlB wr.drew wr.drew.heap.size FA fc fbuf) := by have h := HBK.out.fown; rw [← HBK.out.flen] at h; exact hid (own_slb (w := wr.drew) (n := 0) (own_keep h (bel_drewN (Below.refl _ wr) 1)))
              have HSB : Hid (SlB wr.drew wr.drew.heap.size (some ⟨ab, ao, none⟩) sc2 (st.take n2)) := hid (((HBK.out.str.take n2).below (bel_drewN HBK.out.bel 1)).more (bel_drewN HBK.out.bel 1).size)
              have hks : k7 ≤ 10 := by
                obtain ⟨r, hlr, _⟩ := HFED.out.rest
                have h := congrArg List.length hlr
                rw [List.length_append, List.length_append, HK7.out] at h
                omega
              have hwhich : (n2 = sn2 ∧ (sn2 : Int) < nn) ∨ (n2 = nn ∧ ¬ ((sn2 : Int) < nn)) := by omega
              clear hfx hfed hne hn2e hmin
              rcases hwhich with ⟨e2, t6⟩ | ⟨e2, t6⟩
              all_goals
                subst e2
                first
                  | have hmin : min (nn : Int) (n2 : Int) = (n2 : Int) := by omega
                  | have hmin : min (n2 : Int) (sn2 : Int) = (n2 : Int) := by omega
                go_wp2
                go_region_law (first
                  | (go_simp
                     go_at_call 15
                     ((refine (feed_n wr.drew _ FA (some ⟨ab, ao, none⟩) fc sc2 fl n2 k7 m7 fbuf (st.take n2) false false sm left 0 HFX HFB HSB (hid (Nat.le_refl _)) HFLN HTL (by omega) HK7 HM7 HBD).mono ?_); rintro e w7 ⟨A7, c7, LA7, lc7, rfl, HFK7⟩)
                     have HX7 : Hid (Box w7 wo.heap.size 47 #[.slice FA fl fc, .bool false]) := hid (box_below HBK.out.fbox ((bel_drewN (Below.refl _ wr) 1).trans HFK7.out.bel))
                     have c70 : w7.cell? ⟨wo.heap.size, 0, none⟩ = some (.slice FA fl fc) := HX7.out.cell 0
                     have c71 : w7.cell? ⟨wo.heap.size, 1, none⟩ = some (.bool false) := HX7.out.cell 1
                     have f70 : w7.frozen? ⟨wo.heap.size, 0, none⟩ = false := HX7.out.frozen 0
                     have f71 : w7.frozen? ⟨wo.heap.size, 1, none⟩ = false := HX7.out.frozen 1))
                all_goals
                  clear c70 c71 f70 f71 HX7
                  generalize hw8 : (w7.setCell _ _).setCell _ _ = w8
                  obtain ⟨HX8, HO8, HLS, HB8, _, _⟩ := L2.next HBK.out HFK7.out hw8.symm
                  clear hw8
                  go_wp2
                  all_goals
                    first
                      | rw [if_neg (by assumption)] at HSF'
                      | rw [if_pos (by assumption)] at HSF'
                    clear c0 c1 HFX HTL HFB HSB HBD HFK7
                    go_loopw [6, 90] (fun wv i wq => ∃ (k3 wk3 wc3 : Nat) (WA3 : Option Addr), k3 ≤ k7 ∧ wv = .slice WA3 wk3 wc3 ∧ i = .int .i64 k3 ∧ wk3 ≤ wc3 ∧ wc3 ≤ 9223372036854775807 ∧ Hid (MsgsV wo wo.heap.size WA3 (W.drop (got.length + k3))) ∧ Hid ((W.drop (got.length + k3)).length = wk3) ∧ Hid (Below w8.heap.size w8 wq)) (fun _ i _ => k7 - (intOf i).toNat)
                    case atStart => exact ⟨0, wk2, wc2, WA2, Nat.zero_le _, rfl, rfl, HBK.out.wcap.1, HBK.out.wcap.2, hid HBK.out.want, hid HBK.out.wlen, hid (Below.refl _ w8)⟩
                    case round =>
                      obtain ⟨k3, wk3, wc3, WA3, hk3, rfl, rfl, hwc, hwm, HW3, HWL3, HB3⟩ := hrel
                      by_cases hlt3 : k3 < k7
                      · have hk3l : k3 < sm.length := by rw [HK7.out]; exact hlt3
                        obtain ⟨bl, ol, rfl, hbl, hcells⟩ := HLS.out (by intro e; rw [e] at hk3l; simp at hk3l)
                        obtain ⟨Ap, cp, hcell, hsp⟩ := hcells k3 hk3l
                        obtain ⟨m, rest, hd0, hdec, hd1⟩ := HG.out.at_ HFED.out hk3l
                        have cl0 := (HB3.out.cell (p := ⟨bl, ol + k3, none⟩) hbl).trans hcell
                        have HSP0 := hid ((hsp.below HB3.out).more HB3.out.size)
                        obtain ⟨p, Hp⟩ : ∃ p, Hid (sm[k3] = p) := ⟨_, hid rfl⟩
                        rw [Hp.out] at cl0 HSP0 hdec
                        obtain ⟨np, Hnp⟩ : ∃ z, Hid (p.length = z) := ⟨_, hid rfl⟩
                        rw [Hnp.out] at cl0
                        have HDEC := hid hdec
                        rw [hd0] at HW3 HWL3
                        obtain ⟨bw, ow, rfl, hbw, hcw⟩ := HW3.out (by simp)
                        obtain ⟨A0, c0', hr0, hs0⟩ := hcw 0 (by simp)
                        simp only [List.getElem_cons_zero, Nat.zero_mul, Nat.add_zero] at hr0 hs0
                        have HR0 := hid hr0
                        have HS0 := hid hs0
                        have HBu3 := hid (HB8.out.trans (HB3.out.mono HB8.out.size))
                        have HM3 := hid ((HBu3.out.cell (p := ⟨0, 0, none⟩) hpos2).trans HM0.out)
                        have hw1 : (1 : Int) ≤ wk3 := by have h := HWL3.out; simp at h; omega
                        have hw0 : ¬ (wk3 : Int) = 0 := by omega
                        have hw2 : (0 : Int) < (wk3 : Int) := by omega
                        have hw3 : 0 < wk3 := by omega
                        have hw0' : ¬ wk3 = 0 := by omega
                        have hwe : ((wk3 : Int) == 0) = false := by simp; omega
                        have i1 : (k3 : Int) < k7 := by omega
                        clear hcells hcell hsp hcw hr0 hs0 hdec
                        go_wp2_with (first
                          | (go_at_call 16
                             (with_reducible refine (decode_x _ Ap cp np p m mm HDEC Hnp.out HSP0 HM3).mono ?_)
                             rintro e v1 ⟨A1, c1, rfl, HD1, K1⟩)
                          | (refine snM (by rfl) _ _ (by rfl) v1 _ rfl rfl (by rfl) m A1 c1 (by rfl) ?_
                             intro v2 G2 K2))
                        have HBu2 : Hid (Below wo.heap.size wo v2) := hid (HBu3.out.trans (((K1.out.trans (K2.out.mono K1.out.size))).mono HBu3.out.size))
                        have HR2 : Hid (v2.rangeAt bw ow (m.cells A0 c0').toList) := hid (fun j v hj => (HBu2.out.cell (p := ⟨bw, ow + j, none⟩) hbw).trans (HR0.out j v hj))
                        have HR1 := hid (box_range G2.out)
                        have HT1 : Hid (SlB v2.drew v1.heap.size A1 c1 m.data) := hid ((HD1.out.below K2.out).below (bel_drewN (Below.refl _ v2) 1))
                        have HT0 : Hid (SlB v2.drew wo.heap.size A0 c0' m.data) := hid ((HS0.out.below HBu2.out).below (bel_drewN (Below.refl _ v2) 1))
                        have HT1L := HT1.out.2.2.2
                        have HT0L := HT0.out.2.2.2
                        have HTL1 : m.data.length ≤ maxLen := Nat.le_trans HT1.out.1 HT1.out.2.1
                        have hs1 : v1.heap.size ≤ v2.drew.heap.size := K2.out.size
                        have hs2 : wo.heap.size ≤ v2.drew.heap.size := HBu2.out.size
                        have HS2 : isM v2 (.pointer (some ⟨v1.heap.size, 0, none⟩)) = true ∧ csM v2 (.pointer (some ⟨v1.heap.size, 0, none⟩)) = m.cells A1 c1 ∧ isM v2 (.pointer (some ⟨bw, ow, none⟩)) = true ∧ csM v2 (.pointer (some ⟨bw, ow, none⟩)) = m.cells A0 c0' := ⟨(isM_of HR1.out).1, (isM_of HR1.out).2, (isM_of HR2.out).1, (isM_of HR2.out).2⟩
                        go_region_held3 (fun u => isM u (.pointer (some ⟨v1.heap.size, 0, none⟩)) = true ∧ csM u (.pointer (some ⟨v1.heap.size, 0, none⟩)) = m.cells A1 c1 ∧ isM u (.pointer (some ⟨bw, ow, none⟩)) = true ∧ csM u (.pointer (some ⟨bw, ow, none⟩)) = m.cells A0 c0') (first | exact HS2 | exact HS3) ((first
                          | (go_at_call 17
                             ((with_reducible refine (same_m m A1 A0 c1 c0' v1.heap.size wo.heap.size v2.drew HT1L HT0L hs1 hs2 HTL1).mono ?_); rintro e v3 ⟨rfl, k3'⟩)
                             have K3 : Hid (Below v2.heap.size v2 v3) := hid ((bel_drewN (Below.refl _ v2) 1).trans k3')
                             have HS3 : isM v3 (.pointer (some ⟨v1.heap.size, 0, none⟩)) = true ∧ csM v3 (.pointer (some ⟨v1.heap.size, 0, none⟩)) = m.cells A1 c1 ∧ isM v3 (.pointer (some ⟨bw, ow, none⟩)) = true ∧ csM v3 (.pointer (some ⟨bw, ow, none⟩)) = m.cells A0 c0' := isM_two (box_below G2.out K3.out) HR2.out (Nat.lt_of_lt_of_le hbw HBu2.out.size) K3.out)))
                        all_goals
                          have hlr : wk3 = rest.length + 1 := by have h := HWL3.out; simp at h; omega
                          have HW4 : Hid (MsgsV wo wo.heap.size (if wc3 = 1 then some (⟨bw, ow, none⟩ : Addr) else some ⟨bw, ow + 10, none⟩) (W.drop (got.length + (k3 + 1)))) := hid (by
                            rw [hd1]
                            have h := HW3.out.tail (c := wc3) (by omega)
                            by_cases e : wc3 = 1
                            · rw [if_pos e] at h ⊢; exact h
                            · rw [if_neg e] at h ⊢; exact h)
                          have HL4 : Hid ((W.drop (got.length + (k3 + 1))).length = wk3 - 1) := hid (by rw [hd1, hlr]; rfl)
                          have HB4 : Hid (Below w8.heap.size w8 v3) := hid (HB3.out.trans ((K1.out.trans ((K2.out.trans (K3.out.mono K2.out.size)).mono K1.out.size)).mono HB3.out.size))
                          clear HW3 HWL3 hd0 hd1 hlr
                          go_wp2
                          exact ⟨⟨k3 + 1, wk3 - 1, wc3 - 1, _, by omega, rfl, by go_num, by omega, by omega, HW4, HL4, HB4⟩, by simp [intOf]; omega⟩
                      · have hk7 : k3 = k7 := by omega
                        subst hk7
                        go_wp2
                        have hwm' : wc3 ≤ maxLen := by unfold maxLen; omega
                        have HW9 : Hid (MsgsV wo wo.heap.size WA3 (W.drop (got.length + sm.length))) := hid (by rw [HK7.out]; exact HW3.out)
                        have HL9 : Hid ((W.drop (got.length + sm.length)).length = wk3) := hid (by rw [HK7.out]; exact HWL3.out)
                        refine ⟨⟨_, _, wk3, wc3, c7, m7, _, WA3, A7, st.drop n2, got ++ sm, left, rfl, rfl, L2.fin HBK.out HFED ?_ ?_ HX8 HO8 HB8 HM7 HB3 HW9 HL9 ⟨hwc, hwm'⟩⟩, ?_⟩
                        · first
                            | exact HSF'
                            | (have e : sc2 - n2 = 0 := by omega
                               rw [e] at HSF'
                               exact HSF')
                        · have h := HDL.out
                          exact hid (by omega)
                        · first
                            | (show 0 < n2; omega)
                            | (show sn2 - n2 < sn2; omega)
            · have hst : st = [] := List.eq_nil_of_length_eq_zero (by rw [HSLN.out]; omega)
              have hs0 : sn2 = 0 := by omega
              subst hst
              subst hs0
              obtain ⟨hgl, hfb⟩ := HBK.out.fed.done
              have hfl0 : fl = 0 := by rw [← HBK.out.flen, hfb]; rfl
              have hwk0 : wk2 = 0 := by rw [← HBK.out.wlen, hgl, HG.out.end_]; rfl
              have HBE := hid (HB0.out.trans (HBK.out.bel.mono HB0.out.size))
              clear hgl hfb HBK
              subst hfl0
              subst hwk0
              go_wp2
              go_ret
              exact ⟨rfl, HBE.out⟩
end Go.Proofs.YtdplngplljejhaaDoor
