import Derived.Test.YtggcampdkgfmgaaGreatQTr
import Derived.Deep.MidRow
namespace Go.Proofs.YtggcampdkgfmgaaGreat
open Go.RowKit
attribute [local go_sem ↓] wp_ldR ex_ldR wp_stR
attribute [local go_sem] isP_v blkV_v aggV_v stR_v
set_option maxRecDepth 100000 in
set_option maxHeartbeats 8000000 in
theorem to_any (w : World) (D : Ds) (h : Ph) (X : Hid (XIn w D h)) (hg : Hid (greatD D = false)) : Calls Tryz.prog 25 #[.agg (tmV D.t (dRest D h))] w fun e w' => ∃ p S, e = .returned (.pointer (some ⟨p, 0, none⟩)) ∧ Hid (DAt w' p S D) ∧ Hid (∀ x, S x → w.heap.size ≤ x) ∧ Hid (Below w.heap.size w w') := by
  have hsz : Hid ((Tryz.prog.info? 54).map (·.size) = some (tmV D.t (dRest D h)).size) := hid (by rw [tmV_size X.out.t]; exact sizeX16)
  have B0 : Hid (Box (w.alloc (.cells (tmV D.t (dRest D h)) 54)) w.heap.size 54 (tmV D.t (dRest D h))) := hid (Box.new w _ _)
  have K0 : Hid (Below w.heap.size w (w.alloc (.cells (tmV D.t (dRest D h)) 54))) := hid ((Below.refl _ w).alloc (Nat.le_refl _) _)
  have F0 : Hid (∀ (j : Nat) (v : Value), D.t.cl[j]? = some v → (tmV D.t (dRest D h))[j]? = some v) := hid (tmV_front _)
  have F24 : Hid ((tmV D.t (dRest D h))[24]? = some (.slice h.lA D.line.length h.lc)) := hid (tmV_back X.out.t (j := 0) rfl)
  have F25 : Hid ((tmV D.t (dRest D h))[25]? = some (.bool D.nx)) := hid (tmV_back X.out.t (j := 1) rfl)
  have F26 : Hid ((tmV D.t (dRest D h))[26]? = some (.slice h.nA D.ls.length h.nc)) := hid (tmV_back X.out.t (j := 2) rfl)
  have F27 : Hid ((tmV D.t (dRest D h))[27]? = some (.slice h.rA D.raw.length h.rc)) := hid (tmV_back X.out.t (j := 3) rfl)
  have F28 : Hid ((tmV D.t (dRest D h))[28]? = some (.bool D.s)) := hid (tmV_back X.out.t (j := 4) rfl)
  have F29 : Hid ((tmV D.t (dRest D h))[29]? = some (.bool D.h)) := hid (tmV_back X.out.t (j := 5) rfl)
  have F30 : Hid ((tmV D.t (dRest D h))[30]? = some (.slice h.oA D.out.length h.oc)) := hid (tmV_back X.out.t (j := 6) rfl)
  have F31 : Hid ((tmV D.t (dRest D h))[31]? = some (.int .i64 D.col)) := hid (tmV_back X.out.t (j := 7) rfl)
  have F32 : Hid ((tmV D.t (dRest D h))[32]? = some (.int .i64 D.fr)) := hid (tmV_back X.out.t (j := 8) rfl)
  have F33 : Hid ((tmV D.t (dRest D h))[33]? = some (.int .i64 D.idle)) := hid (tmV_back X.out.t (j := 9) rfl)
  generalize tmV D.t (dRest D h) = V at *
  have ht := X.out.t
  have hl := ht.len
  obtain ⟨ok1, ok2⟩ := okS_cs hl
  have F0o := F0.out
  go_enter Tryz.func25, Tryz.ntmps25
  go_wp2_with (first
    | (refine bxT (by rfl) 54 _ (by rfl) _ (by rfl) hsz.out ?_)
    | (refine ldF16 (by rfl) _ (by rfl) w.heap.size (by rfl) D.t hl B0 F0 ?_)
    | (go_at_call 19
       (with_reducible refine (newp_ph _ D.t ht).mono ?_)
       rintro e v ⟨p, S1, rfl, A1, N1, k1⟩
       have H1 : Hid (Wy v p S1 v S1 (newD D.t) ph0) := hid ⟨A1.out, fun x hx => .inl hx, ButP.refl S1 v⟩
       have B1 := hid (box_below B0.out k1.out)
       have K1 := bel_t K0 k1.out))
  have hpg : w.heap.size ≠ p := by
    have h2 := N1.out p H1.out.at_.sp
    have h3 := B0.out.lt
    omega
  have bz : ∀ W, KB p v W → isR W (.pointer (some ⟨w.heap.size, 0, none⟩)) = true ∧ csR W (.pointer (some ⟨w.heap.size, 0, none⟩)) = D.t.cs ∧ World.cell? W ⟨w.heap.size, 25, none⟩ = some (.bool D.nx) ∧ World.cell? W ⟨w.heap.size, 28, none⟩ = some (.bool D.s) ∧ World.cell? W ⟨w.heap.size, 29, none⟩ = some (.bool D.h) ∧ World.cell? W ⟨w.heap.size, 31, none⟩ = some (.int .i64 D.col) ∧ World.cell? W ⟨w.heap.size, 32, none⟩ = some (.int .i64 D.fr) ∧ World.cell? W ⟨w.heap.size, 33, none⟩ = some (.int .i64 D.idle) := fun W k => by
    have hb := k.box B1.out (fun e : w.heap.size = p => hpg e)
    obtain ⟨r1, r2⟩ := front_R (W := W) hl hb F0.out
    exact ⟨r1, r2, (hb.cell 25).trans F25.out, (hb.cell 28).trans F28.out, (hb.cell 29).trans F29.out, (hb.cell 31).trans F31.out, (hb.cell 32).trans F32.out, (hb.cell 33).trans F33.out⟩
  have ht1 : (newD D.t).t.Ok := ht
  have Hd := Wy.bel H1 (bel_dr (Below.refl _ v))
  have hth : ThR v.drew (.pointer (some ⟨p, 0, none⟩)) := ⟨p, 0, rfl, Wy.there Hd ht1⟩
  have Hs : Hid (Wy v p S1 (v.drew.setCells p 0 D.t.cs.toList) S1 { newD D.t with t := D.t } ph0) := Wy.set_t Hd ht1 ht
  have y25 := Wy.cellW Hs ht 1 rfl _ (Below.refl _ _)
  have y28 := Wy.cellW Hs ht 4 rfl _ (Below.refl _ _)
  have y29 := Wy.cellW Hs ht 5 rfl _ (Below.refl _ _)
  have y31 := Wy.cellW Hs ht 7 rfl _ (Below.refl _ _)
  have y32 := Wy.cellW Hs ht 8 rfl _ (Below.refl _ _)
  have y33 := Wy.cellW Hs ht 9 rfl _ (Below.refl _ _)
  have z25 := Wy.fz Hs 25
  have z28 := Wy.fz Hs 28
  have z29 := Wy.fz Hs 29
  have z31 := Wy.fz Hs 31
  have z32 := Wy.fz Hs 32
  have z33 := Wy.fz Hs 33
  go_upto_region 4 with fail
  go_cut [] (fun wx => ∃ S5, Hid (Wy v p S1 wx S5 (hdD D) ph0) ∧ Hid (KB p v wx))
  case first =>
   go_region_held3 (fun W => isR W (.pointer (some ⟨w.heap.size, 0, none⟩)) = true ∧ csR W (.pointer (some ⟨w.heap.size, 0, none⟩)) = D.t.cs ∧ World.cell? W ⟨w.heap.size, 25, none⟩ = some (.bool D.nx) ∧ World.cell? W ⟨w.heap.size, 28, none⟩ = some (.bool D.s) ∧ World.cell? W ⟨w.heap.size, 29, none⟩ = some (.bool D.h) ∧ World.cell? W ⟨w.heap.size, 31, none⟩ = some (.int .i64 D.col) ∧ World.cell? W ⟨w.heap.size, 32, none⟩ = some (.int .i64 D.fr) ∧ World.cell? W ⟨w.heap.size, 33, none⟩ = some (.int .i64 D.idle)) (exact bz _ (by repeat (first | with_reducible exact ButP.refl _ _ | with_reducible apply kb_dr | with_reducible apply kb_st | with_reducible apply kb_sts))) (fail)
   all_goals
    go_wp2_with fail
    go_meet
    have H6 := Wy.idle_ (Wy.fr_ (Wy.col_ (Wy.flow_ (Wy.nx_ Hs ht D.nx) ht D.s D.h) ht D.col) ht D.fr) ht D.idle
    exact ⟨_, H6, hid (kb_st (kb_st (kb_st (kb_st (kb_st (kb_st (kb_sts (kb_dr (ButP.refl _ v)) 0 _) _ _) _ _) _ _) _ _) _ _) _ _)⟩
  case rest =>
  obtain ⟨S4, H4, KP4⟩ := hcut
  obtain ⟨v4, hv4⟩ : ∃ v4, v4 = wc := ⟨_, rfl⟩
  subst hv4
  clear bz hth Hs y25 y28 y29 y31 y32 y33 z25 z28 z29 z31 z32 z33 Hd
  have hpw : w.heap.size ≤ p := by have := N1.out p H1.out.at_.sp; have := K0.out.size; have h9 : (w.alloc (.cells V 54)).heap.size ≤ p := N1.out p H1.out.at_.sp; omega
  have hpv : p < v4.heap.size := Wy.lt H4
  have B4 : Hid (Box v4 w.heap.size 54 V) := hid (KP4.out.box B1.out (fun e : w.heap.size = p => hpg e))
  have K4 : Hid (Below w.heap.size w v4) := hid (K1.out.trans (KP4.out.below K1.out.size (fun x hx => by subst hx; exact hpw)))
  obtain ⟨gl, hgl⟩ := great_lens hg.out
  obtain ⟨ll, hll⟩ : ∃ x, Hid (D.line.length = x) := ⟨_, hid rfl⟩
  obtain ⟨rl, hrl⟩ : ∃ x, Hid (D.raw.length = x) := ⟨_, hid rfl⟩
  obtain ⟨lo, hlo⟩ : ∃ x, Hid (D.out.length = x) := ⟨_, hid rfl⟩
  have m1 : ll ≤ 12000 := by rw [← hll.out]; exact gl.1
  have m2 : rl ≤ 12000 := by rw [← hrl.out]; exact gl.2.1
  have m3 : lo ≤ 12000 := by rw [← hlo.out]; exact gl.2.2
  have L1 := slb_up (hid X.out.line) K4.out
  have L2 := slb_up (hid X.out.raw) K4.out
  have L3 := slb_up (hid X.out.out) K4.out
  have bz5 : ∀ W, KB p v4 W → World.cell? W ⟨w.heap.size, 24, none⟩ = some (.slice h.lA ll h.lc) ∧ World.cell? W ⟨w.heap.size, 27, none⟩ = some (.slice h.rA rl h.rc) ∧ World.cell? W ⟨w.heap.size, 30, none⟩ = some (.slice h.oA lo h.oc) := fun W k => by
    have hb := k.box B4.out (fun e : w.heap.size = p => hpg e)
    rw [← hll.out, ← hrl.out, ← hlo.out]
    exact ⟨(hb.cell 24).trans F24.out, (hb.cell 27).trans F27.out, (hb.cell 30).trans F30.out⟩
  go_upto_region 5 with fail
  go_cut [] (fun wx => ∃ S5 A5 c5 A6 c6 A7 c7, Hid (Wy v p S1 wx S5 (lsD D) ⟨A5, c5, none, 0, [], A6, c6, A7, c7⟩) ∧ Hid (KB p v4 wx))
  case first =>
    go_region_held3 (fun W => World.cell? W ⟨w.heap.size, 24, none⟩ = some (.slice h.lA ll h.lc) ∧ World.cell? W ⟨w.heap.size, 27, none⟩ = some (.slice h.rA rl h.rc) ∧ World.cell? W ⟨w.heap.size, 30, none⟩ = some (.slice h.oA lo h.oc)) (with_reducible exact bz5 _ (by repeat (first | with_reducible exact ButP.refl _ _ | exact kb_be b4 | exact kb_be b3 | exact kb_be b2 | with_reducible apply kb_dr | with_reducible apply kb_al | with_reducible apply kb_st))) ((first
      | (refine step_lit v4 (by rfl) (.tmp 49) (.tmp 51) (by rfl) _ (by rfl) ?b1 ?g1 ?v1 h.lA ll h.lc D.line (by rfl) L1 hll (by omega) ?_
         case b1 => repeat (first | (refine box_nw ?_; simp; done) | with_reducible apply box_dr | with_reducible apply box_al | (refine KB2 _ ?hne ?_; case hne => ((try simp only [World.size_alloc]); omega)) | (refine KB1 _ ?hne ?_; case hne => ((try simp only [World.size_alloc]); omega)))
         case g1 => first | omega | (have := b2.size; omega)
         case v1 => (repeat (first | exact Below.refl _ _ | with_reducible apply bel_dr | with_reducible apply bel_al))
         intro A5 c5 u2 b2 R1 f1 KS1 KB1 sz1
         try simp only [size_dr, World.size_alloc] at sz1)
      | (refine step_lit v4 (by rfl) (.tmp 53) (.tmp 55) (by rfl) _ (by rfl) ?b1 ?g1 ?v1 h.rA rl h.rc D.raw (by rfl) L2 hrl (by omega) ?_
         case b1 => repeat (first | (refine box_nw ?_; simp; done) | with_reducible apply box_dr | with_reducible apply box_al | (refine KB2 _ ?hne ?_; case hne => ((try simp only [World.size_alloc]); omega)) | (refine KB1 _ ?hne ?_; case hne => ((try simp only [World.size_alloc]); omega)))
         case g1 => first | omega | (have := b2.size; omega)
         case v1 => (repeat (first | exact Below.refl _ _ | exact b2 | with_reducible apply bel_dr | with_reducible apply bel_al))
         intro A6 c6 u3 b3 R2 f2 KS2 KB2 sz2
         try simp only [World.size_alloc] at sz2
         have R1 := KS2 _ _ _ (slb_up R1 (by repeat (first | exact Below.refl _ _ | with_reducible apply bel_dr | with_reducible apply bel_al))))
      | (refine step_lit v4 (by rfl) (.tmp 57) (.tmp 59) (by rfl) _ (by rfl) ?b1 ?g1 ?v1 h.oA lo h.oc D.out (by rfl) L3 hlo (by omega) ?_
         case b1 => repeat (first | (refine box_nw ?_; simp; done) | with_reducible apply box_dr | with_reducible apply box_al | (refine KB2 _ ?hne ?_; case hne => ((try simp only [World.size_alloc]); omega)) | (refine KB1 _ ?hne ?_; case hne => ((try simp only [World.size_alloc]); omega)))
         case g1 => first | omega | (have h3 := b3.size; omega) | (have h2 := b2.size; omega)
         case v1 => (repeat (first | exact Below.refl _ _ | exact b3 | with_reducible apply bel_dr | with_reducible apply bel_al))
         intro A7 c7 u4 b4 R3 f3 KS3 KB3 sz3
         have R1 := KS3 _ _ _ (slb_up R1 (by repeat (first | exact Below.refl _ _ | with_reducible apply bel_dr | with_reducible apply bel_al)))
         have R2 := KS3 _ _ _ (slb_up R2 (by repeat (first | exact Below.refl _ _ | with_reducible apply bel_dr | with_reducible apply bel_al)))
         have H5 := Wy.bel H4 b4
         have y24 := Wy.cellW H5 ht 0 rfl u4 (Below.refl _ _)
         have y27 := Wy.cellW H5 ht 3 rfl u4 (Below.refl _ _)
         have y30 := Wy.cellW H5 ht 6 rfl u4 (Below.refl _ _)
         have z24 := Wy.fz H5 24
         have z27 := Wy.fz H5 27
         have z30 := Wy.fz H5 30)))
    all_goals
      go_wp2_with fail
      go_meet
      have fr : ∀ {ne : Prop} {S : Nat → Prop} {A : Option Addr}, Hid (∀ a, A = some a → v4.heap.size ≤ a.block) → Fr v p S A ne := fun hf _ a ha => ⟨.inr (Nat.le_trans KP4.out.size (hf.out a ha)), fun e => by have := hf.out a ha; omega⟩
      have H6 := Wy.line_ H5 ht hll R1 (fr f1)
      have H7 := Wy.raw_ H6 ht hrl (Wy.slbSet H5 ht 0 rfl (fun _ e => by cases e) R2 _) (fr f2)
      have H8 := Wy.out_ H7 ht hlo (Wy.slbSet H6 ht 3 rfl (fun _ e => by cases e) (Wy.slbSet H5 ht 0 rfl (fun _ e => by cases e) R3 _) _) (fr f3)
      exact ⟨_, A5, c5, A6, c6, A7, c7, H8, hid (kb_st (kb_st (kb_st (kb_be b4) _ _) _ _) _ _)⟩
  case rest =>
  obtain ⟨S5, A5, c5, A6, c6, A7, c7, H5, KP5⟩ := hcut
  obtain ⟨v5, hv5⟩ : ∃ v5, v5 = wc := ⟨_, rfl⟩
  subst hv5
  clear bz5 L1 L2 L3
  have B5 : Hid (Box v5 w.heap.size 54 V) := hid (KP5.out.box B4.out (fun e : w.heap.size = p => hpg e))
  have K5 : Hid (Below w.heap.size w v5) := hid (K4.out.trans (KP5.out.below K4.out.size (fun x hx => by subst hx; exact hpw)))
  have ha := ‹∀ (a : Act) (w : World), Code.wp _ _ _ a w → _›
  refine ha _ _ ?_
  exact to_rest w v v5 p S1 S5 D h V A5 A6 A7 c5 c6 c7 X hgl B5 F26 N1 K0 K1 hpw K5 H5 _ _ _ _ _ _ _ _ _ _ _ _ _ _ _ _ _ _ _ _ _ _ _ _ _ _ _ _ _ _ _ _ _ _ _ _ _ _ _ _ _ _ _ _ _ _ _ _ _ _ _ _ _ _ _ _ _ _ _ _ _ _ _ _ _ _ _ _ _ _ _ _ _ _ _ _ _ _ _ _ _ _ _
end Go.Proofs.YtggcampdkgfmgaaGreat
