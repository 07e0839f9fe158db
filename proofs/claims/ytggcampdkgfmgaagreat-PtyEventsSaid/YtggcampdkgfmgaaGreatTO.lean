import Derived.Test.YtggcampdkgfmgaaGreatTL
import Derived.Test.YtggcampdkgfmgaaGreatTN
namespace Go.Proofs.YtggcampdkgfmgaaGreat
open Go.RowKit

/-! Layer 17: PtyHung, the walk. -/
theorem great_jv {D : Ds} {h : Ph} {w : World} (X : XIn w D h) (hg : greatD D = false) : Jv D := by
  have hf := great_fit X.t hg X.col X.fr X.idle
  refine ⟨hf.up (by omega), ?_⟩
  have hh := hg
  unfold greatD at hh
  simp only [Bool.or_eq_false_iff, decide_eq_false_iff_not] at hh
  obtain ⟨ha, hb⟩ := hh
  have hu : ∀ ls : List (List UInt8 × Bool), L13.usedL ls ≤ sumL ls + ls.length := by
    intro ls
    induction ls with
    | nil => exact Nat.le_refl _
    | cons x r ih =>
      simp only [L13.usedL, sumL, List.map_cons, List.sum_cons, List.length_cons] at ih ⊢
      split <;> omega
  have := hu D.ls
  exact ⟨by have := zeroN_le D.ls; omega, .inl (by omega), fun _ => ⟨by omega, by omega, by omega⟩⟩
section
variable {w0 w : World} {g p : Nat} {S0 S : Nat → Prop} {P : Ps}
theorem used17 (H : Hid (Py w0 g p S0 w S P)) (hf : Hid (Fit P.d)) {k : Nat} (hk : Hid (usedD P.d = k)) : Calls Tryz.prog 26 #[.pointer (some ⟨p, 0, none⟩)] w fun e w' => e = .returned (.int .i64 (k : Int)) ∧ Hid (Below w.heap.size w w') := by
  obtain ⟨h, H2⟩ := Wy.of (Py.dat H)
  exact used_d H2 (hid (hf.out.n.up (by omega))) hk
end
theorem doP_hung {P : Ps} (hh : P.hu = true) (o : Op17) : (doP P o).1.hu = true ∧ (doP P o).1.d = P.d ∧ (doP P o).2.1 = [] ∧ (o.k = 1 → (doP P o).2.2.1 = 0 ∧ (doP P o).2.2.2.2 = []) ∧ (o.k = 2 ∨ o.k = 3 ∨ o.k = 6 → (doP P o).2.2.2.1 = 11) ∧ (o.k = 5 → (doP P o).2.2.2.1 = 0) ∧ (o.k = 11 → (doP P o).2.2.2.2 = []) := by
  have e1 : mwP P o.b = (P, 0, []) := by unfold mwP; rw [if_pos hh]
  have e2 : mrP P o.n = (P, [], 11) := by unfold mrP; rw [if_pos hh]
  have e3 : openP P = (P, 11) := by unfold openP; rw [if_pos hh]
  have e5 : rdP P o.n o.m = (P, [], 0) := by unfold rdP; rw [if_pos hh]
  have e6 : wrP P o.b = (P, 0, 11) := by unfold wrP; rw [if_pos hh]
  have e11 : hangP P = (P, []) := by unfold hangP; rw [if_pos hh]
  have e4 : (closeP P).1.hu = true ∧ (closeP P).1.d = P.d := by unfold closeP; split <;> exact ⟨hh, rfl⟩
  have e7 : (satP P o.n o.t).1 = P := by
    unfold satP
    split
    · rfl
    · rfl
  have e8 : (sizeP P o.z).1.hu = true ∧ (sizeP P o.z).1.d = P.d := ⟨(sizeP_gp P o.z).2.1.trans hh, (sizeP_gp P o.z).2.2.2⟩
  have e9 : (bindP P o.n o.m).1.hu = true ∧ (bindP P o.n o.m).1.d = P.d := by unfold bindP; split; exact ⟨hh, rfl⟩; split <;> exact ⟨hh, rfl⟩
  have e10 : (groupP P o.n).1.hu = true ∧ (groupP P o.n).1.d = P.d := by unfold groupP; split; exact ⟨hh, rfl⟩; split <;> exact ⟨hh, rfl⟩
  unfold doP
  by_cases k1 : o.k = 1
  · rw [if_pos k1, e1]; exact ⟨hh, rfl, rfl, fun _ => ⟨rfl, rfl⟩, fun h => by omega, fun h => by omega, fun h => by omega⟩
  rw [if_neg k1]
  by_cases k2 : o.k = 2
  · rw [if_pos k2, e2]; exact ⟨hh, rfl, rfl, fun h => by omega, fun _ => rfl, fun h => by omega, fun h => by omega⟩
  rw [if_neg k2]
  by_cases k3 : o.k = 3
  · rw [if_pos k3, e3]; exact ⟨hh, rfl, rfl, fun h => by omega, fun _ => rfl, fun h => by omega, fun h => by omega⟩
  rw [if_neg k3]
  by_cases k4 : o.k = 4
  · rw [if_pos k4]; exact ⟨e4.1, e4.2, rfl, fun h => by omega, fun h => by omega, fun h => by omega, fun h => by omega⟩
  rw [if_neg k4]
  by_cases k5 : o.k = 5
  · rw [if_pos k5, e5]; exact ⟨hh, rfl, rfl, fun h => by omega, fun h => by omega, fun _ => rfl, fun h => by omega⟩
  rw [if_neg k5]
  by_cases k6 : o.k = 6
  · rw [if_pos k6, e6]; exact ⟨hh, rfl, rfl, fun h => by omega, fun _ => rfl, fun h => by omega, fun h => by omega⟩
  rw [if_neg k6]
  by_cases k7 : o.k = 7
  · rw [if_pos k7, e7]; exact ⟨hh, rfl, rfl, fun h => by omega, fun h => by omega, fun h => by omega, fun h => by omega⟩
  rw [if_neg k7]
  by_cases k8 : o.k = 8
  · rw [if_pos k8]; exact ⟨e8.1, e8.2, rfl, fun h => by omega, fun h => by omega, fun h => by omega, fun h => by omega⟩
  rw [if_neg k8]
  by_cases k9 : o.k = 9
  · rw [if_pos k9]; exact ⟨e9.1, e9.2, rfl, fun h => by omega, fun h => by omega, fun h => by omega, fun h => by omega⟩
  rw [if_neg k9]
  by_cases k10 : o.k = 10
  · rw [if_pos k10]; exact ⟨e10.1, e10.2, rfl, fun h => by omega, fun h => by omega, fun h => by omega, fun h => by omega⟩
  rw [if_neg k10]
  by_cases k11 : o.k = 11
  · rw [if_pos k11, e11]; exact ⟨hh, rfl, rfl, fun h => by omega, fun h => by omega, fun h => by omega, fun _ => rfl⟩
  rw [if_neg k11]
  exact ⟨hh, rfl, rfl, fun h => by omega, fun h => by omega, fun h => by omega, fun h => by omega⟩
set_option maxRecDepth 100000 in
set_option maxHeartbeats 16000000 in
theorem hung_walk (w : World) (D : Ds) (h : Ph) (z : Sz) (ss gp sl : Int) (hu : Bool) (X : Hid (XIn w D h)) (A : Option Addr) (c n : Nat) (ops : List Op17) (hO : Hid (OpsIn17 w A c ops)) (hn : Hid (ops.length = n)) :
    Calls Tryz.prog 10 #[.agg (ptV D h z ss gp sl hu), .slice A n c] w fun e w' => e = .returned (.bool true) ∧ Hid (Below w.heap.size w w') := by
  have ht := X.out.t
  have hcap : n ≤ 9223372036854775807 := by have h1 := hO.out.len; have h2 := hO.out.cap; have h3 := hn.out; unfold maxLen at h2; omega
  have hsz : Hid ((Tryz.prog.info? 105).map (·.size) = some (ptV D h z ss gp sl hu).size) := hid (by rw [ptV_size ht]; exact sizeP17)
  obtain ⟨v, hv0⟩ : ∃ v, v = w.alloc (.cells (ptV D h z ss gp sl hu) 105) := ⟨_, rfl⟩
  have B0 : Hid (Box v w.heap.size 105 (ptV D h z ss gp sl hu)) := hid (by rw [hv0]; exact Box.new w _ _)
  have K0 : Hid (Below w.heap.size w v) := hid (by rw [hv0]; exact (Below.refl _ w).alloc (Nat.le_refl _) _)
  have hlt0 : w.heap.size < v.heap.size := by rw [hv0, World.size_alloc]; omega
  cases hg : greatP D ops
  · have gd : Hid (greatD D = false) := hid (greatP_disc hg)
    have jv := great_jv X.out gd.out
    obtain ⟨⟨P1, E1⟩, hhp⟩ : ∃ r, Hid (hangP ⟨D, z, ss, gp, sl, hu⟩ = r) := ⟨_, hid rfl⟩
    have fit0 : Hid (Fit (⟨D, z, ss, gp, sl, hu⟩ : Ps).d) := hid jv.fits
    have hP1 : Hid (P1.hu = true ∧ (hu = true → E1 = []) ∧ (hu = false → P1.d = flushD D 3 ∧ E1 = evs gp [1, 18]) ∧ Jv P1.d) := hid (by
      have h1 := hhp.out
      unfold hangP at h1
      cases hu
      · injection h1 with h2 h3
        subst h2; subst h3
        exact ⟨rfl, (fun h => by cases h), fun _ => ⟨rfl, rfl⟩, jv.flush 3⟩
      · injection h1 with h2 h3
        subst h2; subst h3
        exact ⟨rfl, fun _ => rfl, (fun h => by cases h), jv⟩)
    have jv1 := hid hP1.out.2.2.2
    have fit1 : Hid (Fit P1.d) := hid jv1.out.fits
    go_enter Tryz.func10, Tryz.ntmps10
    go_upto_region 1 with (first
      | (refine bxT (by rfl) 105 _ (by rfl) _ (by rfl) hsz.out ?_))
    rw [← hv0]
    clear hv0
    go_upto_region 7 with (first
      | (go_at_call 38
         (with_reducible refine (alive17 _).mono ?_)
         rintro e u1 ⟨rfl, k1⟩
         have K1 := bel_t K0 k1.out
         have B1 := hid (box_below B0.out k1.out)
         have O1 := hid (hO.out.grow K1.out))
      | (refine ldX (by rfl) 105 Tryz.underlying105 _ (by rfl) _ (by rfl) B2 hsz ?_)
      | (refine ldX (by rfl) 105 Tryz.underlying105 _ (by rfl) _ (by rfl) B1 hsz ?_)
      | (go_at_call 45
         (with_reducible refine (great17_any _ D h z ss gp sl hu (hid (X.out.grow K1.out)) A c n ops O1 hn (hid hg)).mono ?_)
         rintro e u2 ⟨rfl, k2⟩
         have K2 := bel_t K1 k2.out
         have B2 := hid (box_below B1.out k2.out)
         have O2 := hid (O1.out.grow k2.out))
      | (go_at_call 46
         (with_reducible refine (to17_any _ D h z ss gp sl hu (hid (X.out.grow K2.out)) gd).mono ?_)
         rintro e u3 ⟨g, p, S0, rfl, H3⟩)
      | (go_at_call 47
         (with_reducible refine (hang_any (AlP.py H3) fit0 hhp).mono ?_)
         rintro e u4 ⟨A4, n4, c4, S4, rfl, N4, -, h4, -⟩
         have N4 : Hid (E1.length = n4) := N4
         have H4 := hid (H3.out.next h4)))
    have B4 := hid (box_below B2.out H4.out.bel)
    have P4 := AlP.py H4
    obtain ⟨ho4, co4⟩ := Py.outc P4 fit1.out.t
    obtain ⟨q, hq⟩ : ∃ q, Hid (P1.d.out.length = q) := ⟨_, hid rfl⟩
    obtain ⟨uu, huu⟩ : ∃ x, Hid (usedD P1.d = x) := ⟨_, hid rfl⟩
    have bz : ∀ W, Below u4.heap.size u4 W → W.cell? ⟨g, 8, none⟩ = some (.bool true) ∧ W.cell? ⟨g, 0, none⟩ = some (.pointer (some ⟨p, 0, none⟩)) ∧ W.cell? ⟨p, 30, none⟩ = some (.slice ho4.oA q ho4.oc) ∧ W.cell? ⟨w.heap.size, 39, none⟩ = some (.int .i64 gp) ∧ W.cell? ⟨w.heap.size, 41, none⟩ = some (.bool hu) := fun W k => by
      have b := box_below B4.out k
      refine ⟨Py.cellW P4 8 (by unfold psC; rw [hP1.out.1]; rfl) W k, Py.cellW P4 0 rfl W k, ?_, (b.cell 39).trans (ptV_back ht (j := 15) rfl), (b.cell 41).trans (ptV_back ht (j := 17) rfl)⟩
      rw [← hq.out]
      exact (k.cell (p := ⟨p, 30, none⟩) (World.block_lt_of_cell? _ _ co4.out)).trans co4.out
    go_cut [71] (fun a wx => a = .bool false ∧ Hid (Below u4.heap.size u4 wx))
    case first =>
      cases hu
      · obtain ⟨hd1, he1⟩ := hP1.out.2.2.1 rfl
        obtain rfl : 0 = q := by rw [← hq.out, hd1]; rfl
        have huz : Hid (usedD P1.d = 0) := hid (by rw [hd1]; rfl)
        by_cases hg0 : gp = 0
        · have hgb : (gp != 0) = false := by rw [hg0]; rfl
          clear hg0
          have qU : ∀ y : Gr u4, Calls Tryz.prog 26 #[.pointer (some ⟨p, 0, none⟩)] (grw y) fun e w'' => e = .returned (.int .i64 0) ∧ ∃ z' : Gr u4, w'' = grw z' := fun y => gr_call (used17 (Py.bel P4 y.b) fit1 huz)
          have d1 : ∀ y : Gr u4, (grw y).cell? ⟨g, 8, none⟩ = some (.bool true) := fun y => (bz _ y.b).1
          have d2 : ∀ y : Gr u4, (grw y).cell? ⟨g, 0, none⟩ = some (.pointer (some ⟨p, 0, none⟩)) := fun y => (bz _ y.b).2.1
          have d3 : ∀ y : Gr u4, (grw y).cell? ⟨p, 30, none⟩ = some (.slice ho4.oA 0 ho4.oc) := fun y => (bz _ y.b).2.2.1
          have d4 : ∀ y : Gr u4, (grw y).cell? ⟨w.heap.size, 39, none⟩ = some (.int .i64 gp) := fun y => (bz _ y.b).2.2.2.1
          have d5 : ∀ y : Gr u4, (grw y).cell? ⟨w.heap.size, 41, none⟩ = some (.bool false) := fun y => (bz _ y.b).2.2.2.2
          refine wp_region_grown (by kernel_rfl) (by kernel_rfl) ?_
          repeat (go_big_quiet_step (first
            | (go_at_call 26; with_reducible exact qU _)))
          refine wpQuiet_nil ?_
          intro y
          go_wp2_with fail
          go_meet
          exact ⟨rfl, hid y.b⟩
        · have hgb : (gp != 0) = true := bne_iff_ne.2 hg0
          obtain rfl : n4 = 2 := by rw [← N4.out, he1]; unfold evs; rw [if_neg hg0]; rfl
          clear hg0
          have qU : ∀ y : Gr u4, Calls Tryz.prog 26 #[.pointer (some ⟨p, 0, none⟩)] (grw y) fun e w'' => e = .returned (.int .i64 0) ∧ ∃ z' : Gr u4, w'' = grw z' := fun y => gr_call (used17 (Py.bel P4 y.b) fit1 huz)
          have d1 : ∀ y : Gr u4, (grw y).cell? ⟨g, 8, none⟩ = some (.bool true) := fun y => (bz _ y.b).1
          have d2 : ∀ y : Gr u4, (grw y).cell? ⟨g, 0, none⟩ = some (.pointer (some ⟨p, 0, none⟩)) := fun y => (bz _ y.b).2.1
          have d3 : ∀ y : Gr u4, (grw y).cell? ⟨p, 30, none⟩ = some (.slice ho4.oA 0 ho4.oc) := fun y => (bz _ y.b).2.2.1
          have d4 : ∀ y : Gr u4, (grw y).cell? ⟨w.heap.size, 39, none⟩ = some (.int .i64 gp) := fun y => (bz _ y.b).2.2.2.1
          have d5 : ∀ y : Gr u4, (grw y).cell? ⟨w.heap.size, 41, none⟩ = some (.bool false) := fun y => (bz _ y.b).2.2.2.2
          refine wp_region_grown (by kernel_rfl) (by kernel_rfl) ?_
          repeat (go_big_quiet_step (first
            | (go_at_call 26; with_reducible exact qU _)))
          refine wpQuiet_nil ?_
          intro y
          go_wp2_with fail
          go_meet
          exact ⟨rfl, hid y.b⟩
      · have he1 := hP1.out.2.1 rfl
        obtain rfl : n4 = 0 := by rw [← N4.out, he1]; rfl
        have b4 := bz u4 (Below.refl _ _)
        obtain ⟨d1, d2, d3, d4, d5⟩ := b4
        go_quiet (fail)
        go_wp2_with fail
        go_meet
        exact ⟨rfl, hid (bel_drewN (Below.refl _ _) _)⟩
    case rest =>
    obtain ⟨rfl, K5⟩ := hcut
    obtain ⟨v5, hv5⟩ : ∃ v5, v5 = wc := ⟨_, rfl⟩
    subst hv5
    have H5 := hid (H4.out.grow K5.out)
    have bz5 : ∀ W, Below v5.heap.size v5 W → W.cell? ⟨g, 0, none⟩ = some (.pointer (some ⟨p, 0, none⟩)) ∧ W.cell? ⟨p, 30, none⟩ = some (.slice ho4.oA q ho4.oc) := fun W k => by
      have := bz W (K5.out.trans (k.mono K5.out.size))
      exact ⟨this.2.1, this.2.2.1⟩
    clear bz H4 P4 B4
    go_upto_region 9 with fail
    go_cut [7, 8] (fun a b wx => a = .int .i64 (uu : Int) ∧ b = .int .i64 (q : Int) ∧ Hid (Below v5.heap.size v5 wx))
    case first =>
      have qU : ∀ y : Gr v5, Calls Tryz.prog 26 #[.pointer (some ⟨p, 0, none⟩)] (grw y) fun e w'' => e = .returned (.int .i64 (uu : Int)) ∧ ∃ z' : Gr v5, w'' = grw z' := fun y => gr_call (used17 (Py.bel (AlP.py H5) y.b) fit1 huu)
      have d2 : ∀ y : Gr v5, (grw y).cell? ⟨g, 0, none⟩ = some (.pointer (some ⟨p, 0, none⟩)) := fun y => (bz5 _ y.b).1
      have d3 : ∀ y : Gr v5, (grw y).cell? ⟨p, 30, none⟩ = some (.slice ho4.oA q ho4.oc) := fun y => (bz5 _ y.b).2
      refine wp_region_grown (by kernel_rfl) (by kernel_rfl) ?_
      repeat (go_big_quiet_step (first
        | (go_at_call 26; with_reducible exact qU _)))
      refine wpQuiet_nil ?_
      intro y
      go_wp2_with fail
      go_meet
      exact ⟨rfl, rfl, hid y.b⟩
    case rest =>
    obtain ⟨rfl, rfl, K6⟩ := hcut
    have H6 := hid (H5.out.grow K6.out)
    clear bz5 H5
    obtain ⟨v6, hv6⟩ : ∃ v6, v6 = wc := ⟨_, rfl⟩
    subst hv6
    go_wp2_with fail
    go_loopg [87] n (fun gk i wr => ∃ (m : Nat) (S : Nat → Prop) (P : Ps), m + gk = n ∧ i = .int .i64 m ∧ Hid (AlP u2 wr g p S P) ∧ Hid (P.hu = true) ∧ Hid (P.d = P1.d))
    case atStart => exact ⟨0, S4, P1, by omega, rfl, H6, hid hP1.out.1, hid rfl⟩
    case round =>
      clear H6
      obtain ⟨m, S, P, hm, rfl, H4, hhu, hPd⟩ := hrel
      by_cases hlt : m < n
      · have hki : (m : Int) < (n : Int) := by omega
        obtain ⟨b0, o0, op, hA, hop, hr, hok⟩ := (O2.out.grow H4.out.bel).at_ (k := m) (by have := hn.out; omega)
        subst hA
        have hr := hid hr
        have hok := hid hok
        have hmem := List.mem_of_getElem? hop
        have hsm := hid (greatP_small hg hmem)
        have hok2 := hid (O2.out.ok op hmem)
        clear hop hmem
        have hi32 : Hid ((Tryz.prog.info? 111).map (·.size) = some (opC17 op).length) := hid (by rw [opC17_len hok.out.t]; exact sizeOp17)
        have hi33 : Hid ((Tryz.prog.info? 111).map (·.size) = some (opV17 op).size) := hid (by rw [opV17_size hok.out.t]; exact sizeOp17)
        have hszo : (opV17 op).size = 32 := opV17_size hok.out.t
        have hfree : Hid (op.b ≠ [] → ∀ a, op.A = some a → ¬ GS g S a.block) := hid (fun hb a ha hx => by
          have h1 := slb_lt (hid hok2.out.b) hb a ha
          have h2 := H4.out.new _ hx
          omega)
        have nG : ∀ x, GS g S x → x < wr.heap.size := fun x hx => by
          rcases hx with hx | rfl
          · exact H4.out.at_.at_.top _ hx
          · exact H4.out.at_.lt
        obtain ⟨⟨P5, bs5, N5, E5, ev5⟩, hdo⟩ : ∃ r, Hid (doP P op = r) := ⟨_, hid rfl⟩
        have hok4 := hid (hok.out.t)
        have jvP : Hid (Jv P.d) := hid (by rw [hPd.out]; exact jv1.out)
        have hung := doP_hung hhu.out op
        rw [hdo.out] at hung
        obtain ⟨hu5, hd5, hb5, hk1, hk2, hk5, hk11⟩ := hung
        have hu5 : P5.hu = true := hu5
        have hd6 : P5.d = P1.d := hd5.trans hPd.out
        obtain rfl : [] = bs5 := hb5.symm
        have hk1 : op.k = 1 → N5 = 0 ∧ ev5 = [] := hk1
        have hk2 : op.k = 2 ∨ op.k = 3 ∨ op.k = 6 → E5 = 11 := hk2
        have hk5 : op.k = 5 → E5 = 0 := hk5
        have hk11 : op.k = 11 → ev5 = [] := hk11
        replace hk1 := hid hk1
        replace hk2 := hid hk2
        replace hk5 := hid hk5
        replace hk11 := hid hk11
        clear hd5
        replace hd6 := hid hd6
        replace hu5 := hid hu5
        have fit5 : Hid (Fit P5.d) := hid (by rw [hd6.out]; exact fit1.out)
        have huu5 : Hid (usedD P5.d = uu) := hid (by rw [hd6.out]; exact huu.out)
        have hq5 : Hid (P5.d.out.length = q) := hid (by rw [hd6.out]; exact hq.out)
        clear hb5
        go_upto_region 16 with (first
          | (refine ldM (by rfl) 111 Tryz.underlying111 _ (by rfl) b0 (o0 + m * 32) (by rfl) (opC17 op) hr hi32 ?_)
          | (refine snX (by rfl) 111 _ _ (by rfl) wr _ rfl rfl (opV17 op) (by rfl) hi33 hszo.symm (hid opV17_one) ?_
             intro v4 X4 k4
             have G4 := hid (H4.out.grow k4.out)
             have P4a := AlP.py G4
             have nX : ¬ GS g S wr.heap.size := fun hx => by have := nG _ hx; omega)
          | (refine ldX (by rfl) 111 Tryz.underlying111 _ (by rfl) _ (by rfl) X4 hi33 ?_)
          | (go_at_call 48
             (with_reducible refine (do17_any v4 g p S P (hid G4.out.at_) jvP op (hid (hok.out.grow k4.out)) hsm hfree hdo).mono ?_)
             rintro e v7 ⟨A7, n7, c7, A8, n8, c8, S7, rfl, N7, N8, -, h7⟩
             obtain rfl : n7 = 0 := N7.out.symm
             have N8 : Hid (ev5.length = n8) := N8
             have H7 := hid (G4.out.next h7)
             have X7 := hid (h7.out.but.box X4.out nX)
             have k8 : Below v7.heap.size v7 (v7.alloc (.cells #[.slice A7 0 c7, .int .i64 N5, .int .i64 E5, .slice A8 n8 c8] 114)) := (Below.refl _ _).alloc (Nat.le_refl _) _
             have H8 := hid (H7.out.grow k8)
             have X8 := hid (box_below X7.out k8)
             have Y8 : Hid (Box (v7.alloc (.cells #[.slice A7 0 c7, .int .i64 N5, .int .i64 E5, .slice A8 n8 c8] 114)) v7.heap.size 114 #[.slice A7 0 c7, .int .i64 N5, .int .i64 E5, .slice A8 n8 c8]) := hid (Box.new _ _ _)
             have P8 := AlP.py H8
             have d8 := Py.cell (v := .bool true) P8 8 (by unfold psC; rw [hu5.out]; rfl)
             have d0 := Py.cell (v := .pointer (some ⟨p, 0, none⟩)) P8 0 rfl)
          | (go_at_call 26
             (with_reducible refine (used17 P8 fit5 huu5).mono ?_)
             rintro e v9 ⟨rfl, k9⟩
             have H9 := hid (H8.out.grow k9.out)
             have P9 := AlP.py H9
             have d0 := Py.cell (v := .pointer (some ⟨p, 0, none⟩)) P9 0 rfl
             obtain ⟨ho9, co9⟩ := Py.outc P9 fit5.out.t
             have d30 : v9.cell? ⟨p, 30, none⟩ = some (.slice ho9.oA q ho9.oc) := by rw [← hq5.out]; exact co9.out
             have X9 := box_below X8.out k9.out
             have Y9 := box_below Y8.out k9.out
             have f0 : v9.cell? ⟨wr.heap.size, 0, none⟩ = some (.int .i64 op.k) := X9.cell 0
             have y0 : v9.cell? ⟨v7.heap.size, 0, none⟩ = some (.slice A7 0 c7) := Y9.cell 0
             have y1 : v9.cell? ⟨v7.heap.size, 1, none⟩ = some (.int .i64 N5) := Y9.cell 1
             have y2 : v9.cell? ⟨v7.heap.size, 2, none⟩ = some (.int .i64 E5) := Y9.cell 2
             have y3 : v9.cell? ⟨v7.heap.size, 3, none⟩ = some (.slice A8 n8 c8) := Y9.cell 3))
        by_cases e1 : op.k = 1
        · obtain ⟨rfl, hev⟩ := hk1.out e1
          obtain rfl : n8 = 0 := by rw [← N8.out, hev]; rfl
          rw [e1] at f0
          clear hev
          go_wp2_with fail
          go_roundg (gk - 1)
          case measure => omega
          case rel => exact ⟨m + 1, S7, P5, by omega, by go_num, H9, hu5, hd6⟩
        by_cases e2 : op.k = 2 ∨ op.k = 3 ∨ op.k = 6
        · obtain rfl := hk2.out e2
          clear e1
          rcases e2 with e2 | e2 | e2 <;> rw [e2] at f0 <;> clear e2
          · go_wp2_with fail
            go_roundg (gk - 1)
            case measure => omega
            case rel => exact ⟨m + 1, S7, P5, by omega, by go_num, H9, hu5, hd6⟩
          · go_wp2_with fail
            go_roundg (gk - 1)
            case measure => omega
            case rel => exact ⟨m + 1, S7, P5, by omega, by go_num, H9, hu5, hd6⟩
          · go_wp2_with fail
            go_roundg (gk - 1)
            case measure => omega
            case rel => exact ⟨m + 1, S7, P5, by omega, by go_num, H9, hu5, hd6⟩
        by_cases e5 : op.k = 5
        · obtain rfl := hk5.out e5
          rw [e5] at f0
          clear e1 e2 e5
          go_wp2_with fail
          go_roundg (gk - 1)
          case measure => omega
          case rel => exact ⟨m + 1, S7, P5, by omega, by go_num, H9, hu5, hd6⟩
        by_cases e11 : op.k = 11
        · have hev := hk11.out e11
          obtain rfl : n8 = 0 := by rw [← N8.out, hev]; rfl
          rw [e11] at f0
          clear e1 e2 e5 e11 hev
          go_wp2_with fail
          go_roundg (gk - 1)
          case measure => omega
          case rel => exact ⟨m + 1, S7, P5, by omega, by go_num, H9, hu5, hd6⟩
        · have b1 : (op.k == 1) = false := beq_eq_false_iff_ne.2 e1
          have b2 : (op.k == 2) = false := beq_eq_false_iff_ne.2 (fun h => e2 (.inl h))
          have b3 : (op.k == 3) = false := beq_eq_false_iff_ne.2 (fun h => e2 (.inr (.inl h)))
          have b6 : (op.k == 6) = false := beq_eq_false_iff_ne.2 (fun h => e2 (.inr (.inr h)))
          have b5 : (op.k == 5) = false := beq_eq_false_iff_ne.2 e5
          have b11 : (op.k == 11) = false := beq_eq_false_iff_ne.2 e11
          clear e1 e2 e5 e11
          go_wp2_with fail
          go_roundg (gk - 1)
          case measure => omega
          case rel => exact ⟨m + 1, S7, P5, by omega, by go_num, H9, hu5, hd6⟩
      · obtain rfl : m = n := by omega
        have hki : ¬ (m : Int) < (m : Int) := by omega
        go_wp2_with fail
        go_ret
        exact ⟨rfl, hid (K2.out.trans (H4.out.bel.mono K2.out.size))⟩
  · go_enter Tryz.func10, Tryz.ntmps10
    go_upto_region 1 with (first
      | (refine bxT (by rfl) 105 _ (by rfl) _ (by rfl) hsz.out ?_))
    rw [← hv0]
    clear hv0
    go_wp2_with (first
      | (go_at_call 38
         (with_reducible refine (alive17 _).mono ?_)
         rintro e u1 ⟨rfl, k1⟩
         have K1 := bel_t K0 k1.out
         have B1 := hid (box_below B0.out k1.out)
         have O1 := hid (hO.out.grow K1.out))
      | (refine ldX (by rfl) 105 Tryz.underlying105 _ (by rfl) _ (by rfl) B2 hsz ?_)
      | (refine ldX (by rfl) 105 Tryz.underlying105 _ (by rfl) _ (by rfl) B1 hsz ?_)
      | (go_at_call 45
         (with_reducible refine (great17_any _ D h z ss gp sl hu (hid (X.out.grow K1.out)) A c n ops O1 hn (hid hg)).mono ?_)
         rintro e u2 ⟨rfl, k2⟩
         have K2 := bel_t K1 k2.out
         have B2 := hid (box_below B1.out k2.out)
         have O2 := hid (O1.out.grow k2.out)))
    go_ret
    exact ⟨rfl, K2⟩
end Go.Proofs.YtggcampdkgfmgaaGreat
