import Derived.Test.YtjncahcigbdbgabLO
import Derived.Deep.DeepCutAuto
namespace Go.Proofs.Ytjncahcigbdbgab
open Go.RowKit

/-! Layer 13: CanonIs, the walk. -/
set_option maxRecDepth 100000 in
set_option maxHeartbeats 4000000 in
theorem is_walk (w : World) (A : Option Addr) (n c : Nat) (rs : List Rc) (xA : Option Addr) (xc : Nat) (xb : List UInt8) (xe : Bool) (ki : Int) (hl : Hid (LnV w w.heap.size A c rs)) (hn : Hid (rs.length = n)) (hx : Hid (SlB w w.heap.size xA xc xb)) (hm : n ≤ 4398046510976) (ht : Hid (∀ r ∈ rs, r.bs.length ≤ 140737488351232)) (hxt : Hid (xb.length ≤ 140737488351232)) :
    Calls Try.prog 3 #[.slice A n c, .agg #[.slice xA xb.length xc, .bool xe], .int .i64 ki] w fun e w' => e = .returned (.bool true) ∧ Hid (Below w.heap.size w w') := by
  have hL : Hid (([(⟨xA, xc, xb, xe⟩ : Rc)] ++ rs).length = 1 + n) := hid (by rw [List.length_append, hn.out]; rfl)
  have hxb : xb.length ≤ 140737488351232 := hxt.out
  go_enter Try.func3, Try.ntmps3
  go_wp2_with (first
    | (refine bx25 (by rfl) _ (by rfl) _ _ (by rfl) ?_
       intro HB
       have K0 : Hid (Below w.heap.size w (w.alloc (.cells #[.slice xA xb.length xc, .bool xe] 25))) := hid ((Below.refl _ w).alloc (Nat.le_refl _) _)
       have hl0 := ln_up hl K0.out
       have hx0 := slb_up hx K0.out)
    | (go_at_call 7
       (with_reducible refine (alive_any _).mono ?_)
       rintro e u1 ⟨rfl, k1⟩
       have K1 := bel_t K0 k1.out
       have hl1 := ln_up hl0 k1.out
       have hx1 := slb_up hx0 k1.out
       have HB1 := hid (box_below HB.out k1.out)
       have O1 : Hid ((u1.alloc (.cells #[.slice xA xb.length xc, .bool xe] 25)).ownsRow u1.heap.size 25 2 (.slice (some ⟨u1.heap.size, 0, none⟩) 1 1) 1 (rcV [(⟨xA, xc, xb, xe⟩ : Rc)])) := hid (own_rec u1 25 ⟨xA, xc, xb, xe⟩ _ _ rfl rfl)
       have b1 : Below u1.heap.size u1 (u1.alloc (.cells #[.slice xA xb.length xc, .bool xe] 25)) := (Below.refl _ u1).alloc (Nat.le_refl _) _
       have hl1a := ln_up hl1 b1
       have L1 : Hid (Lies (u1.alloc (.cells #[.slice xA xb.length xc, .bool xe] 25)) (u1.alloc (.cells #[.slice xA xb.length xc, .bool xe] 25)).heap.size A (rcV rs)) := hid hl1a.out.lies
       clear k1 HB hl0 hx0 hl1a)
    | (refine ld25 (by rfl) _ (by rfl) _ (by rfl) _ _ HB1 ?_)
    | (at_builtin
       (refine app_rec 22 25 Try.underlying22 Try.info25 _ (by rfl) (.tmp 28) (.tmp 29) rfl u1.heap.size 1 n 1 _ [(⟨xA, xc, xb, xe⟩ : Rc)] rs rfl O1 b1.size A c rfl L1 hn.out (by omega) ?_)
       intro A2 c2 u2 O2 k2
       have b2 : Below u1.heap.size u1 u2 := b1.trans (k2.out.below b1.size)
       have K2 := bel_t K1 b2
       have hl2 := ln_up hl1 b2
       have hx2 := slb_up hx1 b2
       have HB2 := hid (box_below HB1.out b2)
       have X2 : Hid (LnV u2 u2.heap.size A2 c2 ([(⟨xA, xc, xb, xe⟩ : Rc)] ++ rs)) := hid (LnO.ln (base := u1.heap.size) (E := 25) ⟨hL.out, O2.out, fun r hr => by
         rcases List.mem_append.1 hr with h | h
         · rw [List.mem_singleton.1 h]; exact hx2.out
         · exact hl2.out.text r h⟩)
       clear b1 L1 O1 HB1 hx1 hl1))
  by_cases hg : greatL (lnR ([(⟨xA, xc, xb, xe⟩ : Rc)] ++ rs)) = true
  · go_wp2_with (first
      | (go_at_call 8
         (with_reducible refine (great_any u2 A2 (1 + n) c2 ([(⟨xA, xc, xb, xe⟩ : Rc)] ++ rs) X2 hL.out (by omega)).mono ?_)
         rw [hg]
         rintro e u3 ⟨rfl, k3⟩
         have K3 := bel_t K2 k3.out))
    go_ret
    exact ⟨rfl, K3⟩
  have hg : greatL (lnR ([(⟨xA, xc, xb, xe⟩ : Rc)] ++ rs)) = false := by simpa using hg
  obtain ⟨hg1, hg2⟩ := great_no hg
  rw [lnR_len, hL.out] at hg1
  have hn1000 : n ≤ 1000 := by omega
  have htr : Hid (∀ y ∈ lnR rs, y.1.length ≤ 140737488351232) := hid (fun y hy => by
    obtain ⟨r, hr, rfl⟩ := List.mem_map.1 hy
    exact ht.out r hr)
  have hminx : minL (lnR ([(⟨xA, xc, xb, xe⟩ : Rc)] ++ rs)) ≤ 10000 := hg2
  have hmin : Hid (minL (lnR rs) ≤ 10000) := hid (by
    rw [lnR_append] at hminx
    have e : lnR [(⟨xA, xc, xb, xe⟩ : Rc)] ++ lnR rs = (xb, xe) :: lnR rs := rfl
    rw [e, minL_cons] at hminx
    omega)
  clear hminx
  go_wp2_with (first
      | (go_at_call 8
         (with_reducible refine (great_any u2 A2 (1 + n) c2 ([(⟨xA, xc, xb, xe⟩ : Rc)] ++ rs) X2 hL.out (by omega)).mono ?_)
         rw [hg]
         rintro e u3 ⟨rfl, k3⟩
         have K3 := bel_t K2 k3.out
         have hl3 := ln_up hl2 k3.out
         have hx3 := slb_up hx2 k3.out
         have HB3 := hid (box_below HB2.out k3.out)
         have C5 : u3.cell? ⟨w.heap.size, 0, none⟩ = some (.slice xA xb.length xc) := by simpa using HB3.out.cell 0
         have C6 : u3.cell? ⟨w.heap.size, 1, none⟩ = some (.bool xe) := by simpa using HB3.out.cell 1
         clear k3 X2 hl2 hx2 HB2 b2))
  obtain ⟨g, hg0⟩ : ∃ g, w.heap.size = g := ⟨_, rfl⟩
  rw [hg0] at C5 C6 HB3 ⊢
  have hone : Hid (∀ r ∈ [(⟨xA, xc, xb, xe⟩ : Rc)], r.bs.length ≤ 140737488351232) := hid (fun r hr => by rw [List.mem_singleton.1 hr]; exact hxb)
  have hone2 : Hid (xb.length ≤ 140737488351232) := hid hxb
  have h1000 : 1 ≤ 1000 := by omega
  have hn900 : n ≤ 900 := by omega
  have bz : ∀ W, Below u3.heap.size u3 W → W.cell? ⟨g, 0, none⟩ = some (.slice xA xb.length xc) ∧ W.cell? ⟨g, 1, none⟩ = some (.bool xe) := fun W h => ⟨(h.cell (p := ⟨g, 0, none⟩) (World.block_lt_of_cell? _ _ C5)).trans C5, (h.cell (p := ⟨g, 1, none⟩) (World.block_lt_of_cell? _ _ C6)).trans C6⟩
  have C5d : u3.drew.cell? ⟨g, 0, none⟩ = some (.slice xA xb.length xc) := C5
  have C6d : u3.drew.cell? ⟨g, 1, none⟩ = some (.bool xe) := C6
  have C5a : ∀ o, (u3.alloc o).cell? ⟨g, 0, none⟩ = some (.slice xA xb.length xc) := fun o => (bz _ (by repeat (first | exact Below.refl _ _ | with_reducible apply bel_dr | with_reducible apply bel_al))).1
  have C6a : ∀ o, (u3.alloc o).cell? ⟨g, 1, none⟩ = some (.bool xe) := fun o => (bz _ (by repeat (first | exact Below.refl _ _ | with_reducible apply bel_dr | with_reducible apply bel_al))).2
  go_cut [7, 8] (fun vi vo wx => ∃ A4 c4 q4 g1 Ay cy, vi = .slice A4 n c4 ∧ vo = .pointer (some ⟨g1, 0, none⟩) ∧ Hid (lnR q4 = lnR rs) ∧ Hid (q4.length = n) ∧ Hid (LnV wx wx.heap.size A4 c4 q4) ∧ Hid (Box wx g1 30 #[.slice Ay xb.length cy, .bool xe]) ∧ Hid (SlB wx wx.heap.size Ay cy xb) ∧ Hid (Below u3.heap.size u3 wx))
  case first =>
    go_region_law (first
      | (go_simp
         go_at_call 9
         (first
           | ((with_reducible refine (to_grow u3 _ ?c1 _ 1 1 [(⟨xA, xc, xb, xe⟩ : Rc)] (hid (ln_lit (E := 25) ?c2 (slb_up hx3 ?c3).out)) rfl h1000 hone).mono ?_)
              case c1 => repeat (first | exact Below.refl _ _ | exact b6 | with_reducible apply bel_dr | with_reducible apply bel_al)
              case c2 => first | exact box_nw rfl | exact box_dr (box_nw rfl) | exact box_al (box_nw rfl) | exact box_al (box_dr (box_nw rfl)) | exact box_dr (box_al (box_nw rfl)) | exact box_nw1 | exact box_dr box_nw1 | exact box_nw2 | exact z6 | exact box_al z6
              case c3 => repeat (first | exact Below.refl _ _ | exact b6 | with_reducible apply bel_dr | with_reducible apply bel_al)
              rintro e u7 ⟨A7, c7, q7, rfl, hq7, N7, b7, d7⟩
              obtain ⟨g7, Ay, cy, rfl, hqy, C70, C71, S7⟩ := one_ln N7 hq7
              have d67 := Below.trans (show Below u6.heap.size u6 _ from (by repeat (first | exact Below.refl _ _ | with_reducible apply bel_dr | with_reducible apply bel_al))) (Below.mono d7 (bsz (by repeat (first | exact Below.refl _ _ | with_reducible apply bel_dr | with_reducible apply bel_al))))
              have C70a := cell_al C70
              have C71a := cell_al C71
              first | have va7 := bxl (box_below va.1 (by repeat (first | exact Below.refl _ _ | with_reducible apply bel_dr | with_reducible apply bel_al))) d7 | skip
              first | have vb7 := bxl (box_below vb.1 (by repeat (first | exact Below.refl _ _ | with_reducible apply bel_dr | with_reducible apply bel_al))) d7 | skip
              first | have vc7 := bxl (show Box _ u6.heap.size 30 #[.slice none 0 0, .bool false] from (by first | exact box_nw rfl | exact box_dr (box_nw rfl) | exact box_al (box_nw rfl) | exact box_al (box_dr (box_nw rfl)) | exact box_dr (box_al (box_nw rfl)))) d7 | skip
              first | have vd7 := bxl (show Box _ (u6.heap.size + 1) 30 #[.slice none 0 0, .bool false] from (by first | exact box_nw1 | exact box_dr box_nw1 | exact box_nw2)) d7 | skip
              first | have va0 := va7.1.cell 0 | skip
              first | have va1 := va7.1.cell 1 | skip
              first | have vaf := va7.1.frozen 0 | skip
              first | have vag := va7.1.frozen 1 | skip
              first | have vb0 := vb7.1.cell 0 | skip
              first | have vb1 := vb7.1.cell 1 | skip
              first | have vbf := vb7.1.frozen 0 | skip
              first | have vbg := vb7.1.frozen 1 | skip
              first | have vc0 := vc7.1.cell 0 | skip
              first | have vc1 := vc7.1.cell 1 | skip
              first | have vcf := vc7.1.frozen 0 | skip
              first | have vcg := vc7.1.frozen 1 | skip
              first | have vd0 := vd7.1.cell 0 | skip
              first | have vd1 := vd7.1.cell 1 | skip
              first | have vdf := vd7.1.frozen 0 | skip
              first | have vdg := vd7.1.frozen 1 | skip)
           | ((with_reducible refine (to_grow u3 _ ?c4 A n c rs (ln_up hl3 ?c5) hn.out hn1000 ht).mono ?_)
              case c4 => repeat (first | exact Below.refl _ _ | with_reducible apply bel_dr | with_reducible apply bel_al)
              case c5 => repeat (first | exact Below.refl _ _ | with_reducible apply bel_dr | with_reducible apply bel_al)
              rintro e u6 ⟨A6, c6, q6, rfl, hq6, N6, b6, d6⟩
              have C60 := (bz u6 b6).1
              have C61 := (bz u6 b6).2
              have C60a : ∀ o, (u6.alloc o).cell? ⟨g, 0, none⟩ = some (.slice xA xb.length xc) := fun o => (bz _ (by repeat (first | exact Below.refl _ _ | exact b6 | with_reducible apply bel_dr | with_reducible apply bel_al))).1
              have C61a : ∀ o, (u6.alloc o).cell? ⟨g, 1, none⟩ = some (.bool xe) := fun o => (bz _ (by repeat (first | exact Below.refl _ _ | exact b6 | with_reducible apply bel_dr | with_reducible apply bel_al))).2
              first | have z6 := box_below (show Box _ u3.heap.size 25 #[.slice xA xb.length xc, .bool xe] from (by first | exact box_nw rfl | exact box_dr (box_nw rfl) | exact box_al (box_nw rfl) | exact box_al (box_dr (box_nw rfl)) | exact box_dr (box_al (box_nw rfl)))) d6 | have z6 := box_below (show Box _ (u3.heap.size + 1) 25 #[.slice xA xb.length xc, .bool xe] from (by first | exact box_nw1 | exact box_dr box_nw1 | exact box_nw2)) d6 | skip
              first | have va := bxl (show Box _ u3.heap.size 30 #[.slice none 0 0, .bool false] from (by first | exact box_nw rfl | exact box_dr (box_nw rfl) | exact box_al (box_nw rfl) | exact box_al (box_dr (box_nw rfl)) | exact box_dr (box_al (box_nw rfl)))) d6 | skip
              first | have vb := bxl (show Box _ (u3.heap.size + 1) 30 #[.slice none 0 0, .bool false] from (by first | exact box_nw1 | exact box_dr box_nw1 | exact box_nw2)) d6 | skip))))
    all_goals
      go_wp2_with fail
      go_meet
      first
        | (obtain ⟨f1, f2, f3, f4⟩ := finA N6 d67 N7 hqy b7
           exact ⟨A6, c6, q6, _, Ay, cy, rfl, rfl, hq6, hid N6.out.len, f1, f2, f3, f4⟩)
        | (obtain ⟨f1, f2, f3, f4⟩ := finB va7 va.2 N6 d67 N7 hqy b7 (Nat.le_refl _)
           exact ⟨A6, c6, q6, _, Ay, cy, rfl, rfl, hq6, hid N6.out.len, f1, f2, f3, f4⟩)
        | (obtain ⟨f1, f2, f3, f4⟩ := finB vb7 vb.2 N6 d67 N7 hqy b7 (Nat.le_succ _)
           exact ⟨A6, c6, q6, _, Ay, cy, rfl, rfl, hq6, hid N6.out.len, f1, f2, f3, f4⟩)
        | (obtain ⟨f1, f2, f3, f4⟩ := finC vc7 (Nat.le_refl _) N6 d67 N7 hqy b7 b6.size
           exact ⟨A6, c6, q6, _, Ay, cy, rfl, rfl, hq6, hid N6.out.len, f1, f2, f3, f4⟩)
        | (obtain ⟨f1, f2, f3, f4⟩ := finC vd7 (Nat.le_succ _) N6 d67 N7 hqy b7 b6.size
           exact ⟨A6, c6, q6, _, Ay, cy, rfl, rfl, hq6, hid N6.out.len, f1, f2, f3, f4⟩)
  case rest =>
  obtain ⟨A4, c4, q4, g1, Ay, cy, rfl, rfl, hq4, hn4, N4, G4, S4, b4⟩ := hcut
  obtain ⟨u4, rfl⟩ : ∃ u4, u4 = wc := ⟨_, rfl⟩
  have K4 := bel_t K3 b4.out
  have hl4 := ln_up hl3 b4.out
  have hx4 := slb_up hx3 b4.out
  have HB4 := hid (box_below HB3.out b4.out)
  have D0 : u4.cell? ⟨g1, 0, none⟩ = some (.slice Ay xb.length cy) := by simpa using G4.out.cell 0
  have D1 : u4.cell? ⟨g1, 1, none⟩ = some (.bool xe) := by simpa using G4.out.cell 1
  have hg4 := HB4.out.lt
  clear bz C5 C6 C5d C6d C5a C6a hl3 hx3 HB3
  obtain ⟨L, b, hp⟩ : ∃ L b, Hid (putL (lnR rs) (xb, xe) = (L, b)) := ⟨_, _, hid rfl⟩
  obtain ⟨bb, LL, hb, hr⟩ : ∃ bb LL hb, Hid (readL (lnR rs) ki = (bb, LL, hb)) := ⟨_, _, _, hid rfl⟩
  obtain ⟨U, hU⟩ : ∃ U, Hid (usedL (lnR rs) = U) := ⟨_, hid rfl⟩
  have hLlen : L.length ≤ 201 := by
    have h := put_len (lnR rs) (xb, xe)
    rw [hp.out, lnR_len, hn.out] at h
    have h : L.length ≤ n + 1 := h
    omega
  have hLLlen : LL.length ≤ 200 := by
    have h := read_len (lnR rs) ki
    rw [hr.out, lnR_len, hn.out] at h
    have h : LL.length ≤ n := h
    omega
  have hbbl : bb.length ≤ 140737488351232 := by
    have h := read_each (lnR rs) ki htr.out
    rwa [hr.out] at h
  have hLlen := hid hLlen
  have hLLlen := hid hLLlen
  have hbbl := hid hbbl
  have ht4 := each_of hq4 htr.out
  have hU4 : Hid (usedL (lnR q4) = U) := hid (by rw [hq4.out]; exact hU.out)
  go_wp2_with (first
    | (go_at_call 10
       (with_reducible refine (put_f u4 A4 n c4 q4 Ay cy xb xe N4 S4 hn4 hn900 ht4 hone2 (putl_eq hq4 hp)).mono ?_)
       rintro e u5 ⟨Ap, np, cp, qp, rfl, hqp, hnp, Fp, k5⟩
       have hl5 := ln_up hl4 k5.out
       have hx5 := slb_up hx4 k5.out
       have HB5 := hid (box_below HB4.out k5.out)
       have N5 := ln_up N4 k5.out
       have C5 : u5.cell? ⟨g, 0, none⟩ = some (.slice xA xb.length xc) := by simpa using HB5.out.cell 0
       have C6 : u5.cell? ⟨g, 1, none⟩ = some (.bool xe) := by simpa using HB5.out.cell 1
       have C5d : u5.drew.cell? ⟨g, 0, none⟩ = some (.slice xA xb.length xc) := C5
       have C6d : u5.drew.cell? ⟨g, 1, none⟩ = some (.bool xe) := C6))
  have bz : ∀ W, Below u5.heap.size u5 W → W.cell? ⟨g, 0, none⟩ = some (.slice xA xb.length xc) ∧ W.cell? ⟨g, 1, none⟩ = some (.bool xe) := fun W h => ⟨(h.cell (p := ⟨g, 0, none⟩) (World.block_lt_of_cell? _ _ C5)).trans C5, (h.cell (p := ⟨g, 1, none⟩) (World.block_lt_of_cell? _ _ C6)).trans C6⟩
  go_cut [11, 12] (fun vq vi wx => ∃ Aq nq cq qq, vq = .slice Aq nq cq ∧ vi = .bool b ∧ Hid (lnR qq = L) ∧ Hid (qq.length = nq) ∧ Hid (LnV wx wx.heap.size Aq cq qq) ∧ Hid (Below u5.heap.size u5 wx))
  case first =>
    go_region_law (first
      | (go_simp
         go_at_call 12
         (with_reducible refine (ref_grow u5 _ ?c1 A n c rs (ln_up hl5 ?c2) hn hn1000).mono ?_)
         case c1 => repeat (first | exact Below.refl _ _ | with_reducible apply bel_dr | with_reducible apply bel_al)
         case c2 => repeat (first | exact Below.refl _ _ | with_reducible apply bel_dr | with_reducible apply bel_al)
         rintro e u6 ⟨A6, c6, rfl, L6, b6, d6⟩
         have C60 := (bz u6 b6).1
         have C61 := (bz u6 b6).2)
      | (go_simp
         go_at_call 11
         (with_reducible refine (putr_grow u5 u6 b6 A6 n c6 rs xA xc xb xe L6 hx5 hn hn900 ht hone2 hp).mono ?_)
         rintro e u7 ⟨Aq, nq, cq, qq, rfl, hqq, hnq, Lq, b7⟩))
    all_goals
      go_wp2_with fail
      go_meet
      exact ⟨Aq, nq, cq, qq, rfl, rfl, hqq, hnq, Lq, hid b7⟩
  case rest =>
  obtain ⟨Aq, nq, cq, qq, rfl, rfl, hqq, hnq, Lq7, b7⟩ := hcut
  obtain ⟨u7, rfl⟩ : ∃ u7, u7 = wc := ⟨_, rfl⟩
  have K7 : Hid (Below u4.heap.size u4 u7) := bel_t k5 b7.out
  have hl7 := ln_up hl5 b7.out
  have N7 := ln_up N5 b7.out
  have Fp7 := LnF.up Fp b7.out
  clear bz C5 C6 C5d C6d hl5 hx5 HB5 N5 k5 Fp
  have hnpb : np ≤ 1000 := by have h := congrArg List.length hqp.out; rw [lnR_len, hnp.out] at h; have := hLlen.out; omega
  have hnqb : nq ≤ 1000 := by have h := congrArg List.length hqq.out; rw [lnR_len, hnq.out] at h; have := hLlen.out; omega
  have hr4 : Hid (readL (lnR q4) ki = (bb, LL, hb)) := hid (by rw [hq4.out]; exact hr.out)
  have hqpq : Hid (lnR qp = lnR qq) := hid (hqp.out.trans hqq.out.symm)
  have hfl : Hid (∀ k, (flatL (lnR (rs.take k))).length ≤ 140737488351232) := hid (flat_each (by decide) rs rfl hmin.out htr.out)
  have hfl4 : Hid (∀ k, (flatL (lnR (q4.take k))).length ≤ 140737488351232) := hid (flat_each (by decide) q4 hq4.out hmin.out htr.out)
  obtain ⟨fl, hflq⟩ : ∃ fl, Hid (flatL (lnR rs) = fl) := ⟨_, hid rfl⟩
  have hflq4 : Hid (flatL (lnR q4) = fl) := hid (by rw [hq4.out]; exact hflq.out)
  have hfll : Hid (fl.length ≤ 140737488351232) := hid (by rw [← hflq.out]; exact flat_le (by decide) _ hmin.out htr.out)
  go_wp2_with (first
    | (go_at_call 13
       (with_reducible refine (read_f u7 A4 n c4 q4 ki N7 hn4 hn1000 ht4 hr4).mono ?_)
       rintro e u8 ⟨Ab, nb, cb, Ar, nr, cr, qr, rfl, hnb, Sb8, Nb8, hqr, hnr, Fr8, k8⟩
       have K8 : Hid (Below u4.heap.size u4 u8) := bel_t K7 k8.out
       have hl8 := ln_up hl7 k8.out
       have N8 := ln_up N7 k8.out
       have Fp8 := LnF.up Fp7 k8.out
       have Lq8 := ln_up Lq7 k8.out
       have hqr : Hid (lnR qr = LL) := hqr
       have hnb : Hid (bb.length = nb) := hnb
       have Sb8 : Hid (SlB u8 u8.heap.size Ab cb bb) := Sb8
       have Nb8 : Hid (NewB u8 u7.heap.size Ab bb) := Nb8
       clear k8 hl7 N7 Fp7 Lq7)
    | (go_at_call 12
       (first
         | ((with_reducible refine (ref_any u8 A n c rs hl8 hn.out hn1000).mono ?_)
            rintro e u9 ⟨A9, c9, rfl, O9, k9⟩
            have K9 : Hid (Below u4.heap.size u4 u9) := bel_t K8 k9.out
            have L9 := from_ln hl8 hn O9 k9
            have hl9 := ln_up hl8 k9.out
            have N9 := ln_up N8 k9.out
            have Fp9 := LnF.up Fp8 k9.out
            have Lq9 := ln_up Lq8 k9.out
            have Sb9 := slb_up Sb8 k9.out
            have Nb9 := hid (Nb8.out.up k9.out)
            have Fr9 := LnF.up Fr8 k9.out
            clear k9 O9 hl8 N8 Fp8 Lq8 Sb8 Nb8 Fr8)))
    | (go_at_call 14
       (with_reducible refine (readr_f u9 A9 n c9 rs ki L9 hn hn1000 ht hr).mono ?_)
       rintro e u10 ⟨Ac, nc, cc, Al, nl, cl, ql, rfl, hnc, Sc10, hql, hnl, Ll10, k10⟩
       have K10 : Hid (Below u4.heap.size u4 u10) := bel_t K9 k10.out
       have hl10 := ln_up hl9 k10.out
       have N10 := ln_up N9 k10.out
       have Fp10 := LnF.up Fp9 k10.out
       have Lq10 := ln_up Lq9 k10.out
       have Sb10 := slb_up Sb9 k10.out
       have Nb10 := hid (Nb9.out.up k10.out)
       have Fr10 := LnF.up Fr9 k10.out
       have hql : Hid (lnR ql = LL) := hql
       have hnc : Hid (bb.length = nc) := hnc
       have Sc10 : Hid (SlB u10 u10.heap.size Ac cc bb) := Sc10
       clear k10 hl9 N9 Fp9 Lq9 Sb9 Nb9 Fr9 L9))
  obtain rfl : nb = nc := hnb.out.symm.trans hnc.out
  have hnrb : nr ≤ 1000 := by have h := congrArg List.length hqr.out; rw [lnR_len, hnr.out] at h; have := hLLlen.out; omega
  have hqrl : Hid (lnR qr = lnR ql) := hid (hqr.out.trans hql.out.symm)
  have Fp10l := LnF.ln_ Fp10
  have Fr10l := LnF.ln_ Fr10
  have hbmax : nb ≤ maxLen := by have := hnb.out; have := hbbl.out; unfold maxLen; omega
  go_wp2_with (first
    | (go_at_call 16
       (first
         | ((with_reducible refine (from_grow u10 _ (Below.refl _ _) Ap np cp qp Fp10l hnp hnpb).mono ?_)
            rintro e u11 ⟨A11, c11, rfl, L11, b11, d11⟩)
         | ((with_reducible refine (from_grow u10 u13 b13 Ar nr cr qr Fr10l hnr hnrb).mono ?_)
            rintro e u14 ⟨A14, c14, rfl, L14, b14, d14⟩)))
    | (go_at_call 15
       (first
         | ((with_reducible refine (same_grow u10 u11 b11 A11 Aq np nq c11 cq qp qq L11 (ln_up Lq10 b11) hqpq hnp hnq).mono ?_)
            rintro e u12 ⟨rfl, b12⟩)
         | ((with_reducible refine (same_grow u10 u14 b14 A14 Al nr nl c14 cl qr ql L14 (ln_up Ll10 b14) hqrl hnr hnl).mono ?_)
            rintro e u15 ⟨rfl, b15⟩)))
    | (go_at_call 17
       (first
         | ((with_reducible refine (bytes_eq u12 Ab Ac cb cc nb bb hnb.out (slb_up Sb10 b12) (slb_up Sc10 b12) hbmax).mono ?_)
            rintro e u13 ⟨rfl, k13⟩
            have b13 := bt b12 k13)
         | ((with_reducible refine (bytes_eq u21 A19 A21 c19 c21 n19 fl h19.out S19 S21 hfmax).mono ?_)
            rintro e u22 ⟨rfl, k22⟩
            have b22 := bt b21 k22)))
    | (go_at_call 18
       (with_reducible refine (used_grow u10 u15 b15 A4 n c4 q4 N10 hn4.out hn1000 ht4 hU4).mono ?_)
       rintro e u16 ⟨rfl, b16⟩)
    | (go_at_call 12
       (first
         | ((with_reducible refine (ref_grow u10 u16 b16 A n c rs (ln_up hl10 b16) hn hn1000).mono ?_)
            rintro e u17 ⟨A17, c17, rfl, L17, b17, d17⟩)
         | ((with_reducible refine (ref_grow u10 u19 b19 A n c rs (ln_up hl10 b19) hn hn1000).mono ?_)
            rintro e u20 ⟨A20, c20, rfl, L20, b20, d20⟩)))
    | (go_at_call 19
       (with_reducible refine (usedr_any u17 A17 n c17 rs L17 hn.out hn1000 ht).mono ?_)
       rw [hU.out]
       rintro e u18 ⟨rfl, k18⟩
       have b18 := bt b17 k18)
    | (go_at_call 20
       (with_reducible refine (flatp_any u18 A4 n c4 q4 (ln_up N10 b18) hn4.out hn1000 hfl4).mono ?_)
       rw [hflq4.out]
       rintro e u19 ⟨A19, n19, c19, rfl, h19, O19, k19⟩
       have b19 := bt b18 k19
       have S19 := slb_own h19 O19
       have hfmax : n19 ≤ maxLen := by have := h19.out; have := hfll.out; unfold maxLen; omega)
    | (go_at_call 21
       (with_reducible refine (flatr_any u20 A20 n c20 rs L20 hn.out hn1000 hfl).mono ?_)
       rw [hflq.out]
       rintro e u21 ⟨A21, n21, c21, rfl, h21, O21, k21⟩
       obtain rfl : n19 = n21 := h19.out.symm.trans h21.out
       have b21 := bt b20 k21
       have S21 := slb_own h21 O21
       have S19 := slb_up (slb_up S19 d20) k21.out))
  have B22 : Hid (Below u4.heap.size u4 u22) := bel_t K10 b22
  have Fp22 := LnF.up Fp10 b22
  have Fr22 := LnF.up (LnF.mono Fr10 K7.out.size) b22
  have Nb22 := hid ((Nb10.out.mono K7.out.size).up b22)
  have Sb22 := slb_up Sb10 b22
  have HBA : Hid (BA u22 u4.heap.size qp qr Ab nb) := hid ⟨each_byt Fp22, each_byt Fr22, byt_of Nb22.out Sb22.out hnb.out⟩
  obtain ⟨M, hM⟩ : ∃ M, u4.heap.size = M := ⟨_, rfl⟩
  have hM' := hid hM
  rw [hM] at B22 Fp22 Fr22 HBA hg4
  obtain ⟨wz, rfl⟩ : ∃ wz, wz = u22 := ⟨_, rfl⟩
  obtain ⟨wm, rfl⟩ : ∃ wm, wm = u4 := ⟨_, rfl⟩
  clear hM Fp10 Fr10 Nb10 Sb10 Nb22 Sb22 K10 K7 b22 Fp10l Fr10l hl10 N10 Lq10 Ll10 Sc10 S21 S19 O21 O19
  go_loopw [115] (fun i wr => ∃ j : Nat, j ≤ 2 ∧ i = .int .i64 j ∧ Hid (Kept M [5] wz wr) ∧ Hid (BA wr M qp qr Ab nb)) (fun i _ => 2 - (intOf i).toNat)
  case atStart => exact ⟨0, Nat.zero_le _, rfl, hid (Kept.refl _ _ _), HBA⟩
  case round =>
    obtain ⟨j, hj, rfl, HK, HA⟩ := hrel
    by_cases hlt : j < 2
    · obtain ⟨As, ns, cs, qs, hidx, Fs, hns, hnsb, hsub⟩ := two_rows (Ab := Ab) (nb := nb) Fp22 Fr22 hnp hnr hnpb hnrb j hlt
      obtain ⟨w1, hw1⟩ : ∃ z, z = wr := ⟨_, rfl⟩
      rw [← hw1] at HK HA ⊢
      clear hw1
      go_wp2
      go_loopw [120] (fun i wr => ∃ k : Nat, k ≤ ns ∧ i = .int .i64 k ∧ Hid (Kept M [5] wz wr) ∧ Hid (BA wr M qp qr Ab nb)) (fun i _ => ns - (intOf i).toNat)
      case atStart => exact ⟨0, Nat.zero_le _, rfl, HK, HA⟩
      case round =>
        obtain ⟨k, hk, rfl, HK2, HA2⟩ := hrel
        by_cases hltk : k < ns
        · obtain ⟨bq, oq, r, rfl, hrm, e0, e1⟩ := row_at Fs hns.out hltk HK2
          obtain ⟨w2, hw2⟩ : ∃ z, z = wr := ⟨_, rfl⟩
          rw [← hw2] at HK2 HA2 e0 e1 ⊢
          clear hw2
          obtain ⟨rA, rc, rb, re⟩ := r
          have hrm := hid hrm
          dsimp only at e0 e1
          obtain ⟨m, hm⟩ : ∃ m, rb.length = m := ⟨_, rfl⟩
          have hmb : Hid (m ≤ maxLen) := hid (by
            have := Fs.out.ln.text _ hrm.out
            rw [← hm]
            exact Nat.le_trans this.1 this.2.1)
          have hmm : Hid (rb.length = m) := hid hm
          rw [hm] at e0
          clear hm
          have G2 : Hid (Box (w2.alloc (.cells #[.slice rA m rc, .bool re] 30)) w2.heap.size 30 #[.slice rA m rc, .bool re]) := hid (box_nw rfl)
          have HK3 : Hid (Kept M [5] wz (w2.alloc (.cells #[.slice rA m rc, .bool re] 30))) := hid (HK2.out.alloc _)
          have HA3 : Hid (BA (w2.alloc (.cells #[.slice rA m rc, .bool re] 30)) M qp qr Ab nb) := hid (HA2.out.up ((Below.refl _ w2).alloc (Nat.le_refl _) _))
          go_wp2
          generalize World.alloc w2 _ = w3 at G2 HK3 HA3 ⊢
          obtain ⟨g2, hg2⟩ : ∃ g2, w2.heap.size = g2 := ⟨_, rfl⟩
          rw [hg2] at G2 ⊢
          clear hg2
          go_loopw [127] (fun i wr => ∃ l : Nat, l ≤ m ∧ i = .int .i64 l ∧ Hid (Kept M [5] wz wr) ∧ Hid (BA wr M qp qr Ab nb) ∧ Hid (Box wr g2 30 #[.slice rA m rc, .bool re])) (fun i _ => m - (intOf i).toNat)
          case atStart => exact ⟨0, Nat.zero_le _, rfl, HK3, HA3, G2⟩
          case round =>
            obtain ⟨l, hl0, rfl, HK4, HA4, G4⟩ := hrel
            by_cases hltl : l < m
            · have hby := hsub.out wr HA4.out _ hrm.out
              rw [show (Rc.mk rA rc rb re).A = rA from rfl, show (Rc.mk rA rc rb re).bs.length = m from hmm.out] at hby
              obtain ⟨gb, ob, csb, v, rfl, hgM, hbx, hsz, cv, fv⟩ := byt_at hby hltl
              obtain ⟨v', hv'⟩ := u8_up v
              have c20 : wr.cell? ⟨g2, 0, none⟩ = some (.slice (some ⟨gb, ob, none⟩) m rc) := by simpa using G4.out.cell 0
              have c20d : wr.drew.cell? ⟨g2, 0, none⟩ = some (.slice (some ⟨gb, ob, none⟩) m rc) := c20
              have cvd : wr.drew.cell? ⟨gb, ob + l, none⟩ = some (.int .u8 (v.toNat : Int)) := cv
              have fvd : wr.drew.frozen? ⟨gb, ob + l, none⟩ = false := fv
              have HK5 := kept_sb (i := ob + l) HK4 hbx hgM (.int .u8 (v'.toNat : Int))
              have HA5 := hid (HA4.out.store hbx hsz v')
              have G5 := HK5.out
              have hne : g2 ≠ gb := box_ne G4.out hbx (by decide)
              have G5 : Hid (Box (wr.setCell ⟨gb, ob + l, none⟩ (.int .u8 (v'.toNat : Int))) g2 30 #[.slice (some ⟨gb, ob, none⟩) m rc, .bool re]) := hid (G4.out.same (heap_setCell_other wr ⟨gb, ob + l, none⟩ g2 _ hne))
              clear hbx hsz hby
              have hl63 : (l : Int) < (m : Int) := by omega
              have hw1 : IntKind.i64.wrap ((l : Int) + 1) = (l : Int) + 1 := by
                have := hmb.out
                unfold maxLen at this
                rw [IntKind.wrap_i64]
                omega
              go_wp2
              go_region
              all_goals
                go_wp2
                go_roundw
                case rel => exact ⟨l + 1, by omega, by go_num, hid HK5.out.drew, hid HA5.out.drew, G5⟩
                case measure => simp [intOf] <;> omega
            · go_wp2
              go_roundw
              case rel => exact ⟨k + 1, by omega, by go_num, HK4, HA4⟩
              case measure => simp [intOf] <;> omega
        · go_wp2
          go_roundw
          case rel => exact ⟨j + 1, by omega, by go_num, HK2, HA2⟩
          case measure => simp [intOf] <;> omega
    · go_wp2
      go_loopw [145] (fun i wr => ∃ l : Nat, l ≤ nb ∧ i = .int .i64 l ∧ Hid (Kept M [5] wz wr) ∧ Hid (BA wr M qp qr Ab nb)) (fun i _ => nb - (intOf i).toNat)
      case atStart => exact ⟨0, Nat.zero_le _, rfl, HK, HA⟩
      case round =>
        obtain ⟨l, hl0, rfl, HK4, HA4⟩ := hrel
        by_cases hltl : l < nb
        · obtain ⟨gb, ob, csb, v, rfl, hgM, hbx, hsz, cv, fv⟩ := byt_at HA4.out.b hltl
          obtain ⟨v', hv'⟩ := u8_up v
          have HK5 := kept_sb (i := ob + l) HK4 hbx hgM (.int .u8 (v'.toNat : Int))
          have HA5 := hid (HA4.out.store hbx hsz v')
          clear hbx hsz
          have hl63 : (l : Int) < (nb : Int) := by omega
          have hw1 : IntKind.i64.wrap ((l : Int) + 1) = (l : Int) + 1 := by
            have := hbmax
            unfold maxLen at this
            rw [IntKind.wrap_i64]
            omega
          go_wp2
          go_roundw
          case rel => exact ⟨l + 1, by omega, by go_num, HK5, HA5⟩
          case measure => simp [intOf] <;> omega
        · have BZ : Below wm.heap.size wm wr := by
            rw [hM'.out]
            exact B22.out.trans (HK4.out.below (by rw [← hM'.out]; exact B22.out.size))
          have hlz := ln_up hl4 BZ
          have Nz := ln_up N4 BZ
          have S4z := slb_up S4 BZ
          have hxz := slb_up hx4 BZ
          have G4z := hid (box_below G4.out BZ)
          have HBz := hid (box_below HB4.out BZ)
          have KZ := bel_t K4 BZ
          obtain ⟨wy, hwy⟩ : ∃ z, z = wr := ⟨_, rfl⟩
          rw [← hwy] at hlz Nz S4z hxz G4z HBz KZ ⊢
          clear hwy HK4 HA4 HK HA
          have hxmax : xb.length ≤ maxLen := by unfold maxLen; omega
          go_wp2_with (first
            | (go_at_call 16
               (with_reducible refine (from_grow wy _ (Below.refl _ _) A4 n c4 q4 Nz hn4 hn1000).mono ?_)
               rintro e y1 ⟨A1, c1, rfl, L1, b1, d1⟩)
            | (go_at_call 12
               (with_reducible refine (ref_grow wy y1 b1 A n c rs (ln_up hlz b1) hn hn1000).mono ?_)
               rintro e y2 ⟨A2', c2', rfl, L2, b2, d2⟩
               have L1 := ln_up L1 d2)
            | (go_at_call 15
               (with_reducible refine (same_grow wy y2 b2 A1 A2' n n c1 c2' q4 rs L1 L2 hq4 hn4 hn).mono ?_)
               rintro e y3 ⟨rfl, b3⟩
               have G4y := box_below G4z.out b3
               have HBy := box_below HBz.out b3
               have D0y : y3.cell? ⟨g1, 0, none⟩ = some (.slice Ay xb.length cy) := by simpa using G4y.cell 0
               have E0y : y3.cell? ⟨g, 0, none⟩ = some (.slice xA xb.length xc) := by simpa using HBy.cell 0)
            | (go_at_call 17
               (with_reducible refine (bytes_eq y3 Ay xA cy xc xb.length xb rfl (slb_up S4z b3) (slb_up hxz b3) hxmax).mono ?_)
               rintro e y4 ⟨rfl, k4⟩
               have b4' := bt b3 k4))
          go_ret
          exact ⟨rfl, bel_t KZ b4'⟩
end Go.Proofs.Ytjncahcigbdbgab
