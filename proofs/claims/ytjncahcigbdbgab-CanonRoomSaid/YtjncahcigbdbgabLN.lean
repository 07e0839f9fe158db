import Derived.Test.YtjncahcigbdbgabLNA
import Derived.Deep.DeepCutAuto
namespace Go.Proofs.Ytjncahcigbdbgab
open Go.RowKit

/-! Layer 13: CanonRoom, the walk. -/
set_option maxRecDepth 100000 in
set_option maxHeartbeats 4000000 in
theorem room_walk (w : World) (A : Option Addr) (n c : Nat) (rs : List Rc) (xA : Option Addr) (xc : Nat) (xb : List UInt8) (xe : Bool) (hl : Hid (LnV w w.heap.size A c rs)) (hn : Hid (rs.length = n)) (hx : Hid (SlB w w.heap.size xA xc xb)) (hm : n ≤ 4398046510976) (ht : Hid (∀ r ∈ rs, r.bs.length ≤ 140737488351232)) (hxt : Hid (xb.length ≤ 140737488351232)) :
    Calls Try.prog 6 #[.slice A n c, .agg #[.slice xA xb.length xc, .bool xe]] w fun e w' => e = .returned (.bool true) ∧ Hid (Below w.heap.size w w') := by
  have hL : Hid (([(⟨xA, xc, xb, xe⟩ : Rc)] ++ rs).length = 1 + n) := hid (by rw [List.length_append, hn.out]; rfl)
  have hxb : xb.length ≤ 140737488351232 := hxt.out
  go_enter Try.func6, Try.ntmps6
  go_wp2_with (first
    | (refine bx25 (by rfl) _ (by rfl) _ _ (by rfl) ?_
       intro HB
       have K0 : Hid (Below w.heap.size w (w.alloc (.cells #[.slice xA xb.length xc, .bool xe] 25))) := hid ((Below.refl _ w).alloc (Nat.le_refl _) _)
       have hl0 := ln_up hl K0.out
       have hx0 := slb_up hx K0.out)
    | (go_at_call 7
       (with_reducible refine (alive_any _).mono ?_)
       rintro e u1 ⟨rfl, k1⟩
       have K1 := bel_t K0 k1.out
       have hl1 := ln_up hl0 k1.out
       have hx1 := slb_up hx0 k1.out
       have HB1 := hid (box_below HB.out k1.out)
       have O1 : Hid ((u1.alloc (.cells #[.slice xA xb.length xc, .bool xe] 25)).ownsRow u1.heap.size 25 2 (.slice (some ⟨u1.heap.size, 0, none⟩) 1 1) 1 (rcV [(⟨xA, xc, xb, xe⟩ : Rc)])) := hid (own_rec u1 25 ⟨xA, xc, xb, xe⟩ _ _ rfl rfl)
       have b1 : Below u1.heap.size u1 (u1.alloc (.cells #[.slice xA xb.length xc, .bool xe] 25)) := (Below.refl _ u1).alloc (Nat.le_refl _) _
       have hl1a := ln_up hl1 b1
       have L1 : Hid (Lies (u1.alloc (.cells #[.slice xA xb.length xc, .bool xe] 25)) (u1.alloc (.cells #[.slice xA xb.length xc, .bool xe] 25)).heap.size A (rcV rs)) := hid hl1a.out.lies
       clear k1 HB hl0 hx0 hl1a)
    | (refine ld25 (by rfl) _ (by rfl) _ (by rfl) _ _ HB1 ?_)
    | (at_builtin
       (refine app_rec 22 25 Try.underlying22 Try.info25 _ (by rfl) (.tmp 12) (.tmp 13) rfl u1.heap.size 1 n 1 _ [(⟨xA, xc, xb, xe⟩ : Rc)] rs rfl O1 b1.size A c rfl L1 hn.out (by omega) ?_)
       intro A2 c2 u2 O2 k2
       have b2 : Below u1.heap.size u1 u2 := b1.trans (k2.out.below b1.size)
       have K2 := bel_t K1 b2
       have hl2 := ln_up hl1 b2
       have hx2 := slb_up hx1 b2
       have HB2 := hid (box_below HB1.out b2)
       have X2 : Hid (LnV u2 u2.heap.size A2 c2 ([(⟨xA, xc, xb, xe⟩ : Rc)] ++ rs)) := hid (LnO.ln (base := u1.heap.size) (E := 25) ⟨hL.out, O2.out, fun r hr => by
         rcases List.mem_append.1 hr with h | h
         · rw [List.mem_singleton.1 h]; exact hx2.out
         · exact hl2.out.text r h⟩)
       clear b1 L1 O1 HB1 hx1 hl1))
  by_cases hg : greatL (lnR ([(⟨xA, xc, xb, xe⟩ : Rc)] ++ rs)) = true
  · go_wp2_with (first
      | (go_at_call 8
         (with_reducible refine (great_any u2 A2 (1 + n) c2 ([(⟨xA, xc, xb, xe⟩ : Rc)] ++ rs) X2 hL.out (by omega)).mono ?_)
         rw [hg]
         rintro e u3 ⟨rfl, k3⟩
         have K3 := bel_t K2 k3.out))
    go_ret
    exact ⟨rfl, K3⟩
  have hg : greatL (lnR ([(⟨xA, xc, xb, xe⟩ : Rc)] ++ rs)) = false := by simpa using hg
  obtain ⟨hg1, hg2⟩ := great_no hg
  rw [lnR_len, hL.out] at hg1
  have hn1000 : n ≤ 1000 := by omega
  obtain ⟨U, hU⟩ : ∃ U, Hid (usedL (lnR rs) = U) := ⟨_, hid rfl⟩
  have hUb : U ≤ 28147497670246600 := by
    have h := usedL_le (K := 140737488351232) (lnR rs) (fun y hy => by
      obtain ⟨r, hr, rfl⟩ := List.mem_map.1 hy
      exact ht.out r hr)
    rw [hU.out, lnR_len, hn.out] at h
    have h2 : n * (140737488351232 + 1) ≤ 200 * (140737488351232 + 1) := Nat.mul_le_mul_right _ (by omega)
    exact Nat.le_trans h (Nat.le_trans h2 (by decide))
  have htr : Hid (∀ y ∈ lnR rs, y.1.length ≤ 140737488351232) := hid (fun y hy => by
    obtain ⟨r, hr, rfl⟩ := List.mem_map.1 hy
    exact ht.out r hr)
  cases xe
  · have e6 : True := trivial
    go_wp2_with (first
        | (go_at_call 8
           (with_reducible refine (great_any u2 A2 (1 + n) c2 ([(⟨xA, xc, xb, false⟩ : Rc)] ++ rs) X2 hL.out (by omega)).mono ?_)
           rw [hg]
           rintro e u3 ⟨rfl, k3⟩
           have K3 := bel_t K2 k3.out
           have hl3 := ln_up hl2 k3.out
           have hx3 := slb_up hx2 k3.out
           have HB3 := hid (box_below HB2.out k3.out)
           clear k3 X2 hl2 hx2 HB2 b2)
        | (go_at_call 9
           (with_reducible refine (to_any u3 A n c rs hl3 hn.out hn1000 ht).mono ?_)
           rintro e u4 ⟨A4, c4, q4, rfl, hq4, N4, k4⟩
           have K4 := bel_t K3 k4.out
           have hl4 := ln_up hl3 k4.out
           have hx4 := slb_up hx3 k4.out
           have HB4 := hid (box_below HB3.out k4.out)
           have N4l := hid N4.out.ln
           have N4n := hid N4.out.len
           have ht4 : Hid (∀ r ∈ q4, r.bs.length ≤ 140737488351232) := hid (ln_each hq4.out htr.out)
           clear k4 N4 hl3 hx3 HB3)
        | (go_at_call 18
           (with_reducible refine (usedp_any u4 A4 n c4 q4 N4l N4n.out hn1000 ht4).mono ?_)
           rw [hq4.out, hU.out]
           rintro e u5 ⟨rfl, k5⟩
           have K5 := bel_t K4 k5.out
           have hl5 := ln_up hl4 k5.out
           have hx5 := slb_up hx4 k5.out
           have HB5 := hid (box_below HB4.out k5.out)
           have C5 : u5.cell? ⟨w.heap.size, 0, none⟩ = some (.slice xA xb.length xc) := by simpa using HB5.out.cell 0
           have C6 : u5.cell? ⟨w.heap.size, 1, none⟩ = some (.bool false) := by simpa using HB5.out.cell 1
           clear k5 N4l N4n ht4 hq4 hl4 hx4 HB4))
    obtain ⟨g, hg0⟩ : ∃ g, w.heap.size = g := ⟨_, rfl⟩
    rw [hg0] at C5 C6 ⊢
    have hxe : Hid (usedL [(xb, false)] = xb.length) := hid (by simp [usedL])
    obtain ⟨L, b, hp⟩ : ∃ L b, Hid (putL (lnR rs) (xb, false) = (L, b)) := ⟨_, _, hid rfl⟩
    have hone : Hid (∀ r ∈ [(⟨xA, xc, xb, false⟩ : Rc)], r.bs.length ≤ 140737488351232) := hid (fun r hr => by rw [List.mem_singleton.1 hr]; exact hxb)
    have hone2 : Hid (xb.length ≤ 140737488351232) := hid hxb
    have h1000 : 1 ≤ 1000 := by omega
    have hn900 : n ≤ 900 := by omega
    have bz : ∀ W, Below u5.heap.size u5 W → W.cell? ⟨g, 0, none⟩ = some (.slice xA xb.length xc) ∧ W.cell? ⟨g, 1, none⟩ = some (.bool false) := fun W h => ⟨(h.cell (p := ⟨g, 0, none⟩) (World.block_lt_of_cell? _ _ C5)).trans C5, (h.cell (p := ⟨g, 1, none⟩) (World.block_lt_of_cell? _ _ C6)).trans C6⟩
    clear HB5
    have C5d : u5.drew.cell? ⟨g, 0, none⟩ = some (.slice xA xb.length xc) := C5
    have C6d : u5.drew.cell? ⟨g, 1, none⟩ = some (.bool false) := C6
    go_cut [7, 8] (fun p ok wx => ∃ A8 n8 c8 q8, p = .slice A8 n8 c8 ∧ ok = .bool b ∧ Hid (lnR q8 = L) ∧ Hid (q8.length = n8) ∧ Hid (LnV wx wx.heap.size A8 c8 q8) ∧ Hid (Below u5.heap.size u5 wx))
    case first =>
      go_region_law (first
        | (go_simp
           go_at_call 9
           (first
             | ((with_reducible refine (to_grow u5 _ ?c1 _ 1 1 [(⟨xA, xc, xb, false⟩ : Rc)] (hid (ln_lit (E := 25) ?c2 (slb_up hx5 ?c3).out)) rfl h1000 hone).mono ?_)
                case c1 => repeat (first | exact Below.refl _ _ | exact b6 | with_reducible apply bel_dr | with_reducible apply bel_al)
                case c2 => first | exact box_nw rfl | exact box_dr (box_nw rfl) | exact z6 | exact box_dr z6
                case c3 => repeat (first | exact Below.refl _ _ | exact b6 | with_reducible apply bel_dr | with_reducible apply bel_al)
                rintro e u7 ⟨A7, c7, q7, rfl, hq7, N7, b7, d7⟩
                obtain ⟨g7, Ay, cy, rfl, hqy, C70, C71, S7⟩ := one_ln N7 hq7)
             | ((with_reducible refine (to_grow u5 _ ?c4 A n c rs (ln_up hl5 ?c5) hn.out hn1000 ht).mono ?_)
                case c4 => repeat (first | exact Below.refl _ _ | with_reducible apply bel_dr | with_reducible apply bel_al)
                case c5 => repeat (first | exact Below.refl _ _ | with_reducible apply bel_dr | with_reducible apply bel_al)
                rintro e u6 ⟨A6, c6, q6, rfl, hq6, N6, b6, d6⟩
                have C60 := (bz u6 b6).1
                have C61 := (bz u6 b6).2
                first | have z6 := box_below (box_nw (cs := #[.slice xA xb.length xc, .bool false]) (t := 25) rfl) d6 | have z6 := box_below (box_dr (box_nw (cs := #[.slice xA xb.length xc, .bool false]) (t := 25) rfl)) d6 | skip)))
        | (go_simp
           go_at_call 10
           (with_reducible refine (put_grow u5 _ ?p1 A6 n c6 q6 Ay cy xb false (ln_up (u := u6) (hid N6.out.ln) ?p2) S7 N6.out.len hn900 (each_of hq6 htr.out) hone2 (putl_eq hq6 hp)).mono ?_)
           case p1 => exact b7
           case p2 => exact Below.trans (by repeat (first | exact Below.refl _ _ | exact b6 | with_reducible apply bel_dr | with_reducible apply bel_al)) (Below.mono d7 (bsz (by repeat (first | exact Below.refl _ _ | exact b6 | with_reducible apply bel_dr | with_reducible apply bel_al))))
           rintro e u8 ⟨A8, n8, c8, q8, rfl, hq8, hn8, F8, b8⟩))
      all_goals
        go_wp2_with fail
        go_meet
        exact ⟨A8, n8, c8, q8, rfl, rfl, hq8, hn8, F8, hid b8⟩
    case rest =>
    obtain ⟨A8, n8, c8, q8, rfl, rfl, hq8, hn8, F8, b8⟩ := hcut
    have K8 := bel_t K5 b8.out
    have hl8 := ln_up hl5 b8.out
    have hx8 := slb_up hx5 b8.out
    obtain ⟨C80, C81⟩ := bz wc b8.out
    have bz8 : ∀ W, Below wc.heap.size wc W → W.cell? ⟨g, 0, none⟩ = some (.slice xA xb.length xc) ∧ W.cell? ⟨g, 1, none⟩ = some (.bool false) := fun W h => bz W (b8.out.trans (Below.mono h b8.out.size))
    have w6 : IntKind.i64.wrap ((U : Int) + (xb.length : Int)) = (U : Int) + (xb.length : Int) := by rw [IntKind.wrap_i64]; omega
    have w7 : IntKind.i64.wrap ((n : Int) + 1) = (n : Int) + 1 := by rw [IntKind.wrap_i64]; omega
    clear bz C5 C6 C5d C6d hl5 hx5
    by_cases hfit : U + xb.length ≤ 1024
    · have hput : Hid (L = lnR rs ++ [(xb, false)] ∧ b = true) := hid (by
        have := hp.out
        unfold putL at this
        rw [hU.out, hxe.out, if_pos hfit] at this
        injection this with h1 h2
        exact ⟨h1.symm, h2.symm⟩)
      obtain ⟨hLL, hbt⟩ := hput.out
      have hLL := hid hLL
      subst hbt
      have hf6 : (U : Int) + (xb.length : Int) ≤ 1024 := by omega
      have hn8n : n8 = n + 1 := by
        have h := congrArg List.length (hq8.out.trans hLL.out)
        rw [lnR_len, hn8.out, List.length_append, lnR_len, hn.out] at h
        exact h
      have hn8i : (n : Int) + 1 = (n8 : Int) := by omega
      obtain ⟨V, hV⟩ : ∃ V, V = U + xb.length := ⟨_, rfl⟩
      have hU8 : Hid (usedL (lnR q8) = V) := hid (by rw [hq8.out, hLL.out, usedL_append, hU.out, hxe.out, hV])
      have hVi : (U : Int) + (xb.length : Int) = (V : Int) := by omega
      have hV2 : ((V : Nat) : Int) ≤ 1024 := by omega
      have w8 : IntKind.i64.wrap (V : Int) = (V : Int) := by rw [← hVi]; exact w6
      have w9 : IntKind.i64.wrap (n8 : Int) = (n8 : Int) := by rw [← hn8i]; exact w7
      have hm8 : n8 ≤ 1000 := by omega
      have ht8 : Hid (∀ r ∈ q8, r.bs.length ≤ 140737488351232) := each_of (hid (hq8.out.trans hLL.out)) (fun y hy => by
        rcases List.mem_append.1 hy with h | h
        · exact htr.out y h
        · rw [List.mem_singleton.1 h]; exact hxb)
      obtain ⟨fr, lf⟩ := ln_front F8 hn8.out (show n ≤ n8 by omega)
      obtain ⟨A10, c10, bk, lb⟩ := ln_back F8 hn8.out (show n ≤ n8 by omega)
      have e1 : n8 - n = 1 := by omega
      rw [e1] at bk
      have hnf : Hid ((q8.take n).length = n) := hid (by rw [List.length_take, hn8.out]; omega)
      have hnb : Hid ((q8.drop n).length = 1) := hid (by rw [List.length_drop, hn8.out]; omega)
      have hlf : Hid (lnR (q8.take n) = lnR rs) := hid (by
        have h := congrArg (List.take n) (hq8.out.trans hLL.out)
        rw [List.take_left' (by rw [lnR_len, hn.out])] at h
        rw [← h]; simp [lnR])
      have hlb : Hid (lnR (q8.drop n) = lnR [(⟨xA, xc, xb, false⟩ : Rc)]) := hid (by
        have h := congrArg (List.drop n) (hq8.out.trans hLL.out)
        rw [List.drop_left' (by rw [lnR_len, hn.out])] at h
        show _ = [(xb, false)]
        rw [← h]; simp [lnR])
      have hn1 : Hid (([(⟨xA, xc, xb, false⟩ : Rc)] : List Rc).length = 1) := hid rfl
      clear e1 hn8n hV hfit hput hLL w6 w7 hf6
      go_wp2
      have C80d : wc.drew.cell? ⟨g, 0, none⟩ = some (.slice xA xb.length xc) := C80
      have C81d : wc.drew.cell? ⟨g, 1, none⟩ = some (.bool false) := C81
      have hncb : (n : Int) ≤ (n8 : Int) := by omega
      go_region_held3 (fun u => u.cell? ⟨g, 0, none⟩ = some (.slice xA xb.length xc) ∧ u.cell? ⟨g, 1, none⟩ = some (.bool false)) (exact bz8 _ (by repeat (first | exact Below.refl _ _ | exact b15 | exact b14 | exact b13 | exact b12 | exact b11 | exact b10 | exact b9 | with_reducible apply bel_dr | with_reducible apply bel_al))) ((first
        | (go_at_call 18
           (with_reducible refine (used_grow wc _ ?c1 A8 n8 c8 q8 F8 hn8.out hm8 ht8 hU8).mono ?_)
           case c1 => repeat (first | exact Below.refl _ _ | with_reducible apply bel_dr | with_reducible apply bel_al)
           rintro e u9 ⟨rfl, b9⟩)
        | (go_at_call 16
           (first
             | ((with_reducible refine (from_grow wc _ ?c2 A8 n c8 (q8.take n) lf hnf hn1000).mono ?_)
                case c2 => exact b9
                rintro e u10 ⟨A11, c11, rfl, L10, b10, d10⟩)
             | ((with_reducible refine (from_grow wc _ ?c2 A10 1 c10 (q8.drop n) lb hnb h1000).mono ?_)
                case c2 => repeat (first | exact Below.refl _ _ | exact b12 | with_reducible apply bel_dr | with_reducible apply bel_al)
                rintro e u13 ⟨A13, c13, rfl, L13, b13, d13⟩
                have C130 := (bz8 u13 b13).1
                have C131 := (bz8 u13 b13).2
                first | have z13 := box_below (box_nw (cs := #[.slice xA xb.length xc, .bool false]) (t := 25) rfl) d13 | skip)))
        | (go_at_call 12
           (first
             | ((with_reducible refine (ref_grow wc _ ?c2 A n c rs (ln_up hl8 ?c3) hn hn1000).mono ?_)
                case c2 => exact b10
                case c3 => exact b10
                rintro e u11 ⟨A12, c12, rfl, L11, b11, d11⟩
                have L10 := ln_up L10 d11)
             | ((with_reducible refine (ref_grow wc _ ?c2 _ 1 1 [(⟨xA, xc, xb, false⟩ : Rc)] (hid (ln_lit (E := 25) ?c3 (slb_up hx8 ?c4).out)) hn1 h1000).mono ?_)
                case c2 => repeat (first | exact Below.refl _ _ | exact b13 | with_reducible apply bel_dr | with_reducible apply bel_al)
                case c3 => first | exact box_nw rfl | exact z13
                case c4 => repeat (first | exact Below.refl _ _ | exact b13 | with_reducible apply bel_dr | with_reducible apply bel_al)
                rintro e u14 ⟨A14, c14, rfl, L14, b14, d14⟩
                have L134 := ln_up L13 (Below.trans (show Below u13.heap.size u13 _ by repeat (first | exact Below.refl _ _ | with_reducible apply bel_dr | with_reducible apply bel_al)) (Below.mono d14 (bsz (by repeat (first | exact Below.refl _ _ | with_reducible apply bel_dr | with_reducible apply bel_al))))))))
        | (go_at_call 15
           (first
             | ((with_reducible refine (same_grow wc _ ?c2 A11 A12 n n c11 c12 (q8.take n) rs L10 L11 hlf hnf hn).mono ?_)
                case c2 => exact b11
                rintro e u12 ⟨rfl, b12⟩
                have C120 := (bz8 u12 b12).1
                have C121 := (bz8 u12 b12).2)
             | ((with_reducible refine (same_grow wc _ ?c2 A13 A14 1 1 c13 c14 (q8.drop n) [(⟨xA, xc, xb, false⟩ : Rc)] L134 L14 hlb hnb hn1).mono ?_)
                case c2 => exact b14
                rintro e u15 ⟨rfl, b15⟩)))))
      all_goals
        go_wp2
        go_ret
        exact ⟨rfl, bel_t K8 b15⟩
    · have hput : Hid (L = lnR rs ∧ b = false) := hid (by
        have := hp.out
        unfold putL at this
        rw [hU.out, hxe.out, if_neg hfit] at this
        injection this with h1 h2
        exact ⟨h1.symm, h2.symm⟩)
      obtain ⟨hLL, hbt⟩ := hput.out
      have hLL := hid hLL
      subst hbt
      have hf6 : ¬ (U : Int) + (xb.length : Int) ≤ 1024 := by omega
      have hn8n : n8 = n := by
        have h := congrArg List.length (hq8.out.trans hLL.out)
        rw [lnR_len, hn8.out, lnR_len, hn.out] at h
        exact h
      have hls : Hid (lnR q8 = lnR rs) := hid (hq8.out.trans hLL.out)
      have hm8 : n8 ≤ 1000 := by omega
      clear hn8n hput hLL
      go_wp2_with (first
        | (go_at_call 16
           (with_reducible refine (from_grow wc _ (Below.refl _ _) A8 n8 c8 q8 F8 hn8 hm8).mono ?_)
           rintro e u10 ⟨A11, c11, rfl, L10, b10, d10⟩)
        | (go_at_call 12
           (with_reducible refine (ref_grow wc _ b10 A n c rs (ln_up hl8 b10) hn hn1000).mono ?_)
           rintro e u11 ⟨A12, c12, rfl, L11, b11, d11⟩
           have L10 := ln_up L10 d11)
        | (go_at_call 15
           (with_reducible refine (same_grow wc _ b11 A11 A12 n8 n c11 c12 q8 rs L10 L11 hls hn8 hn).mono ?_)
           rintro e u12 ⟨rfl, b12⟩))
      go_ret
      exact ⟨rfl, bel_t K8 b12⟩
  · have e6 : True := trivial
    go_wp2_with (first
        | (go_at_call 8
           (with_reducible refine (great_any u2 A2 (1 + n) c2 ([(⟨xA, xc, xb, true⟩ : Rc)] ++ rs) X2 hL.out (by omega)).mono ?_)
           rw [hg]
           rintro e u3 ⟨rfl, k3⟩
           have K3 := bel_t K2 k3.out
           have hl3 := ln_up hl2 k3.out
           have hx3 := slb_up hx2 k3.out
           have HB3 := hid (box_below HB2.out k3.out)
           clear k3 X2 hl2 hx2 HB2 b2)
        | (go_at_call 9
           (with_reducible refine (to_any u3 A n c rs hl3 hn.out hn1000 ht).mono ?_)
           rintro e u4 ⟨A4, c4, q4, rfl, hq4, N4, k4⟩
           have K4 := bel_t K3 k4.out
           have hl4 := ln_up hl3 k4.out
           have hx4 := slb_up hx3 k4.out
           have HB4 := hid (box_below HB3.out k4.out)
           have N4l := hid N4.out.ln
           have N4n := hid N4.out.len
           have ht4 : Hid (∀ r ∈ q4, r.bs.length ≤ 140737488351232) := hid (ln_each hq4.out htr.out)
           clear k4 N4 hl3 hx3 HB3)
        | (go_at_call 18
           (with_reducible refine (usedp_any u4 A4 n c4 q4 N4l N4n.out hn1000 ht4).mono ?_)
           rw [hq4.out, hU.out]
           rintro e u5 ⟨rfl, k5⟩
           have K5 := bel_t K4 k5.out
           have hl5 := ln_up hl4 k5.out
           have hx5 := slb_up hx4 k5.out
           have HB5 := hid (box_below HB4.out k5.out)
           have C5 : u5.cell? ⟨w.heap.size, 0, none⟩ = some (.slice xA xb.length xc) := by simpa using HB5.out.cell 0
           have C6 : u5.cell? ⟨w.heap.size, 1, none⟩ = some (.bool true) := by simpa using HB5.out.cell 1
           clear k5 N4l N4n ht4 hq4 hl4 hx4 HB4))
    obtain ⟨g, hg0⟩ : ∃ g, w.heap.size = g := ⟨_, rfl⟩
    rw [hg0] at C5 C6 ⊢
    have hxe : Hid (usedL [(xb, true)] = (xb.length + 1)) := hid (by simp [usedL])
    obtain ⟨L, b, hp⟩ : ∃ L b, Hid (putL (lnR rs) (xb, true) = (L, b)) := ⟨_, _, hid rfl⟩
    have hone : Hid (∀ r ∈ [(⟨xA, xc, xb, true⟩ : Rc)], r.bs.length ≤ 140737488351232) := hid (fun r hr => by rw [List.mem_singleton.1 hr]; exact hxb)
    have hone2 : Hid (xb.length ≤ 140737488351232) := hid hxb
    have h1000 : 1 ≤ 1000 := by omega
    have hn900 : n ≤ 900 := by omega
    have bz : ∀ W, Below u5.heap.size u5 W → W.cell? ⟨g, 0, none⟩ = some (.slice xA xb.length xc) ∧ W.cell? ⟨g, 1, none⟩ = some (.bool true) := fun W h => ⟨(h.cell (p := ⟨g, 0, none⟩) (World.block_lt_of_cell? _ _ C5)).trans C5, (h.cell (p := ⟨g, 1, none⟩) (World.block_lt_of_cell? _ _ C6)).trans C6⟩
    clear HB5
    have C5d : u5.drew.cell? ⟨g, 0, none⟩ = some (.slice xA xb.length xc) := C5
    have C6d : u5.drew.cell? ⟨g, 1, none⟩ = some (.bool true) := C6
    go_cut [7, 8] (fun p ok wx => ∃ A8 n8 c8 q8, p = .slice A8 n8 c8 ∧ ok = .bool b ∧ Hid (lnR q8 = L) ∧ Hid (q8.length = n8) ∧ Hid (LnV wx wx.heap.size A8 c8 q8) ∧ Hid (Below u5.heap.size u5 wx))
    case first =>
      go_region_law (first
        | (go_simp
           go_at_call 9
           (first
             | ((with_reducible refine (to_grow u5 _ ?c1 _ 1 1 [(⟨xA, xc, xb, true⟩ : Rc)] (hid (ln_lit (E := 25) ?c2 (slb_up hx5 ?c3).out)) rfl h1000 hone).mono ?_)
                case c1 => repeat (first | exact Below.refl _ _ | exact b6 | with_reducible apply bel_dr | with_reducible apply bel_al)
                case c2 => first | exact box_nw rfl | exact box_dr (box_nw rfl) | exact z6 | exact box_dr z6
                case c3 => repeat (first | exact Below.refl _ _ | exact b6 | with_reducible apply bel_dr | with_reducible apply bel_al)
                rintro e u7 ⟨A7, c7, q7, rfl, hq7, N7, b7, d7⟩
                obtain ⟨g7, Ay, cy, rfl, hqy, C70, C71, S7⟩ := one_ln N7 hq7)
             | ((with_reducible refine (to_grow u5 _ ?c4 A n c rs (ln_up hl5 ?c5) hn.out hn1000 ht).mono ?_)
                case c4 => repeat (first | exact Below.refl _ _ | with_reducible apply bel_dr | with_reducible apply bel_al)
                case c5 => repeat (first | exact Below.refl _ _ | with_reducible apply bel_dr | with_reducible apply bel_al)
                rintro e u6 ⟨A6, c6, q6, rfl, hq6, N6, b6, d6⟩
                have C60 := (bz u6 b6).1
                have C61 := (bz u6 b6).2
                first | have z6 := box_below (box_nw (cs := #[.slice xA xb.length xc, .bool true]) (t := 25) rfl) d6 | have z6 := box_below (box_dr (box_nw (cs := #[.slice xA xb.length xc, .bool true]) (t := 25) rfl)) d6 | skip)))
        | (go_simp
           go_at_call 10
           (with_reducible refine (put_grow u5 _ ?p1 A6 n c6 q6 Ay cy xb true (ln_up (u := u6) (hid N6.out.ln) ?p2) S7 N6.out.len hn900 (each_of hq6 htr.out) hone2 (putl_eq hq6 hp)).mono ?_)
           case p1 => exact b7
           case p2 => exact Below.trans (by repeat (first | exact Below.refl _ _ | exact b6 | with_reducible apply bel_dr | with_reducible apply bel_al)) (Below.mono d7 (bsz (by repeat (first | exact Below.refl _ _ | exact b6 | with_reducible apply bel_dr | with_reducible apply bel_al))))
           rintro e u8 ⟨A8, n8, c8, q8, rfl, hq8, hn8, F8, b8⟩))
      all_goals
        go_wp2_with fail
        go_meet
        exact ⟨A8, n8, c8, q8, rfl, rfl, hq8, hn8, F8, hid b8⟩
    case rest =>
    obtain ⟨A8, n8, c8, q8, rfl, rfl, hq8, hn8, F8, b8⟩ := hcut
    have K8 := bel_t K5 b8.out
    have hl8 := ln_up hl5 b8.out
    have hx8 := slb_up hx5 b8.out
    obtain ⟨C80, C81⟩ := bz wc b8.out
    have bz8 : ∀ W, Below wc.heap.size wc W → W.cell? ⟨g, 0, none⟩ = some (.slice xA xb.length xc) ∧ W.cell? ⟨g, 1, none⟩ = some (.bool true) := fun W h => bz W (b8.out.trans (Below.mono h b8.out.size))
    have w6 : IntKind.i64.wrap ((U : Int) + ((xb.length : Int) + 1)) = (U : Int) + ((xb.length : Int) + 1) := by rw [IntKind.wrap_i64]; omega
    have w7 : IntKind.i64.wrap ((n : Int) + 1) = (n : Int) + 1 := by rw [IntKind.wrap_i64]; omega
    clear bz C5 C6 C5d C6d hl5 hx5
    by_cases hfit : U + (xb.length + 1) ≤ 1024
    · have hput : Hid (L = lnR rs ++ [(xb, true)] ∧ b = true) := hid (by
        have := hp.out
        unfold putL at this
        rw [hU.out, hxe.out, if_pos hfit] at this
        injection this with h1 h2
        exact ⟨h1.symm, h2.symm⟩)
      obtain ⟨hLL, hbt⟩ := hput.out
      have hLL := hid hLL
      subst hbt
      have hf6 : (U : Int) + ((xb.length : Int) + 1) ≤ 1024 := by omega
      have hn8n : n8 = n + 1 := by
        have h := congrArg List.length (hq8.out.trans hLL.out)
        rw [lnR_len, hn8.out, List.length_append, lnR_len, hn.out] at h
        exact h
      have hn8i : (n : Int) + 1 = (n8 : Int) := by omega
      obtain ⟨V, hV⟩ : ∃ V, V = U + (xb.length + 1) := ⟨_, rfl⟩
      have hU8 : Hid (usedL (lnR q8) = V) := hid (by rw [hq8.out, hLL.out, usedL_append, hU.out, hxe.out, hV])
      have hVi : (U : Int) + ((xb.length : Int) + 1) = (V : Int) := by omega
      have hV2 : ((V : Nat) : Int) ≤ 1024 := by omega
      have w8 : IntKind.i64.wrap (V : Int) = (V : Int) := by rw [← hVi]; exact w6
      have w9 : IntKind.i64.wrap (n8 : Int) = (n8 : Int) := by rw [← hn8i]; exact w7
      have hm8 : n8 ≤ 1000 := by omega
      have ht8 : Hid (∀ r ∈ q8, r.bs.length ≤ 140737488351232) := each_of (hid (hq8.out.trans hLL.out)) (fun y hy => by
        rcases List.mem_append.1 hy with h | h
        · exact htr.out y h
        · rw [List.mem_singleton.1 h]; exact hxb)
      obtain ⟨fr, lf⟩ := ln_front F8 hn8.out (show n ≤ n8 by omega)
      obtain ⟨A10, c10, bk, lb⟩ := ln_back F8 hn8.out (show n ≤ n8 by omega)
      have e1 : n8 - n = 1 := by omega
      rw [e1] at bk
      have hnf : Hid ((q8.take n).length = n) := hid (by rw [List.length_take, hn8.out]; omega)
      have hnb : Hid ((q8.drop n).length = 1) := hid (by rw [List.length_drop, hn8.out]; omega)
      have hlf : Hid (lnR (q8.take n) = lnR rs) := hid (by
        have h := congrArg (List.take n) (hq8.out.trans hLL.out)
        rw [List.take_left' (by rw [lnR_len, hn.out])] at h
        rw [← h]; simp [lnR])
      have hlb : Hid (lnR (q8.drop n) = lnR [(⟨xA, xc, xb, true⟩ : Rc)]) := hid (by
        have h := congrArg (List.drop n) (hq8.out.trans hLL.out)
        rw [List.drop_left' (by rw [lnR_len, hn.out])] at h
        show _ = [(xb, true)]
        rw [← h]; simp [lnR])
      have hn1 : Hid (([(⟨xA, xc, xb, true⟩ : Rc)] : List Rc).length = 1) := hid rfl
      clear e1 hn8n hV hfit hput hLL w6 w7 hf6
      go_wp2
      have C80d : wc.drew.cell? ⟨g, 0, none⟩ = some (.slice xA xb.length xc) := C80
      have C81d : wc.drew.cell? ⟨g, 1, none⟩ = some (.bool true) := C81
      have hncb : (n : Int) ≤ (n8 : Int) := by omega
      go_region_held3 (fun u => u.cell? ⟨g, 0, none⟩ = some (.slice xA xb.length xc) ∧ u.cell? ⟨g, 1, none⟩ = some (.bool true)) (exact bz8 _ (by repeat (first | exact Below.refl _ _ | exact b15 | exact b14 | exact b13 | exact b12 | exact b11 | exact b10 | exact b9 | with_reducible apply bel_dr | with_reducible apply bel_al))) ((first
        | (go_at_call 18
           (with_reducible refine (used_grow wc _ ?c1 A8 n8 c8 q8 F8 hn8.out hm8 ht8 hU8).mono ?_)
           case c1 => repeat (first | exact Below.refl _ _ | with_reducible apply bel_dr | with_reducible apply bel_al)
           rintro e u9 ⟨rfl, b9⟩)
        | (go_at_call 16
           (first
             | ((with_reducible refine (from_grow wc _ ?c2 A8 n c8 (q8.take n) lf hnf hn1000).mono ?_)
                case c2 => exact b9
                rintro e u10 ⟨A11, c11, rfl, L10, b10, d10⟩)
             | ((with_reducible refine (from_grow wc _ ?c2 A10 1 c10 (q8.drop n) lb hnb h1000).mono ?_)
                case c2 => repeat (first | exact Below.refl _ _ | exact b12 | with_reducible apply bel_dr | with_reducible apply bel_al)
                rintro e u13 ⟨A13, c13, rfl, L13, b13, d13⟩
                have C130 := (bz8 u13 b13).1
                have C131 := (bz8 u13 b13).2
                first | have z13 := box_below (box_nw (cs := #[.slice xA xb.length xc, .bool true]) (t := 25) rfl) d13 | skip)))
        | (go_at_call 12
           (first
             | ((with_reducible refine (ref_grow wc _ ?c2 A n c rs (ln_up hl8 ?c3) hn hn1000).mono ?_)
                case c2 => exact b10
                case c3 => exact b10
                rintro e u11 ⟨A12, c12, rfl, L11, b11, d11⟩
                have L10 := ln_up L10 d11)
             | ((with_reducible refine (ref_grow wc _ ?c2 _ 1 1 [(⟨xA, xc, xb, true⟩ : Rc)] (hid (ln_lit (E := 25) ?c3 (slb_up hx8 ?c4).out)) hn1 h1000).mono ?_)
                case c2 => repeat (first | exact Below.refl _ _ | exact b13 | with_reducible apply bel_dr | with_reducible apply bel_al)
                case c3 => first | exact box_nw rfl | exact z13
                case c4 => repeat (first | exact Below.refl _ _ | exact b13 | with_reducible apply bel_dr | with_reducible apply bel_al)
                rintro e u14 ⟨A14, c14, rfl, L14, b14, d14⟩
                have L134 := ln_up L13 (Below.trans (show Below u13.heap.size u13 _ by repeat (first | exact Below.refl _ _ | with_reducible apply bel_dr | with_reducible apply bel_al)) (Below.mono d14 (bsz (by repeat (first | exact Below.refl _ _ | with_reducible apply bel_dr | with_reducible apply bel_al))))))))
        | (go_at_call 15
           (first
             | ((with_reducible refine (same_grow wc _ ?c2 A11 A12 n n c11 c12 (q8.take n) rs L10 L11 hlf hnf hn).mono ?_)
                case c2 => exact b11
                rintro e u12 ⟨rfl, b12⟩
                have C120 := (bz8 u12 b12).1
                have C121 := (bz8 u12 b12).2)
             | ((with_reducible refine (same_grow wc _ ?c2 A13 A14 1 1 c13 c14 (q8.drop n) [(⟨xA, xc, xb, true⟩ : Rc)] L134 L14 hlb hnb hn1).mono ?_)
                case c2 => exact b14
                rintro e u15 ⟨rfl, b15⟩)))))
      all_goals
        go_wp2
        go_ret
        exact ⟨rfl, bel_t K8 b15⟩
    · have hput : Hid (L = lnR rs ∧ b = false) := hid (by
        have := hp.out
        unfold putL at this
        rw [hU.out, hxe.out, if_neg hfit] at this
        injection this with h1 h2
        exact ⟨h1.symm, h2.symm⟩)
      obtain ⟨hLL, hbt⟩ := hput.out
      have hLL := hid hLL
      subst hbt
      have hf6 : ¬ (U : Int) + ((xb.length : Int) + 1) ≤ 1024 := by omega
      have hn8n : n8 = n := by
        have h := congrArg List.length (hq8.out.trans hLL.out)
        rw [lnR_len, hn8.out, lnR_len, hn.out] at h
        exact h
      have hls : Hid (lnR q8 = lnR rs) := hid (hq8.out.trans hLL.out)
      have hm8 : n8 ≤ 1000 := by omega
      clear hn8n hput hLL
      go_wp2_with (first
        | (go_at_call 16
           (with_reducible refine (from_grow wc _ (Below.refl _ _) A8 n8 c8 q8 F8 hn8 hm8).mono ?_)
           rintro e u10 ⟨A11, c11, rfl, L10, b10, d10⟩)
        | (go_at_call 12
           (with_reducible refine (ref_grow wc _ b10 A n c rs (ln_up hl8 b10) hn hn1000).mono ?_)
           rintro e u11 ⟨A12, c12, rfl, L11, b11, d11⟩
           have L10 := ln_up L10 d11)
        | (go_at_call 15
           (with_reducible refine (same_grow wc _ b11 A11 A12 n8 n c11 c12 q8 rs L10 L11 hls hn8 hn).mono ?_)
           rintro e u12 ⟨rfl, b12⟩))
      go_ret
      exact ⟨rfl, bel_t K8 b12⟩
end Go.Proofs.Ytjncahcigbdbgab
