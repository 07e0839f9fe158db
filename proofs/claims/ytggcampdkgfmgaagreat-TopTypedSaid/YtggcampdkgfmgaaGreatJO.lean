import Derived.Test.YtggcampdkgfmgaaGreatJN
namespace Go.Proofs.YtggcampdkgfmgaaGreat
open Go.RowKit

/-! Layer 16: a line ended, a byte taken. -/
section
variable {w0 w : World} {p : Nat} {S0 S : Nat → Prop} {D : Ds} {h : Ph}
theorem Wy.freshL {u : World} (H : Hid (Wy w0 p S0 u S D h)) {A : Option Addr} {c : Nat} {qs : List L13.Rc} (hL : L13.LnF w u.heap.size A c qs) : Fr w0 p S A (qs ≠ []) ∧ ∀ r ∈ qs, Fr w0 p S r.A (r.bs ≠ []) := by
  have h1 := H.out.but.size
  have h2 := Wy.lt H
  refine ⟨fun hn a ha => ?_, fun r hr hn a ha => ?_⟩
  · obtain ⟨g, o, cs, e, hg, _⟩ := hL.row hn
    rw [e] at ha
    injection ha with ha
    subst ha
    have h3 : u.heap.size ≤ g := hg
    exact ⟨.inr (Nat.le_trans h1 h3), fun e => by have e : g = p := e; omega⟩
  · obtain ⟨g, o, cs, e, hg, _⟩ := hL.text r hr hn
    rw [e] at ha
    injection ha with ha
    subst ha
    have h3 : u.heap.size ≤ g := hg
    exact ⟨.inr (Nat.le_trans h1 h3), fun e => by have e : g = p := e; omega⟩
attribute [local go_sem ↓] wp_ldR ex_ldR

/-- A discipline whose line has been ended, or not. -/
def endR (D : Ds) (ls' : List (List UInt8 × Bool)) (ok : Bool) : Ds := if ok = true then { D with ls := ls', line := [] } else beepD D
theorem putp_y (w : World) (A : Option Addr) (n c : Nat) (rs : List L13.Rc) (x : L13.Rc) {y : Nat} (hy : Hid (x.bs.length = y)) (hl : Hid (L13.LnV w w.heap.size A c rs)) (hx : Hid (SlB w w.heap.size x.A x.c x.bs)) (hn : rs.length = n) (hm : n ≤ 3900) (ht : Hid (∀ r ∈ rs, r.bs.length ≤ 140737488351232)) (hxt : Hid (x.bs.length ≤ 140737488351232)) {ls' : List (List UInt8 × Bool)} {ok : Bool} (hp : Hid (L13.putL (L13.lnR rs) x.ln = (ls', ok))) :
    Calls Tryz.prog 186 #[.slice A n c, .agg #[.slice x.A y x.c, .bool x.e]] w (L13.RetLF w (ls', ok)) := by
  obtain rfl := hy.out
  rw [← hp.out]
  exact L13.putp_any w A n c rs x hl hx hn hm ht hxt
theorem _root_.Go.Proofs.YtggcampdkgfmgaaGreat.L13.LnF.low {w : World} {base : Nat} {A : Option Addr} {c : Nat} {qs : List L13.Rc} (h : L13.LnF w base A c qs) : L13.LnF w 0 A c qs :=
  ⟨h.ln, fun hn => by obtain ⟨g, o, cs, e, _, hb⟩ := h.row hn; exact ⟨g, o, cs, e, Nat.zero_le _, hb⟩, fun r hr hn => by obtain ⟨g, o, cs, e, _, hb⟩ := h.text r hr hn; exact ⟨g, o, cs, e, Nat.zero_le _, hb⟩⟩

set_option maxRecDepth 100000 in
set_option maxHeartbeats 2000000 in
theorem end_d (H : Hid (Wy w0 p S0 w S D h)) (hf : Hid (FitN 3500 D)) (x : L13.Rc) {y : Nat} (hy : Hid (x.bs.length = y)) (hm : y ≤ 20000) (hx : Hid (SlB w w.heap.size x.A x.c x.bs)) {ls' : List (List UInt8 × Bool)} {ok : Bool} (hp : Hid (L13.putL D.ls (x.bs, x.e) = (ls', ok))) {D' : Ds} (hr : Hid (endR D ls' ok = D')) :
    Calls Tryz.prog 166 #[.pointer (some ⟨p, 0, none⟩), .agg #[.slice x.A y x.c, .bool x.e]] w fun e w' => e = .returned (.bool ok) ∧ DOut w0 p S0 D' w' := by
  have ht := hf.out.t
  have hf2 : Hid (FitN 3600 D) := hid (hf.out.up (by omega))
  obtain ⟨ql, hql⟩ : ∃ x, Hid (D.ls.length = x) := ⟨_, hid rfl⟩
  have b1 : ql ≤ 3500 := by rw [← hql.out]; exact hf.out.ls
  have hq2 : h.qs.length = ql := (Wy.lsL H).trans hql.out
  have hxt : Hid (x.bs.length ≤ 140737488351232) := hid (by rw [hy.out]; omega)
  have hp2 : L13.putL (L13.lnR h.qs) x.ln = (ls', ok) := by rw [H.out.at_.lsq]; exact hp.out
  have hp2 := hid hp2
  have H1 := Wy.bel H ((Below.refl _ w).alloc (Nat.le_refl _) (.cells #[.slice x.A y x.c, .bool x.e] 132))
  have X1 := slb_alloc hx (.cells #[.slice x.A y x.c, .bool x.e] 132)
  go_enter Tryz.func166, Tryz.ntmps166
  go_wp2_with (first
    | (refine L13.bx30 (by rfl) _ (by rfl) _ _ (by rfl) ?_
       intro G0))
  obtain ⟨g, hg⟩ : ∃ g, w.heap.size = g := ⟨_, rfl⟩
  rw [hg] at G0 ⊢
  generalize World.alloc w _ = v at G0 H1 X1 ⊢
  clear hg hx
  have TX := Wy.txt H1 hf
  have LS := Wy.lsS H1
  have bz : ∀ W, Below v.heap.size v W → W.cell? ⟨p, 26, none⟩ = some (.slice h.nA ql h.nc) ∧ W.cell? ⟨g, 0, none⟩ = some (.slice x.A y x.c) ∧ W.cell? ⟨g, 1, none⟩ = some (.bool x.e) := by
    intro W k
    have h1 := Wy.cellW H1 ht 2 rfl W k
    rw [hql.out] at h1
    have h2 := box_below G0.out k
    exact ⟨h1, h2.cell 0, h2.cell 1⟩
  go_cut [5, 6] (fun a b wx => ∃ A n c qs, a = .slice A n c ∧ b = .bool ok ∧ Hid (L13.lnR qs = ls') ∧ Hid (qs.length = n) ∧ Hid (L13.LnF wx 0 A c qs) ∧ Hid (Fr w0 p S A (qs ≠ []) ∧ ∀ r ∈ qs, Fr w0 p S r.A (r.bs ≠ [])) ∧ Hid (Wy w0 p S0 wx S D h))
  case first =>
    go_region_held3 (fun W => W.cell? ⟨p, 26, none⟩ = some (.slice h.nA ql h.nc) ∧ W.cell? ⟨g, 0, none⟩ = some (.slice x.A y x.c) ∧ W.cell? ⟨g, 1, none⟩ = some (.bool x.e)) (exact bz _ (by repeat (first | exact Below.refl _ _ | exact b2 | with_reducible apply bel_dr | with_reducible apply bel_al))) ((first
      | (go_at_call 186
         (with_reducible refine (putp_y _ h.nA ql h.nc h.qs x hy (L13.ln_up LS (by repeat (first | exact Below.refl _ _ | with_reducible apply bel_dr | with_reducible apply bel_al))) (slb_up X1 (by repeat (first | exact Below.refl _ _ | with_reducible apply bel_dr | with_reducible apply bel_al))) hq2 (by omega) TX hxt hp2).mono ?_)
         rintro e w2 ⟨A2, n2, c2, q2, rfl, Q2, N2, L2, k2⟩
         have b2 : Below v.heap.size v w2 := bel_via k2 (by repeat (first | exact Below.refl _ _ | with_reducible apply bel_dr | with_reducible apply bel_al)))))
    all_goals
      go_wp2_with fail
      go_meet
      exact ⟨A2, n2, c2, q2, rfl, rfl, Q2, N2, hid (L2.out.low), hid (Wy.freshL (Wy.bel H1 (by repeat (first | exact Below.refl _ _ | with_reducible apply bel_dr | with_reducible apply bel_al))) L2.out), Wy.bel H1 b2⟩
  case rest =>
  obtain ⟨A3, n3, c3, q3, rfl, rfl, Q3, N3, L3, F3, H3⟩ := hcut
  cases ok
  · have hr2 : Hid (beepD D = D') := hid (by rw [← hr.out]; unfold endR; rw [if_neg (by decide)])
    go_wp2_with (first
      | (go_at_call 124
         (with_reducible refine (beep_d H3 hf2 hr2).mono ?_)
         rintro e w4 ⟨rfl, K4⟩))
    go_ret
    exact ⟨rfl, K4⟩
  · obtain rfl : { D with ls := ls', line := [] } = D' := by rw [← hr.out]; unfold endR; rw [if_pos rfl]
    have z26 := Wy.fz H3 26
    have c26 := Wy.cellW H3 ht 2 rfl wc (Below.refl _ _)
    have z24 := Wy.fz H3 24
    have c24 := Wy.cellW H3 ht 0 rfl wc (Below.refl _ _)
    obtain ⟨S4, H4⟩ := Wy.ls_ H3 ht N3 Q3 (hid L3.out.ln) F3.out.1 F3.out.2
    have H5 := Wy.line_ H4 ht (l := []) (n := 0) (hid rfl) (slb_nil0 _) Fr.none_
    go_wp2_with fail
    go_ret
    exact ⟨rfl, Wy.left H5⟩

theorem endD_is {D : Ds} {b : List UInt8} {eof : Bool} {ls' : List (List UInt8 × Bool)} {ok : Bool} (hp : L13.putL D.ls (D.line ++ b, eof) = (ls', ok)) : endR D ls' ok = endD D b eof ∧ endB D b eof = ok := by
  have h1 : endB D b eof = ok := by unfold endB; rw [hp]
  refine ⟨?_, h1⟩
  unfold endD endR
  rw [h1, hp]
set_option maxRecDepth 100000 in
set_option maxHeartbeats 2000000 in
theorem endByEof_d (H : Hid (Wy w0 p S0 w S D h)) (hf : Hid (FitN 3500 D)) (c : UInt8) {D' : Ds} (hr : Hid (endD D [] true = D')) :
    Calls Tryz.prog 165 #[.pointer (some ⟨p, 0, none⟩), .int .u8 (c.toNat : Int)] w fun e w' => e = .returned (.tuple #[]) ∧ DOut w0 p S0 D' w' := by
  have ht := hf.out.t
  obtain ⟨ll, hll⟩ : ∃ x, Hid (D.line.length = x) := ⟨_, hid rfl⟩
  have hl2 : ll ≤ 13000 := by rw [← hll.out]; exact hf.out.line
  obtain ⟨⟨ls', ok⟩, hp⟩ : ∃ x, Hid (L13.putL D.ls (D.line, true) = x) := ⟨_, hid rfl⟩
  have hr2 : Hid (endR D ls' ok = D') := hid (by
    rw [← hr.out]
    exact (endD_is (b := []) (by rw [List.append_nil]; exact hp.out)).1)
  have c24 := Wy.cellW H ht 0 rfl w (Below.refl _ _)
  rw [hll.out] at c24
  have LS := Wy.lineS H
  go_enter Tryz.func165, Tryz.ntmps165
  go_wp2_with (first
    | (go_at_call 166
       (with_reducible refine (end_d H hf ⟨h.lA, h.lc, D.line, true⟩ hll (by omega) LS hp hr2).mono ?_)
       rintro e w2 ⟨rfl, K2⟩))
  go_end0
  exact ⟨rfl, K2⟩

theorem newline_no {c : UInt8} (hp : endB D [c] false = false) : newlineD D c = endD D [c] false := by unfold newlineD; rw [hp, if_pos rfl]
theorem newline_char {c : UInt8} (hp : endB D [c] false = true) (hc : c ≠ 10) : newlineD D c = echoD (endD D [c] false) (showB (D.has 60) c) := by unfold newlineD; rw [hp, if_neg (by decide), if_neg hc]; rfl
theorem newline_10 {c : UInt8} (hp : endB D [c] false = true) (hc : c = 10) : newlineD D c = if D.has 53 = true ∨ D.has 56 = true then showD (endD D [c] false) [10] else endD D [c] false := by unfold newlineD; rw [hp, if_neg (by decide), if_pos hc]
set_option maxRecDepth 100000 in
set_option maxHeartbeats 4000000 in
theorem endByByte_d (H : Hid (Wy w0 p S0 w S D h)) (hf : Hid (FitN 3500 D)) (c : UInt8) {D' : Ds} (hr : Hid (newlineD D c = D')) :
    Calls Tryz.prog 132 #[.pointer (some ⟨p, 0, none⟩), .int .u8 (c.toNat : Int)] w fun e w' => e = .returned (.tuple #[]) ∧ DOut w0 p S0 D' w' := by
  have ht := hf.out.t
  have h60 : Hid (hasN D.t.f 60 = D.has 60) := hid rfl
  have N1 : Hid (([c] : List UInt8).length = 1) := hid rfl
  have N10 : Hid (([10] : List UInt8).length = 1) := hid rfl
  obtain ⟨ll, hll⟩ : ∃ x, Hid (D.line.length = x) := ⟨_, hid rfl⟩
  have hl2 : ll ≤ 13000 := by rw [← hll.out]; exact hf.out.line
  obtain ⟨⟨ls', ok⟩, hp⟩ : ∃ x, Hid (L13.putL D.ls (D.line ++ [c], false) = x) := ⟨_, hid rfl⟩
  obtain ⟨hEq, hB⟩ := endD_is hp.out
  obtain ⟨E, hE⟩ : ∃ E, Hid (endR D ls' ok = E) := ⟨_, hid rfl⟩
  have hEd : endD D [c] false = E := by rw [← hEq]; exact hE.out
  have hfE : Hid (FitN 3600 E) := hid (by rw [← hEd]; exact (hf.out.end_ [c] false).up (by omega))
  have c24 := Wy.cellW H ht 0 rfl w (Below.refl _ _)
  rw [hll.out] at c24
  have K1 : Below w.heap.size w ((w.alloc (.cells #[.int .u8 (c.toNat : Int)] 5)).alloc (.cells #[.slice h.lA ll h.lc, .slice (some ⟨w.heap.size, 0, none⟩) 1 1] 27)) := ((Below.refl _ w).alloc (Nat.le_refl _) _).alloc (by simp) _
  have H2 := Wy.bel H K1
  have S2 := slb_up (Wy.lineS H) K1
  have S1 := slb_alloc (hid (slb_lit w [c] 1 #[.int .u8 (c.toNat : Int)] rfl rfl (by decide))) (.cells #[.slice h.lA ll h.lc, .slice (some ⟨w.heap.size, 0, none⟩) 1 1] 27)
  have HX : Hid (Box ((w.alloc (.cells #[.int .u8 (c.toNat : Int)] 5)).alloc (.cells #[.slice h.lA ll h.lc, .slice (some ⟨w.heap.size, 0, none⟩) 1 1] 27)) (w.heap.size + 1) 27 #[.slice h.lA ll h.lc, .slice (some ⟨w.heap.size, 0, none⟩) 1 1]) := hid (box_nw (by simp))
  clear K1 hEq
  cases ok
  · obtain rfl : E = D' := by rw [← hEd, ← hr.out, newline_no hB]
    go_enter Tryz.func132, Tryz.ntmps132
    go_wp2_with (first
      | (go_at_call 73
         (with_reducible refine (concat_new _ _ h.lA (some ⟨w.heap.size, 0, none⟩) ll 1 h.lc 1 D.line [c] HX.out S2 S1 hll N1 (by omega) (hid rfl)).mono ?_)
         rintro e w2 ⟨A3, n3, c3, rfl, N3, O3, k3⟩
         have H3 := Wy.bel H2 k3.out
         have S3 := slb_own N3 O3
         have b3 : n3 ≤ 20000 := by
           have h1 := N3.out
           rw [List.length_append, hll.out] at h1
           simp only [List.length_cons, List.length_nil] at h1
           omega)
      | (go_at_call 166
         (with_reducible refine (end_d H3 hf ⟨A3, c3, D.line ++ [c], false⟩ N3 b3 S3 hp hE).mono ?_)
         rintro e w4 ⟨rfl, K4⟩
         obtain ⟨S4, h4, H4⟩ := Wy.from K4))
    refine bodyPost_ret (results_none rfl _ _ _) rfl ?_
    exact ⟨rfl, K4⟩
  · have htE : E.t = D.t := by rw [← hE.out]; unfold endR; rw [if_pos rfl]
    have hh : ∀ op, E.has op = D.has op := fun op => by unfold Ds.has; rw [htE]
    by_cases hc : c = 10
    · have hc1 : ((c.toNat : Int) != 10) = false := by rw [hc]; rfl
      have hn := (newline_10 hB hc).symm.trans hr.out
      rw [hEd] at hn
      have hn := hid hn
      replace hh := hid hh
      replace hc := hid hc
      cases h53 : E.has 53
      · cases h56 : E.has 56
        · obtain rfl : E = D' := by rw [← hn.out, ← hh.out, ← hh.out, h53, h56, if_neg (by simp)]
          go_enter Tryz.func132, Tryz.ntmps132
          go_wp2_with (first
            | (go_at_call 73
               (with_reducible refine (concat_new _ _ h.lA (some ⟨w.heap.size, 0, none⟩) ll 1 h.lc 1 D.line [c] HX.out S2 S1 hll N1 (by omega) (hid rfl)).mono ?_)
               rintro e w2 ⟨A3, n3, c3, rfl, N3, O3, k3⟩
               have H3 := Wy.bel H2 k3.out
               have S3 := slb_own N3 O3
               have b3 : n3 ≤ 20000 := by
                 have h1 := N3.out
                 rw [List.length_append, hll.out] at h1
                 simp only [List.length_cons, List.length_nil] at h1
                 omega)
            | (go_at_call 166
               (with_reducible refine (end_d H3 hf ⟨A3, c3, D.line ++ [c], false⟩ N3 b3 S3 hp hE).mono ?_)
               rintro e w4 ⟨rfl, K4⟩
               obtain ⟨S4, h4, H4⟩ := Wy.from K4)
            | (go_at_call 61
               (with_reducible refine (hasd_b H4 hfE.out.t h53).mono ?_)
               rintro e w5 ⟨rfl, k5⟩
               have H5 := Wy.bel H4 k5.out)
            | (go_at_call 61
               (with_reducible refine (hasd_b H5 hfE.out.t h56).mono ?_)
               rintro e w6 ⟨rfl, k6⟩
               have H6 := Wy.bel H5 k6.out))
          go_end0
          exact ⟨rfl, Wy.left H6⟩
        · have hr2 : Hid (showD E [10] = D') := hid (by rw [← hn.out, ← hh.out, ← hh.out, h53, h56, if_pos (by simp)])
          go_enter Tryz.func132, Tryz.ntmps132
          go_wp2_with (first
            | (go_at_call 73
               (with_reducible refine (concat_new _ _ h.lA (some ⟨w.heap.size, 0, none⟩) ll 1 h.lc 1 D.line [c] HX.out S2 S1 hll N1 (by omega) (hid rfl)).mono ?_)
               rintro e w2 ⟨A3, n3, c3, rfl, N3, O3, k3⟩
               have H3 := Wy.bel H2 k3.out
               have S3 := slb_own N3 O3
               have b3 : n3 ≤ 20000 := by
                 have h1 := N3.out
                 rw [List.length_append, hll.out] at h1
                 simp only [List.length_cons, List.length_nil] at h1
                 omega)
            | (go_at_call 166
               (with_reducible refine (end_d H3 hf ⟨A3, c3, D.line ++ [c], false⟩ N3 b3 S3 hp hE).mono ?_)
               rintro e w4 ⟨rfl, K4⟩
               obtain ⟨S4, h4, H4⟩ := Wy.from K4)
            | (go_at_call 61
               (with_reducible refine (hasd_b H4 hfE.out.t h53).mono ?_)
               rintro e w5 ⟨rfl, k5⟩
               have H5 := Wy.bel H4 k5.out)
            | (go_at_call 61
               (with_reducible refine (hasd_b H5 hfE.out.t h56).mono ?_)
               rintro e w6 ⟨rfl, k6⟩
               have H6 := Wy.bel H5 k6.out
               have H7 := Wy.bel H6 ((Below.refl _ w6).alloc (Nat.le_refl _) (.cells #[.int .u8 10] 5))
               have S7 : Hid (SlB (w6.alloc (.cells #[.int .u8 10] 5)) (w6.alloc (.cells #[.int .u8 10] 5)).heap.size (some ⟨w6.heap.size, 0, none⟩) 1 [10]) := hid (slb_lit w6 [10] 1 #[.int .u8 10] rfl rfl (by decide)))
            | (go_at_call 156
               (with_reducible refine (show_d H7 hfE N10 (by omega) S7 hr2).mono ?_)
               rintro e w8 ⟨rfl, K8⟩))
          go_end0
          exact ⟨rfl, K8⟩
      · have hr2 : Hid (showD E [10] = D') := hid (by rw [← hn.out, ← hh.out, h53, if_pos (by simp)])
        go_enter Tryz.func132, Tryz.ntmps132
        go_wp2_with (first
          | (go_at_call 73
             (with_reducible refine (concat_new _ _ h.lA (some ⟨w.heap.size, 0, none⟩) ll 1 h.lc 1 D.line [c] HX.out S2 S1 hll N1 (by omega) (hid rfl)).mono ?_)
             rintro e w2 ⟨A3, n3, c3, rfl, N3, O3, k3⟩
             have H3 := Wy.bel H2 k3.out
             have S3 := slb_own N3 O3
             have b3 : n3 ≤ 20000 := by
               have h1 := N3.out
               rw [List.length_append, hll.out] at h1
               simp only [List.length_cons, List.length_nil] at h1
               omega)
          | (go_at_call 166
             (with_reducible refine (end_d H3 hf ⟨A3, c3, D.line ++ [c], false⟩ N3 b3 S3 hp hE).mono ?_)
             rintro e w4 ⟨rfl, K4⟩
             obtain ⟨S4, h4, H4⟩ := Wy.from K4)
          | (go_at_call 61
             (with_reducible refine (hasd_b H4 hfE.out.t h53).mono ?_)
             rintro e w6 ⟨rfl, k6⟩
             have H6 := Wy.bel H4 k6.out
             have H7 := Wy.bel H6 ((Below.refl _ w6).alloc (Nat.le_refl _) (.cells #[.int .u8 10] 5))
             have S7 : Hid (SlB (w6.alloc (.cells #[.int .u8 10] 5)) (w6.alloc (.cells #[.int .u8 10] 5)).heap.size (some ⟨w6.heap.size, 0, none⟩) 1 [10]) := hid (slb_lit w6 [10] 1 #[.int .u8 10] rfl rfl (by decide)))
          | (go_at_call 156
             (with_reducible refine (show_d H7 hfE N10 (by omega) S7 hr2).mono ?_)
             rintro e w8 ⟨rfl, K8⟩))
        go_end0
        exact ⟨rfl, K8⟩
    · have hc1 : ((c.toNat : Int) != 10) = true := bne_iff_ne.2 (by
        intro e
        exact hc (UInt8.toNat_inj.1 (by
          have : (10 : UInt8).toNat = 10 := rfl
          omega)))
      have hr2 : Hid (echoD E (showB (D.has 60) c) = D') := hid (by rw [← hr.out, newline_char hB hc, hEd])
      have h60E : Hid (hasN E.t.f 60 = D.has 60) := hid (by rw [htE]; rfl)
      have htE2 := hfE.out.t
      clear htE
      go_enter Tryz.func132, Tryz.ntmps132
      go_wp2_with (first
        | (go_at_call 73
           (with_reducible refine (concat_new _ _ h.lA (some ⟨w.heap.size, 0, none⟩) ll 1 h.lc 1 D.line [c] HX.out S2 S1 hll N1 (by omega) (hid rfl)).mono ?_)
           rintro e w2 ⟨A3, n3, c3, rfl, N3, O3, k3⟩
           have H3 := Wy.bel H2 k3.out
           have S3 := slb_own N3 O3
           have b3 : n3 ≤ 20000 := by
             have h1 := N3.out
             rw [List.length_append, hll.out] at h1
             simp only [List.length_cons, List.length_nil] at h1
             omega)
        | (go_at_call 166
           (with_reducible refine (end_d H3 hf ⟨A3, c3, D.line ++ [c], false⟩ N3 b3 S3 hp hE).mono ?_)
           rintro e w4 ⟨rfl, K4⟩
           obtain ⟨S4, h4, H4⟩ := Wy.from K4)
        | (refine ldW (by rfl) _ (by rfl) p (by rfl) H4 htE2 ?_)
        | (go_at_call 126
           (with_reducible refine (L11.show_any _ htE2 c h60E).mono ?_)
           rintro e ws ⟨As, ns, cs, rfl, Ns, Os, ks⟩
           have Hs := Wy.bel H4 ks.out
           have Ss := slb_own Ns Os
           have bs : ns ≤ 10 := by
             have h1 := (showB_len (D.has 60) c).2
             rw [Ns.out] at h1
             omega)
        | (go_at_call 125
           (with_reducible refine (echo_d Hs hfE Ns (by omega) Ss hr2).mono ?_)
           rintro e we ⟨rfl, Ke⟩))
      refine bodyPost_ret (results_none rfl _ _ _) rfl ?_
      exact ⟨rfl, Ke⟩

end
end Go.Proofs.YtggcampdkgfmgaaGreat
