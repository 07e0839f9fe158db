import Derived.Test.YtggcampdkgfmgaaGreatTF
namespace Go.Proofs.YtggcampdkgfmgaaGreat
open Go.RowKit

/-! Layer 17: SetAttr. -/
section
variable {w0 w w' : World} {g p : Nat} {S0 S : Nat → Prop} {P : Ps} {D' : Ds}
theorem Fit.flush1 {D : Ds} (h : Fit D) : Fit (flushD D 1) := ⟨h.t, by simp [flushD], by simp [flushD], by have := h.out; simpa [flushD] using this, by simp [flushD], by simp [flushD, L13.usedL], h.col, h.fr, h.idle⟩
theorem setF_on {D : Ds} {t : Tm} (h : rightT t = true) : setF D t = setD D t := by unfold setF; rw [if_pos h]
theorem setE_on {D : Ds} {t : Tm} (h : rightT t = true) : setE D t = 0 := by unfold setE; rw [if_pos h]
theorem Py.outc (H : Hid (Py w0 g p S0 w S P)) (ht : P.d.t.Ok) : ∃ h : Ph, Hid (w.cell? ⟨p, 30, none⟩ = some (.slice h.oA P.d.out.length h.oc)) := by
  obtain ⟨h, Hd⟩ := H.out.at_.at_
  exact ⟨h, hid ((Box.cell Hd.box 30).trans (tmV_back ht (j := 6) rfl))⟩
attribute [local go_sem ↓] wp_ldR ex_ldR
set_option maxRecDepth 100000 in
set_option maxHeartbeats 4000000 in
theorem setEmpty_any (H : Hid (Py w0 g p S0 w S P)) (hf : Hid (Fit P.d)) (t : Tm) (ht : t.Ok) (hR : rightT t = true) {E : Ds} (hE : Hid (setD (flushD P.d 1) t = E)) : Calls Tryz.prog 118 #[.pointer (some ⟨g, 0, none⟩), .agg t.cs] w fun e w' => e = .returned (.int .i64 0) ∧ POut w0 g p S0 { P with d := E } w' := by
  have hs := cs_size ht.len
  obtain ⟨F, hF⟩ : ∃ x, Hid (flushD P.d 1 = x) := ⟨_, hid rfl⟩
  have fitF : Hid (Fit F) := hid (by rw [← hF.out]; exact hf.out.flush1)
  rw [hF.out] at hE
  have hE2 : Hid (setF F t = E) := hid (by rw [setF_on hR]; exact hE.out)
  go_enter Tryz.func118, Tryz.ntmps118
  go_upto_region 2 with (first
    | (refine bx26 (by rfl) _ (by rfl) _ (by rfl) hs ?_
       intro G0
       have H1 := Py.bel H ((Below.refl _ w).alloc (Nat.le_refl _) (.cells t.cs 26))
       have c0 := Py.cell (v := .pointer (some ⟨p, 0, none⟩)) H1 0 rfl)
    | (go_at_call 55
       (with_reducible refine (flushp_any _ p S P.d (Py.dat H1) hf 1 hF (hid rfl)).mono ?_)
       rintro e w3 ⟨rfl, O3⟩
       obtain ⟨S3, H3, N3, B3⟩ := Py.next H1 O3
       have G3 := hid (B3.out.box G0.out (fun hs => by have := H.out.at_.at_.top _ hs; omega))))
  have bz : ∀ W, Below w3.heap.size w3 W → W.cell? ⟨g, 0, none⟩ = some (.pointer (some ⟨p, 0, none⟩)) ∧ isR W (.pointer (some ⟨w.heap.size, 0, none⟩)) = true ∧ csR W (.pointer (some ⟨w.heap.size, 0, none⟩)) = t.cs := fun W k => by
    have h1 := front_R (W := W) ht.len (box_below G3.out k) (fun j v hj => by simpa [Tm.cs] using hj)
    exact ⟨Py.cellW H3 0 rfl W k, h1.1, h1.2⟩
  go_region_held3 (fun W => W.cell? ⟨g, 0, none⟩ = some (.pointer (some ⟨p, 0, none⟩)) ∧ isR W (.pointer (some ⟨w.heap.size, 0, none⟩)) = true ∧ csR W (.pointer (some ⟨w.heap.size, 0, none⟩)) = t.cs) (first | exact cx | exact bz _ (by repeat (first | exact Below.refl _ _ | with_reducible apply bel_dr | with_reducible apply bel_al))) ((first
    | (go_at_call 70
       (with_reducible refine (setp_any _ p S3 F (Py.dat (P := { P with d := F }) (Py.bel H3 (by repeat (first | exact Below.refl _ _ | with_reducible apply bel_dr | with_reducible apply bel_al)))) fitF t ht hE2 (hid (setE_on hR))).mono ?_)
       rintro e w4 ⟨rfl, O4⟩
       obtain ⟨S4, H4, N4, B4⟩ := Py.next (Py.bel H3 (by repeat (first | exact Below.refl _ _ | with_reducible apply bel_dr | with_reducible apply bel_al))) O4
       have G4 := B4.out.box (box_below G3.out (by repeat (first | exact Below.refl _ _ | with_reducible apply bel_dr | with_reducible apply bel_al))) (fun hs => by rcases N3.out _ hs with h | h; · { have := H.out.at_.at_.top _ h; omega }; · { have h1 : (w.alloc (.cells t.cs 26)).heap.size ≤ w.heap.size := h; rw [World.size_alloc] at h1; omega })
       have cx : w4.cell? ⟨g, 0, none⟩ = some (.pointer (some ⟨p, 0, none⟩)) ∧ isR w4 (.pointer (some ⟨w.heap.size, 0, none⟩)) = true ∧ csR w4 (.pointer (some ⟨w.heap.size, 0, none⟩)) = t.cs := ⟨Py.cell H4 0 rfl, (front_R (W := w4) ht.len G4 (fun j v hj => by simpa [Tm.cs] using hj)).1, (front_R (W := w4) ht.len G4 (fun j v hj => by simpa [Tm.cs] using hj)).2⟩)))
  all_goals
    go_wp2_with fail
    go_ret
    exact ⟨rfl, Py.done H4⟩
set_option maxRecDepth 100000 in
set_option maxHeartbeats 4000000 in
theorem setAttr_any (H : Hid (Py w0 g p S0 w S P)) (hf : Hid (Fit P.d)) (n : Int) (t : Tm) (ht : t.Ok) {r : Ps × Int} (hr : Hid (satP P n t = r)) : Calls Tryz.prog 88 #[.pointer (some ⟨g, 0, none⟩), .int .i64 n, .agg t.cs] w fun e w' => e = .returned (.int .i64 r.2) ∧ POut w0 g p S0 r.1 w' := by
  have hs := cs_size ht.len
  have hmf : ∀ (fn : Fn) (first cap : Array Value) (w : World), (Instr.makeFunc fn first cap).run Tryz.prog w = .ok (.func fn first cap) w := fun _ _ _ _ => rfl
  obtain ⟨q, hq⟩ : ∃ x, Hid (P.d.out.length = x) := ⟨_, hid rfl⟩
  have hqe : P.d.out ≠ [] ↔ q ≠ 0 := by
    rw [← hq.out]
    exact ⟨fun h e => h (List.eq_nil_of_length_eq_zero e), fun h e => h (by rw [e]; rfl)⟩
  replace hqe := hid hqe
  by_cases hn : n ≠ 1 ∧ n ≠ 2 ∧ n ≠ 3
  · obtain rfl : (P, 2) = r := by rw [← hr.out]; unfold satP; rw [if_pos hn]
    have h1 : (n != 1) = true := bne_iff_ne.2 hn.1
    have h2 : (n != 2) = true := bne_iff_ne.2 hn.2.1
    have h3 : (n != 3) = true := bne_iff_ne.2 hn.2.2
    clear hn
    cases hh : P.hu
    · go_enter Tryz.func88, Tryz.ntmps88
      go_wp2_with (first
        | (refine bx26 (by rfl) _ (by rfl) _ (by rfl) hs ?_
           intro G0
           have H1 := Py.bel H ((Below.refl _ w).alloc (Nat.le_refl _) (.cells t.cs 26)))
        | (go_at_call 83
           (with_reducible refine (isThere_b H1).mono ?_)
           rintro e w2 ⟨rfl, k2⟩
           have H2 := Py.bel H1 k2.out
           have G2 := hid (box_below G0.out k2.out)
           have c8 := Py.cell (v := .bool false) H2 8 (by rw [← hh]; rfl)))
      go_ret
      exact ⟨rfl, Py.done H2⟩
    · go_enter Tryz.func88, Tryz.ntmps88
      go_wp2_with (first
        | (refine bx26 (by rfl) _ (by rfl) _ (by rfl) hs ?_
           intro G0
           have H1 := Py.bel H ((Below.refl _ w).alloc (Nat.le_refl _) (.cells t.cs 26)))
        | (go_at_call 83
           (with_reducible refine (isThere_b H1).mono ?_)
           rintro e w2 ⟨rfl, k2⟩
           have H2 := Py.bel H1 k2.out
           have G2 := hid (box_below G0.out k2.out)
           have c8 := Py.cell (v := .bool true) H2 8 (by rw [← hh]; rfl)))
      go_ret
      exact ⟨rfl, Py.done H2⟩
  have hr2 := hr.out
  unfold satP at hr2
  rw [if_neg hn] at hr2
  cases hh : P.hu
  case true =>
    obtain rfl : (P, 11) = r := by rw [← hr2, hh]; rfl
    have hn3 : n = 1 ∨ n = 2 ∨ n = 3 := by omega
    clear hr2 hn
    rcases hn3 with rfl | rfl | rfl
    · go_enter Tryz.func88, Tryz.ntmps88
      go_wp2_with (first
        | (refine bx26 (by rfl) _ (by rfl) _ (by rfl) hs ?_
           intro G0
           have H1 := Py.bel H ((Below.refl _ w).alloc (Nat.le_refl _) (.cells t.cs 26)))
        | (go_at_call 83
           (with_reducible refine (isThere_b H1).mono ?_)
           rintro e w2 ⟨rfl, k2⟩
           have H2 := Py.bel H1 k2.out
           have G2 := hid (box_below G0.out k2.out)
           have c8 := Py.cell (v := .bool true) H2 8 (by rw [← hh]; rfl)))
      go_ret
      exact ⟨rfl, Py.done H2⟩
    · go_enter Tryz.func88, Tryz.ntmps88
      go_wp2_with (first
        | (refine bx26 (by rfl) _ (by rfl) _ (by rfl) hs ?_
           intro G0
           have H1 := Py.bel H ((Below.refl _ w).alloc (Nat.le_refl _) (.cells t.cs 26)))
        | (go_at_call 83
           (with_reducible refine (isThere_b H1).mono ?_)
           rintro e w2 ⟨rfl, k2⟩
           have H2 := Py.bel H1 k2.out
           have G2 := hid (box_below G0.out k2.out)
           have c8 := Py.cell (v := .bool true) H2 8 (by rw [← hh]; rfl)))
      go_ret
      exact ⟨rfl, Py.done H2⟩
    · go_enter Tryz.func88, Tryz.ntmps88
      go_wp2_with (first
        | (refine bx26 (by rfl) _ (by rfl) _ (by rfl) hs ?_
           intro G0
           have H1 := Py.bel H ((Below.refl _ w).alloc (Nat.le_refl _) (.cells t.cs 26)))
        | (go_at_call 83
           (with_reducible refine (isThere_b H1).mono ?_)
           rintro e w2 ⟨rfl, k2⟩
           have H2 := Py.bel H1 k2.out
           have G2 := hid (box_below G0.out k2.out)
           have c8 := Py.cell (v := .bool true) H2 8 (by rw [← hh]; rfl)))
      go_ret
      exact ⟨rfl, Py.done H2⟩
  case false =>
    rw [if_neg (by rw [hh]; decide)] at hr2
    cases hR : rightT t
    · obtain rfl : (P, 4) = r := by rw [← hr2, hR]; rfl
      have hn3 : n = 1 ∨ n = 2 ∨ n = 3 := by omega
      clear hr2 hn
      rcases hn3 with rfl | rfl | rfl
      · go_enter Tryz.func88, Tryz.ntmps88
        go_wp2_with (first
          | (refine bx26 (by rfl) _ (by rfl) _ (by rfl) hs ?_
             intro G0
             have H1 := Py.bel H ((Below.refl _ w).alloc (Nat.le_refl _) (.cells t.cs 26)))
          | (go_at_call 83
             (with_reducible refine (isThere_b H1).mono ?_)
             rintro e w2 ⟨rfl, k2⟩
             have H2 := Py.bel H1 k2.out
             have G2 := hid (box_below G0.out k2.out)
             have c8 := Py.cell (v := .bool false) H2 8 (by rw [← hh]; rfl))
          | (refine ld26 (by rfl) _ (by rfl) _ (by rfl) t.cs G2.out hs ?_)
          | (go_at_call 107
             (with_reducible refine (right_any _ t ht).mono ?_)
             rw [rightT_is, hR]
             rintro e w3 ⟨rfl, k3⟩
             have H3 := Py.bel H2 k3.out
             have G3 := hid (box_below G2.out k3.out)))
        go_ret
        exact ⟨rfl, Py.done H3⟩
      · go_enter Tryz.func88, Tryz.ntmps88
        go_wp2_with (first
          | (refine bx26 (by rfl) _ (by rfl) _ (by rfl) hs ?_
             intro G0
             have H1 := Py.bel H ((Below.refl _ w).alloc (Nat.le_refl _) (.cells t.cs 26)))
          | (go_at_call 83
             (with_reducible refine (isThere_b H1).mono ?_)
             rintro e w2 ⟨rfl, k2⟩
             have H2 := Py.bel H1 k2.out
             have G2 := hid (box_below G0.out k2.out)
             have c8 := Py.cell (v := .bool false) H2 8 (by rw [← hh]; rfl))
          | (refine ld26 (by rfl) _ (by rfl) _ (by rfl) t.cs G2.out hs ?_)
          | (go_at_call 107
             (with_reducible refine (right_any _ t ht).mono ?_)
             rw [rightT_is, hR]
             rintro e w3 ⟨rfl, k3⟩
             have H3 := Py.bel H2 k3.out
             have G3 := hid (box_below G2.out k3.out)))
        go_ret
        exact ⟨rfl, Py.done H3⟩
      · go_enter Tryz.func88, Tryz.ntmps88
        go_wp2_with (first
          | (refine bx26 (by rfl) _ (by rfl) _ (by rfl) hs ?_
             intro G0
             have H1 := Py.bel H ((Below.refl _ w).alloc (Nat.le_refl _) (.cells t.cs 26)))
          | (go_at_call 83
             (with_reducible refine (isThere_b H1).mono ?_)
             rintro e w2 ⟨rfl, k2⟩
             have H2 := Py.bel H1 k2.out
             have G2 := hid (box_below G0.out k2.out)
             have c8 := Py.cell (v := .bool false) H2 8 (by rw [← hh]; rfl))
          | (refine ld26 (by rfl) _ (by rfl) _ (by rfl) t.cs G2.out hs ?_)
          | (go_at_call 107
             (with_reducible refine (right_any _ t ht).mono ?_)
             rw [rightT_is, hR]
             rintro e w3 ⟨rfl, k3⟩
             have H3 := Py.bel H2 k3.out
             have G3 := hid (box_below G2.out k3.out)))
        go_ret
        exact ⟨rfl, Py.done H3⟩
    · rw [hR, if_neg (by decide)] at hr2
      by_cases h1 : n = 1
      · subst h1
        rw [if_neg (fun h => h.1 rfl), if_neg (by decide)] at hr2
        obtain rfl := hr2
        have hE2 : Hid (setF P.d t = setD P.d t) := hid (setF_on hR)
        go_enter Tryz.func88, Tryz.ntmps88
        go_wp2_with (first
          | (refine bx26 (by rfl) _ (by rfl) _ (by rfl) hs ?_
             intro G0
             have H1 := Py.bel H ((Below.refl _ w).alloc (Nat.le_refl _) (.cells t.cs 26)))
          | (go_at_call 83
             (with_reducible refine (isThere_b H1).mono ?_)
             rintro e w2 ⟨rfl, k2⟩
             have H2 := Py.bel H1 k2.out
             have G2 := hid (box_below G0.out k2.out)
             have c8 := Py.cell (v := .bool false) H2 8 (by rw [← hh]; rfl))
          | (refine ld26 (by rfl) _ (by rfl) _ (by rfl) t.cs G2.out hs ?_)
          | (go_at_call 107
             (with_reducible refine (right_any _ t ht).mono ?_)
             rw [rightT_is, hR]
             rintro e w3 ⟨rfl, k3⟩
             have H3 := Py.bel H2 k3.out
             have G3 := hid (box_below G2.out k3.out)
             have c0 := Py.cell (v := .pointer (some ⟨p, 0, none⟩)) H3 0 rfl
             obtain ⟨ho, c30h⟩ := Py.outc H3 hf.out.t
             have c30 := c30h.out
             rw [hq.out] at c30)
          | (refine ld26 (by rfl) _ (by rfl) _ (by rfl) t.cs G3.out hs ?_)
          | (go_at_call 70
             (with_reducible refine (setp_any w3 p S P.d (Py.dat H3) hf t ht hE2 (hid (setE_on hR))).mono ?_)
             rintro e w4 ⟨rfl, O4⟩
             obtain ⟨S4, H4, -, -⟩ := Py.next H3 O4))
        go_ret
        exact ⟨rfl, Py.done H4⟩
      · by_cases hq0 : q = 0
        · subst hq0
          rw [if_neg (fun h => (hqe.out.1 h.2) rfl)] at hr2
          by_cases h3 : n = 3
          · subst h3
            rw [if_pos rfl] at hr2
            obtain rfl := hr2
            go_enter Tryz.func88, Tryz.ntmps88
            go_wp2_with (first
              | (refine bx26 (by rfl) _ (by rfl) _ (by rfl) hs ?_
                 intro G0
                 have H1 := Py.bel H ((Below.refl _ w).alloc (Nat.le_refl _) (.cells t.cs 26)))
              | (go_at_call 83
                 (with_reducible refine (isThere_b H1).mono ?_)
                 rintro e w2 ⟨rfl, k2⟩
                 have H2 := Py.bel H1 k2.out
                 have G2 := hid (box_below G0.out k2.out)
                 have c8 := Py.cell (v := .bool false) H2 8 (by rw [← hh]; rfl))
              | (refine ld26 (by rfl) _ (by rfl) _ (by rfl) t.cs G2.out hs ?_)
              | (go_at_call 107
                 (with_reducible refine (right_any _ t ht).mono ?_)
                 rw [rightT_is, hR]
                 rintro e w3 ⟨rfl, k3⟩
                 have H3 := Py.bel H2 k3.out
                 have G3 := hid (box_below G2.out k3.out)
                 have c0 := Py.cell (v := .pointer (some ⟨p, 0, none⟩)) H3 0 rfl
                 obtain ⟨ho, c30h⟩ := Py.outc H3 hf.out.t
                 have c30 := c30h.out
                 rw [hq.out] at c30)
              | (refine ld26 (by rfl) _ (by rfl) _ (by rfl) t.cs G3.out hs ?_)
              | (go_at_call 118
                 (with_reducible refine (setEmpty_any H3 hf t ht hR (hid rfl)).mono ?_)
                 rintro e w4 ⟨rfl, O4⟩))
            go_ret
            exact ⟨rfl, O4⟩
          · obtain rfl : n = 2 := by omega
            rw [if_neg (by decide)] at hr2
            obtain rfl := hr2
            have hE2 : Hid (setF P.d t = setD P.d t) := hid (setF_on hR)
            go_enter Tryz.func88, Tryz.ntmps88
            go_wp2_with (first
              | (refine bx26 (by rfl) _ (by rfl) _ (by rfl) hs ?_
                 intro G0
                 have H1 := Py.bel H ((Below.refl _ w).alloc (Nat.le_refl _) (.cells t.cs 26)))
              | (go_at_call 83
                 (with_reducible refine (isThere_b H1).mono ?_)
                 rintro e w2 ⟨rfl, k2⟩
                 have H2 := Py.bel H1 k2.out
                 have G2 := hid (box_below G0.out k2.out)
                 have c8 := Py.cell (v := .bool false) H2 8 (by rw [← hh]; rfl))
              | (refine ld26 (by rfl) _ (by rfl) _ (by rfl) t.cs G2.out hs ?_)
              | (go_at_call 107
                 (with_reducible refine (right_any _ t ht).mono ?_)
                 rw [rightT_is, hR]
                 rintro e w3 ⟨rfl, k3⟩
                 have H3 := Py.bel H2 k3.out
                 have G3 := hid (box_below G2.out k3.out)
                 have c0 := Py.cell (v := .pointer (some ⟨p, 0, none⟩)) H3 0 rfl
                 obtain ⟨ho, c30h⟩ := Py.outc H3 hf.out.t
                 have c30 := c30h.out
                 rw [hq.out] at c30)
              | (refine ld26 (by rfl) _ (by rfl) _ (by rfl) t.cs G3.out hs ?_)
              | (go_at_call 70
                 (with_reducible refine (setp_any w3 p S P.d (Py.dat H3) hf t ht hE2 (hid (setE_on hR))).mono ?_)
                 rintro e w4 ⟨rfl, O4⟩
                 obtain ⟨S4, H4, -, -⟩ := Py.next H3 O4))
            go_ret
            exact ⟨rfl, Py.done H4⟩
        · rw [if_pos ⟨h1, hqe.out.2 hq0⟩] at hr2
          obtain rfl := hr2
          have hq1 : (q : Int) > 0 := by omega
          have hn3 : n = 2 ∨ n = 3 := by omega
          clear hn h1
          rcases hn3 with rfl | rfl
          · go_enter Tryz.func88, Tryz.ntmps88
            go_wp2_with (first
              | (refine bx26 (by rfl) _ (by rfl) _ (by rfl) hs ?_
                 intro G0
                 have H1 := Py.bel H ((Below.refl _ w).alloc (Nat.le_refl _) (.cells t.cs 26)))
              | (go_at_call 83
                 (with_reducible refine (isThere_b H1).mono ?_)
                 rintro e w2 ⟨rfl, k2⟩
                 have H2 := Py.bel H1 k2.out
                 have G2 := hid (box_below G0.out k2.out)
                 have c8 := Py.cell (v := .bool false) H2 8 (by rw [← hh]; rfl))
              | (refine ld26 (by rfl) _ (by rfl) _ (by rfl) t.cs G2.out hs ?_)
              | (go_at_call 107
                 (with_reducible refine (right_any _ t ht).mono ?_)
                 rw [rightT_is, hR]
                 rintro e w3 ⟨rfl, k3⟩
                 have H3 := Py.bel H2 k3.out
                 have G3 := hid (box_below G2.out k3.out)
                 have c0 := Py.cell (v := .pointer (some ⟨p, 0, none⟩)) H3 0 rfl
                 obtain ⟨ho, c30h⟩ := Py.outc H3 hf.out.t
                 have c30 := c30h.out
                 rw [hq.out] at c30))
            go_ret
            exact ⟨rfl, Py.done H3⟩
          · go_enter Tryz.func88, Tryz.ntmps88
            go_wp2_with (first
              | (refine bx26 (by rfl) _ (by rfl) _ (by rfl) hs ?_
                 intro G0
                 have H1 := Py.bel H ((Below.refl _ w).alloc (Nat.le_refl _) (.cells t.cs 26)))
              | (go_at_call 83
                 (with_reducible refine (isThere_b H1).mono ?_)
                 rintro e w2 ⟨rfl, k2⟩
                 have H2 := Py.bel H1 k2.out
                 have G2 := hid (box_below G0.out k2.out)
                 have c8 := Py.cell (v := .bool false) H2 8 (by rw [← hh]; rfl))
              | (refine ld26 (by rfl) _ (by rfl) _ (by rfl) t.cs G2.out hs ?_)
              | (go_at_call 107
                 (with_reducible refine (right_any _ t ht).mono ?_)
                 rw [rightT_is, hR]
                 rintro e w3 ⟨rfl, k3⟩
                 have H3 := Py.bel H2 k3.out
                 have G3 := hid (box_below G2.out k3.out)
                 have c0 := Py.cell (v := .pointer (some ⟨p, 0, none⟩)) H3 0 rfl
                 obtain ⟨ho, c30h⟩ := Py.outc H3 hf.out.t
                 have c30 := c30h.out
                 rw [hq.out] at c30))
            go_ret
            exact ⟨rfl, Py.done H3⟩
end
end Go.Proofs.YtggcampdkgfmgaaGreat
