import Derived.Test.YtggcampdkgfmgaaGreatJO
namespace Go.Proofs.YtggcampdkgfmgaaGreat
open Go.RowKit

/-! Layer 16: a byte taken; a line shown anew. -/
section
variable {w0 w : World} {p : Nat} {S0 S : Nat → Prop} {D : Ds} {h : Ph}
attribute [local go_sem ↓] wp_ldR ex_ldR

theorem mark_len (t : Tm) (c : UInt8) : (L9.markB t c).length ≤ 10 := by
  unfold L9.markB
  repeat' split
  all_goals simp

set_option maxRecDepth 100000 in
set_option maxHeartbeats 4000000 in
theorem take_d (H : Hid (Wy w0 p S0 w S D h)) (hf : Hid (FitN 3600 D)) (c : UInt8) {A : Option Addr} {n c2 : Nat} {b : List UInt8} (hn : Hid (b.length = n)) (hm : n ≤ 10) (hS : Hid (SlB w w.heap.size A c2 b)) {D' : Ds} (hr : Hid (takeD D c b = D')) :
    Calls Tryz.prog 97 #[.pointer (some ⟨p, 0, none⟩), .int .u8 (c.toNat : Int), .slice A n c2] w fun e w' => e = .returned (.tuple #[]) ∧ DOut w0 p S0 D' w' := by
  have ht := hf.out.t
  have h60 : Hid (hasN D.t.f 60 = D.has 60) := hid rfl
  cases hb : D.has 51
  · obtain ⟨rl, hrl⟩ : ∃ x, Hid (D.raw.length = x) := ⟨_, hid rfl⟩
    have hl2 : rl ≤ 13000 := by rw [← hrl.out]; exact hf.out.raw
    have hw : IntKind.i64.wrap (1024 - (rl : Int)) = 1024 - (rl : Int) := by rw [IntKind.wrap_i64]; omega
    by_cases hq : rl + n ≤ 1024
    · have hq2 : (n : Int) ≤ 1024 - (rl : Int) := by omega
      have hr2 : Hid (echoD { D with raw := D.raw ++ b } (showB (D.has 60) c) = D') := hid (by
        rw [← hr.out]
        unfold takeD
        rw [hb, if_pos rfl, hrl.out, hn.out, if_pos hq]
        rfl)
      have hf2 : Hid (FitN 3600 { D with raw := D.raw ++ b }) := hid (hf.out.raw_ (by rw [List.length_append, hrl.out, hn.out]; omega))
      go_enter Tryz.func97, Tryz.ntmps97
      go_wp2_with (first
        | (go_at_call 61
           (with_reducible refine (hasd_b H ht hb).mono ?_)
           rintro e w1 ⟨rfl, k1⟩
           have H1 := Wy.bel H k1.out
           have S1 := slb_at hS k1
           have c27 := Wy.cellW H1 ht 3 rfl w1 (Below.refl _ _)
           rw [hrl.out] at c27
           have Sx := S1
           have kx : Below (w1).heap.size (w1) ((w1).alloc (.cells #[.slice h.rA rl h.rc, .slice A n c2] 27)) := (Below.refl _ _).alloc (Nat.le_refl _) _
           have H2 := Wy.bel H1 kx
           have S2 := slb_up Sx kx
           have S3 := slb_up (Wy.rawS H1) kx
           have HX : Hid (Box ((w1).alloc (.cells #[.slice h.rA rl h.rc, .slice A n c2] 27)) w1.heap.size 27 #[.slice h.rA rl h.rc, .slice A n c2]) := hid (box_nw (by simp))
           clear kx)
        | (go_at_call 73
           (with_reducible refine (concat_new _ _ h.rA A rl n h.rc c2 D.raw b HX.out S3 S2 hrl hn (by omega) (hid rfl)).mono ?_)
           rintro e w3 ⟨A3, n3, c3, rfl, N3, O3, k3⟩
           have H3 := Wy.bel H2 k3.out
           have F3 := Wy.fresh (ne := D.raw ++ b ≠ []) H2 O3.out
           have zz := Wy.fz H3 27
           have cc := Wy.cellW H3 ht 3 rfl w3 (Below.refl _ _)
           have H4 := Wy.raw_ H3 ht N3 (slb_own N3 O3) F3)
        | (refine ldW (by rfl) _ (by rfl) p (by rfl) H4 ht ?_)
        | (go_at_call 126
           (with_reducible refine (L11.show_any _ ht c h60).mono ?_)
           rintro e ws ⟨As, ns, cs, rfl, Ns, Os, ks⟩
           have Hs := Wy.bel H4 ks.out
           have Ss := slb_own Ns Os
           have bs : ns ≤ 10 := by
             have h1 := (showB_len (D.has 60) c).2
             rw [Ns.out] at h1
             omega)
        | (go_at_call 125
           (with_reducible refine (echo_d Hs hf2 Ns (by omega) Ss hr2).mono ?_)
           rintro e we ⟨rfl, Ke⟩))
      go_end0
      exact ⟨rfl, Ke⟩
    · have hq2 : ¬ (n : Int) ≤ 1024 - (rl : Int) := by omega
      have hr2 : Hid (beepD D = D') := hid (by
        rw [← hr.out]
        unfold takeD
        rw [hb, if_pos rfl, hrl.out, hn.out, if_neg hq])
      go_enter Tryz.func97, Tryz.ntmps97
      go_wp2_with (first
        | (go_at_call 61
           (with_reducible refine (hasd_b H ht hb).mono ?_)
           rintro e w1 ⟨rfl, k1⟩
           have H1 := Wy.bel H k1.out
           have S1 := slb_at hS k1
           have c27 := Wy.cellW H1 ht 3 rfl w1 (Below.refl _ _)
           rw [hrl.out] at c27)
        | (go_at_call 124
           (with_reducible refine (beep_d H1 hf hr2).mono ?_)
           rintro e w4 ⟨rfl, K4⟩))
      refine bodyPost_ret (results_none rfl _ _ _) rfl ?_
      exact ⟨rfl, K4⟩
  · obtain ⟨ll, hll⟩ : ∃ x, Hid (D.line.length = x) := ⟨_, hid rfl⟩
    have hl2 : ll ≤ 13000 := by rw [← hll.out]; exact hf.out.line
    have hw : IntKind.i64.wrap (254 - (ll : Int)) = 254 - (ll : Int) := by rw [IntKind.wrap_i64]; omega
    by_cases hq : ll + n ≤ 254
    · have hq2 : (n : Int) ≤ 254 - (ll : Int) := by omega
      by_cases h0 : ll = 0
      · subst h0
        have hl0 : D.line = [] := List.eq_nil_of_length_eq_zero hll.out
        have hr2 : Hid (echoD { D with fr := D.col, line := D.line ++ b } (showB (D.has 60) c) = D') := hid (by
          rw [← hr.out]
          unfold takeD
          rw [hb, if_neg (by decide), hll.out, hn.out, if_pos hq, if_pos hl0]
          rfl)
        have hf2 : Hid (FitN 3600 { D with fr := D.col, line := D.line ++ b }) := hid ((hf.out.fr_).line_ (by rw [List.length_append, hll.out, hn.out]; omega))
        replace hl0 := hid hl0
        go_enter Tryz.func97, Tryz.ntmps97
        go_wp2_with (first
          | (go_at_call 61
             (with_reducible refine (hasd_b H ht hb).mono ?_)
             rintro e w1 ⟨rfl, k1⟩
             have H1 := Wy.bel H k1.out
             have S1 := slb_at hS k1
             have c24 := Wy.cellW H1 ht 0 rfl w1 (Below.refl _ _)
             rw [hll.out] at c24
             have c31 := Wy.cellW H1 ht 7 rfl w1 (Below.refl _ _)
             have c32 := Wy.cellW H1 ht 8 rfl w1 (Below.refl _ _)
             have z32 := Wy.fz H1 32
             have Hy := Wy.fr_ H1 ht D.col
             have Sx := Wy.slbSet H1 ht 8 rfl (fun _ e => by cases e) S1 (.int .i64 D.col)
             have kx : Below (w1.setCell ⟨p, 32, none⟩ (.int .i64 D.col)).heap.size (w1.setCell ⟨p, 32, none⟩ (.int .i64 D.col)) ((w1.setCell ⟨p, 32, none⟩ (.int .i64 D.col)).alloc (.cells #[.slice h.lA 0 h.lc, .slice A n c2] 27)) := (Below.refl _ _).alloc (Nat.le_refl _) _
             have H2 := Wy.bel Hy kx
             have S2 := slb_up Sx kx
             have S3 := slb_up (Wy.lineS Hy) kx
             have HX : Hid (Box ((w1.setCell ⟨p, 32, none⟩ (.int .i64 D.col)).alloc (.cells #[.slice h.lA 0 h.lc, .slice A n c2] 27)) w1.heap.size 27 #[.slice h.lA 0 h.lc, .slice A n c2]) := hid (box_nw (by simp [World.setCell]))
             clear kx)
          | (go_at_call 73
             (with_reducible refine (concat_new _ _ h.lA A 0 n h.lc c2 D.line b HX.out S3 S2 hll hn (by omega) (hid rfl)).mono ?_)
             rintro e w3 ⟨A3, n3, c3, rfl, N3, O3, k3⟩
             have H3 := Wy.bel H2 k3.out
             have F3 := Wy.fresh (ne := D.line ++ b ≠ []) H2 O3.out
             have zz := Wy.fz H3 24
             have cc := Wy.cellW H3 ht 0 rfl w3 (Below.refl _ _)
             have H4 := Wy.line_ H3 ht N3 (slb_own N3 O3) F3)
          | (refine ldW (by rfl) _ (by rfl) p (by rfl) H4 ht ?_)
          | (go_at_call 126
             (with_reducible refine (L11.show_any _ ht c h60).mono ?_)
             rintro e ws ⟨As, ns, cs, rfl, Ns, Os, ks⟩
             have Hs := Wy.bel H4 ks.out
             have Ss := slb_own Ns Os
             have bs : ns ≤ 10 := by
               have h1 := (showB_len (D.has 60) c).2
               rw [Ns.out] at h1
               omega)
          | (go_at_call 125
             (with_reducible refine (echo_d Hs hf2 Ns (by omega) Ss hr2).mono ?_)
             rintro e we ⟨rfl, Ke⟩))
        go_end0
        exact ⟨rfl, Ke⟩
      · have h0i : ((ll : Int) == 0) = false := beq_eq_false_iff_ne.2 (by omega)
        have hr2 : Hid (echoD { D with line := D.line ++ b } (showB (D.has 60) c) = D') := hid (by
          rw [← hr.out]
          unfold takeD
          rw [hb, if_neg (by decide), hll.out, hn.out, if_pos hq, if_neg (by intro e; rw [e] at hll; exact h0 hll.out.symm)]
          rfl)
        have hf2 : Hid (FitN 3600 { D with line := D.line ++ b }) := hid (hf.out.line_ (by rw [List.length_append, hll.out, hn.out]; omega))
        go_enter Tryz.func97, Tryz.ntmps97
        go_wp2_with (first
          | (go_at_call 61
             (with_reducible refine (hasd_b H ht hb).mono ?_)
             rintro e w1 ⟨rfl, k1⟩
             have H1 := Wy.bel H k1.out
             have S1 := slb_at hS k1
             have c24 := Wy.cellW H1 ht 0 rfl w1 (Below.refl _ _)
             rw [hll.out] at c24
             have Sx := S1
             have kx : Below (w1).heap.size (w1) ((w1).alloc (.cells #[.slice h.lA ll h.lc, .slice A n c2] 27)) := (Below.refl _ _).alloc (Nat.le_refl _) _
             have H2 := Wy.bel H1 kx
             have S2 := slb_up Sx kx
             have S3 := slb_up (Wy.lineS H1) kx
             have HX : Hid (Box ((w1).alloc (.cells #[.slice h.lA ll h.lc, .slice A n c2] 27)) w1.heap.size 27 #[.slice h.lA ll h.lc, .slice A n c2]) := hid (box_nw (by simp))
             clear kx)
          | (go_at_call 73
             (with_reducible refine (concat_new _ _ h.lA A ll n h.lc c2 D.line b HX.out S3 S2 hll hn (by omega) (hid rfl)).mono ?_)
             rintro e w3 ⟨A3, n3, c3, rfl, N3, O3, k3⟩
             have H3 := Wy.bel H2 k3.out
             have F3 := Wy.fresh (ne := D.line ++ b ≠ []) H2 O3.out
             have zz := Wy.fz H3 24
             have cc := Wy.cellW H3 ht 0 rfl w3 (Below.refl _ _)
             have H4 := Wy.line_ H3 ht N3 (slb_own N3 O3) F3)
          | (refine ldW (by rfl) _ (by rfl) p (by rfl) H4 ht ?_)
          | (go_at_call 126
             (with_reducible refine (L11.show_any _ ht c h60).mono ?_)
             rintro e ws ⟨As, ns, cs, rfl, Ns, Os, ks⟩
             have Hs := Wy.bel H4 ks.out
             have Ss := slb_own Ns Os
             have bs : ns ≤ 10 := by
               have h1 := (showB_len (D.has 60) c).2
               rw [Ns.out] at h1
               omega)
          | (go_at_call 125
             (with_reducible refine (echo_d Hs hf2 Ns (by omega) Ss hr2).mono ?_)
             rintro e we ⟨rfl, Ke⟩))
        go_end0
        exact ⟨rfl, Ke⟩
    · have hq2 : ¬ (n : Int) ≤ 254 - (ll : Int) := by omega
      have hr2 : Hid (beepD D = D') := hid (by
        rw [← hr.out]
        unfold takeD
        rw [hb, if_neg (by decide), hll.out, hn.out, if_neg hq])
      go_enter Tryz.func97, Tryz.ntmps97
      go_wp2_with (first
        | (go_at_call 61
           (with_reducible refine (hasd_b H ht hb).mono ?_)
           rintro e w1 ⟨rfl, k1⟩
           have H1 := Wy.bel H k1.out
           have S1 := slb_at hS k1
           have c24 := Wy.cellW H1 ht 0 rfl w1 (Below.refl _ _)
           rw [hll.out] at c24)
        | (go_at_call 124
           (with_reducible refine (beep_d H1 hf hr2).mono ?_)
           rintro e w4 ⟨rfl, K4⟩))
      refine bodyPost_ret (results_none rfl _ _ _) rfl ?_
      exact ⟨rfl, K4⟩
set_option maxRecDepth 100000 in
theorem takeMarked_d (H : Hid (Wy w0 p S0 w S D h)) (hf : Hid (FitN 3600 D)) (c : UInt8) {D' : Ds} (hr : Hid (takeD D c (L9.markB D.t c) = D')) :
    Calls Tryz.prog 130 #[.pointer (some ⟨p, 0, none⟩), .int .u8 (c.toNat : Int)] w fun e w' => e = .returned (.tuple #[]) ∧ DOut w0 p S0 D' w' := by
  have ht := hf.out.t
  go_enter Tryz.func130, Tryz.ntmps130
  go_wp2_with (first
    | (refine ldW (by rfl) _ (by rfl) p (by rfl) H ht ?_)
    | (go_at_call 67
       (with_reducible refine (L9.mark_any _ D.t ht c).mono ?_)
       rintro e w1 ⟨A1, n1, c1, rfl, N1, S1, k1⟩
       have H1 := Wy.bel H k1.out
       have b1 : n1 ≤ 10 := by
         have h1 := mark_len D.t c
         rw [N1.out] at h1
         exact h1)
    | (go_at_call 97
       (with_reducible refine (take_d H1 hf c N1 b1 S1 hr).mono ?_)
       rintro e w2 ⟨rfl, K2⟩))
  go_end0
  exact ⟨rfl, K2⟩

end
end Go.Proofs.YtggcampdkgfmgaaGreat
namespace Go.Proofs.YtggcampdkgfmgaaGreat
open Go.RowKit

/-! Layer 16: a line shown anew. -/
section
variable {w0 w : World} {p : Nat} {S0 S : Nat → Prop} {D : Ds} {h : Ph}
attribute [local go_sem ↓] wp_ldR ex_ldR

set_option maxRecDepth 100000 in
set_option maxHeartbeats 4000000 in
theorem reprint_d (H : Hid (Wy w0 p S0 w S D h)) (hf : Hid (FitN 3600 D)) (c : UInt8) {D' : Ds} (hr : Hid (againD D c = D')) :
    Calls Tryz.prog 164 #[.pointer (some ⟨p, 0, none⟩), .int .u8 (c.toNat : Int)] w fun e w' => e = .returned (.tuple #[]) ∧ DOut w0 p S0 D' w' := by
  have ht := hf.out.t
  have h60 : Hid (hasN D.t.f 60 = D.has 60) := hid rfl
  obtain ⟨E, hE⟩ : ∃ E, Hid (echoD D (showB (D.has 60) c ++ [10]) = E) := ⟨_, hid rfl⟩
  have hr2 : Hid (echoD { E with fr := E.col } (lineB (D.has 60) D.line) = D') := hid (by rw [← hr.out, ← hE.out]; rfl)
  have hfE : Hid (FitN 3600 E) := hid (by rw [← hE.out]; exact hf.out.echo _)
  have hf2 : Hid (FitN 3600 { E with fr := E.col }) := hid hfE.out.fr_
  have htE := hfE.out.t
  have h60E : Hid (hasN E.t.f 60 = D.has 60) := hid (by rw [← hE.out, (echoD_t _ _).1]; rfl)
  obtain ⟨ll, hll⟩ : ∃ x, Hid (E.line.length = x) := ⟨_, hid rfl⟩
  have hl2 : ll ≤ 13000 := by rw [← hll.out]; exact hfE.out.line
  have hle : E.line = D.line := by rw [← hE.out]; exact (echoD_t _ _).2.2.1
  replace hle := hid hle
  clear hr
  go_enter Tryz.func164, Tryz.ntmps164
  go_wp2_with (first
    | (refine ldW (by rfl) _ (by rfl) p (by rfl) H ht ?_)
    | (go_at_call 126
       (with_reducible refine (L11.show_any _ ht c h60).mono ?_)
       rintro e w1 ⟨As, ns, cs, rfl, Ns, Os, ks⟩
       have b1 : ns ≤ 10 := by
         have h1 := (showB_len (D.has 60) c).2
         rw [Ns.out] at h1
         omega
       have kx : Below w1.heap.size w1 (w1.alloc (.cells #[.int .u8 10] 5)) := (Below.refl _ _).alloc (Nat.le_refl _) _
       have hz : w.heap.size ≤ (w1.alloc (.cells #[.int .u8 10] 5)).heap.size := Nat.le_trans ks.out.size kx.size
       have ky : Below w.heap.size w (w1.alloc (.cells #[.int .u8 10] 5)) := ks.out.trans (kx.mono ks.out.size)
       have O1 : Hid ((w1.alloc (.cells #[.int .u8 10] 5)).ownsRow w.heap.size 5 1 (.slice As ns cs) ns (bv (showB (D.has 60) c))) := hid (own_keep Os.out kx)
       have S1 : Hid (SlB (w1.alloc (.cells #[.int .u8 10] 5)) (w1.alloc (.cells #[.int .u8 10] 5)).heap.size (some ⟨w1.heap.size, 0, none⟩) 1 [10]) := hid (slb_lit w1 [10] 1 #[.int .u8 10] rfl rfl (by decide)))
    | (at_builtin
       (refine app_own (w1.alloc (.cells #[.int .u8 10] 5)) (by rfl) (.tmp 10) (.tmp 11) rfl w.heap.size ns cs As (showB (D.has 60) c) rfl O1 hz (some ⟨w1.heap.size, 0, none⟩) 1 1 [10] rfl S1 rfl (by omega) ?_)
       intro A3 c3 u1 O2 k2
       have H2 := Wy.bel H (ky.trans (k2.out.below hz))
       have N2 : Hid ((showB (D.has 60) c ++ [10]).length = ns + 1) := hid (by rw [List.length_append, Ns.out]; rfl)
       have S2 := slb_own N2 O2)
    | (go_at_call 125
       (with_reducible refine (echo_d H2 hf N2 (by omega) S2 hE).mono ?_)
       rintro e w4 ⟨rfl, K4⟩
       obtain ⟨S4, h4, H4⟩ := Wy.from K4
       have c31 := Wy.cellW H4 htE 7 rfl w4 (Below.refl _ _)
       have z32 := Wy.fz H4 32
       have c32 := Wy.cellW H4 htE 8 rfl w4 (Below.refl _ _)
       have H5 := Wy.fr_ H4 htE E.col))
  have H6 := Wy.bel H5 (bel_dr (Below.refl _ _))
  have x0 := Wy.tm H6 htE _ (Below.refl _ _)
  have x1 := x0.1
  have x2 := x0.2
  have x3 := Wy.cellW H6 htE 0 rfl _ (Below.refl _ _)
  have L6 := Wy.lineS H6
  change Hid (SlB _ _ _ _ E.line) at L6
  rw [hle.out] at L6
  have hll2 : Hid (D.line.length = ll) := hid (by rw [← hle.out]; exact hll.out)
  change World.cell? _ _ = some (.slice _ E.line.length _) at x3
  rw [hll.out] at x3
  generalize World.setCell w4 _ _ = w5 at H5 H6 x0 x1 x2 x3 L6 ⊢
  clear x0
  go_region_law (first
  | (go_simp
     go_at_call 185
     (with_reducible refine (L11.line_any _ htE h4.lA ll h4.lc D.line h60E L6 hll2.out (by omega)).mono ?_)
     rintro e w7 ⟨A7, n7, c7, rfl, N7, O7, k7⟩
     have b7 : n7 ≤ 400000 := by
       have h1 := (lineB_len (D.has 60) D.line).2
       rw [N7.out, hll2.out] at h1
       omega
     have H7 := Wy.bel H6 k7.out
     have S7 := slb_own N7 O7)
  | (go_simp
     go_at_call 125
     (with_reducible refine (echo_d H7 hf2 N7 (by omega) S7 hr2).mono ?_)
     rintro e we ⟨rfl, Ke⟩))
  all_goals
    go_wp2_with fail
    go_end0
    exact ⟨rfl, Ke⟩

end
end Go.Proofs.YtggcampdkgfmgaaGreat
