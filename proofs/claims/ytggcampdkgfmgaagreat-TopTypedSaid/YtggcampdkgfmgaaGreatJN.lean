import Derived.Test.YtggcampdkgfmgaaGreatJM
namespace Go.Proofs.YtggcampdkgfmgaaGreat
open Go.RowKit

/-! Layer 16: what is taken off the line. -/
section
variable {w0 w : World} {p : Nat} {S0 S : Nat → Prop} {D : Ds} {h : Ph}
theorem echoD_t (D : Ds) (b : List UInt8) : (echoD D b).t = D.t ∧ (echoD D b).fr = D.fr ∧ (echoD D b).line = D.line ∧ (echoD D b).ls = D.ls ∧ (echoD D b).raw = D.raw ∧ (echoD D b).nx = D.nx ∧ (echoD D b).s = D.s ∧ (echoD D b).h = D.h ∧ (echoD D b).idle = D.idle := by
  unfold echoD
  split
  · unfold showD
    split <;> exact ⟨rfl, rfl, rfl, rfl, rfl, rfl, rfl, rfl, rfl⟩
  · exact ⟨rfl, rfl, rfl, rfl, rfl, rfl, rfl, rfl, rfl⟩
attribute [local go_sem ↓] wp_ldR ex_ldR

set_option maxRecDepth 100000 in
set_option maxHeartbeats 2000000 in
theorem shorten_d (H : Hid (Wy w0 p S0 w S D h)) (hf : Hid (FitN 3600 D)) (c : UInt8) {A1 A2 : Option Addr} {n1 c1 n2 c2 : Nat} {rest gone : List UInt8} (N1 : Hid (rest.length = n1)) (S1 : Hid (SlB w w.heap.size A1 c1 rest)) (F1 : Fr w0 p S A1 (rest ≠ [])) (N2 : Hid (gone.length = n2)) (S2 : Hid (SlB w w.heap.size A2 c2 gone)) (m1 : n1 ≤ 13000) (m2 : n2 ≤ 13000) {D' : Ds} (hr : Hid (goneD D c rest gone = D')) :
    Calls Tryz.prog 182 #[.pointer (some ⟨p, 0, none⟩), .int .u8 (c.toNat : Int), .slice A1 n1 c1, .slice A2 n2 c2] w fun e w' => e = .returned (.tuple #[]) ∧ DOut w0 p S0 D' w' := by
  have ht := hf.out.t
  by_cases h0 : n2 = 0
  · subst h0
    obtain rfl : gone = [] := List.eq_nil_of_length_eq_zero N2.out
    obtain rfl : D = D' := by
      rw [← hr.out]
      unfold goneD
      rw [if_pos rfl]
    go_enter Tryz.func182, Tryz.ntmps182
    go_wp2_with fail
    refine bodyPost_ret (results_none rfl _ _ _) rfl ?_
    exact ⟨rfl, Wy.left H⟩
  · have hne : gone ≠ [] := by
      rintro rfl
      exact h0 N2.out.symm
    have h0i : ((n2 : Int) == 0) = false := beq_eq_false_iff_ne.2 (by omega)
    have h60 : Hid (hasN D.t.f 60 = D.has 60) := hid rfl
    have h42 : Hid (hasN D.t.f 42 = D.has 42) := hid rfl
    have hf2 : Hid (FitN 3600 { D with line := rest }) := hid (hf.out.line_ (by rw [N1.out]; exact m1))
    have z24 := Wy.fz H 24
    have c24 := Wy.cellW H ht 0 rfl w (Below.refl _ _)
    have H2 := Wy.line_ H ht N1 S1 F1
    have R1 := Wy.slbSet H ht 0 rfl (fun _ e => by cases e) S1 (.slice A1 n1 c1)
    have R2 := Wy.slbSet H ht 0 rfl (fun _ e => by cases e) S2 (.slice A1 n1 c1)
    cases hb : D.has 54
    · have hb1 : ({ D with line := rest } : Ds).has 54 = false := hb
      have hr2 : Hid (echoD { D with line := rest } (showB (D.has 60) c) = D') := hid (by
        rw [← hr.out]
        unfold goneD
        rw [if_neg hne, hb, if_neg (by decide)]
        rfl)
      go_enter Tryz.func182, Tryz.ntmps182
      go_wp2_with (first
        | (go_at_call 61
           (with_reducible refine (hasd_b H2 ht hb1).mono ?_)
           rintro e w3 ⟨rfl, k3⟩
           have H3 := Wy.bel H2 k3.out)
        | (refine ldW (by rfl) _ (by rfl) p (by rfl) H3 ht ?_)
        | (go_at_call 126
           (with_reducible refine (L11.show_any _ ht c h60).mono ?_)
           rintro e ws ⟨As, ns, cs, rfl, Ns, Os, ks⟩
           have Hs := Wy.bel H3 ks.out
           have Ss := slb_own Ns Os
           have bs : ns ≤ 10 := by
             have h1 := (showB_len (D.has 60) c).2
             rw [Ns.out] at h1
             omega)
        | (go_at_call 125
           (with_reducible refine (echo_d Hs hf2 Ns (by omega) Ss hr2).mono ?_)
           rintro e we ⟨rfl, Ke⟩))
      go_end0
      exact ⟨rfl, Ke⟩
    · have hb1 : ({ D with line := rest } : Ds).has 54 = true := hb
      have hr2 : Hid (echoD { D with line := rest } (rubB (D.has 60) (D.has 42) (nrm D.fr) rest gone) = D') := hid (by
        rw [← hr.out]
        unfold goneD
        rw [if_neg hne, hb, if_pos rfl])
      go_enter Tryz.func182, Tryz.ntmps182
      go_wp2_with (first
        | (go_at_call 61
           (with_reducible refine (hasd_b H2 ht hb1).mono ?_)
           rintro e w3 ⟨rfl, k3⟩
           have H3 := Wy.bel H2 k3.out
           have H3d := Wy.bel H3 (bel_dr (Below.refl _ w3))
           have x0 := Wy.tm H3d ht w3.drew (Below.refl _ _)
           have x1 := x0.1
           have x2 := x0.2
           have x3 := Wy.cellW H3d ht 8 rfl w3.drew (Below.refl _ _)
           have R3 := slb_up (slb_at R1 k3) (bel_dr (Below.refl _ w3))
           have R4 := slb_up (slb_at R2 k3) (bel_dr (Below.refl _ w3))
           clear x0))
      go_region_law (first
      | (go_simp
         go_at_call 184
         (with_reducible refine (L11.rub_any _ ht D.fr A1 A2 n1 n2 c1 c2 rest gone h60 h42 R3 R4 N1 N2 (by omega)).mono ?_)
         rintro e w5 ⟨q5, n5, rfl, N5, S5, k5⟩
         have b5 : n5 ≤ 400000 := by
           have h1 := rubB_len (D.has 60) (D.has 42) (nrm D.fr) rest gone
           rw [N5.out, N2.out] at h1
           omega
         have H5 := Wy.bel H3d k5.out)
      | (go_simp
         go_at_call 125
         (with_reducible refine (echo_d H5 hf2 N5 (by omega) S5 hr2).mono ?_)
         rintro e we ⟨rfl, Ke⟩))
      all_goals
        go_wp2_with fail
        refine bodyPost_ret (results_none rfl _ _ _) rfl ?_
        exact ⟨rfl, Ke⟩

theorem eraB_le (u : Bool) (l : List UInt8) : (L10.eraB u l).length ≤ l.length := by unfold L10.eraB; simp
theorem goneL_le (u : Bool) (l : List UInt8) : (L10.goneL u l).length ≤ l.length := by unfold L10.goneL; simp

set_option maxRecDepth 100000 in
set_option maxHeartbeats 2000000 in
theorem erase_d (H : Hid (Wy w0 p S0 w S D h)) (hf : Hid (FitN 3600 D)) (c : UInt8) {D' : Ds} (hr : Hid (goneD D c (L10.eraA (D.has 42) D.line) (L10.eraB (D.has 42) D.line) = D')) :
    Calls Tryz.prog 161 #[.pointer (some ⟨p, 0, none⟩), .int .u8 (c.toNat : Int)] w fun e w' => e = .returned (.tuple #[]) ∧ DOut w0 p S0 D' w' := by
  have ht := hf.out.t
  have h42 : Hid (hasN D.t.f 42 = D.has 42) := hid rfl
  obtain ⟨ll, hll⟩ : ∃ x, Hid (D.line.length = x) := ⟨_, hid rfl⟩
  have hl2 : ll ≤ 13000 := by rw [← hll.out]; exact hf.out.line
  have m1 : (L10.eraA (D.has 42) D.line).length ≤ 13000 := by
    have := eraA_le (D.has 42) D.line
    rw [hll.out] at this
    omega
  have m2 : (L10.eraB (D.has 42) D.line).length ≤ 13000 := by
    have := eraB_le (D.has 42) D.line
    rw [hll.out] at this
    omega
  have LS := Wy.lineS H
  have bz : ∀ W, Below w.heap.size w W → isR W (.pointer (some ⟨p, 0, none⟩)) = true ∧ csR W (.pointer (some ⟨p, 0, none⟩)) = D.t.cs ∧ W.cell? ⟨p, 24, none⟩ = some (.slice h.lA ll h.lc) := by
    intro W k
    have h1 := Wy.cellW H ht 0 rfl W k
    rw [hll.out] at h1
    exact ⟨(Wy.tm H ht W k).1, (Wy.tm H ht W k).2, h1⟩
  go_enter Tryz.func161, Tryz.ntmps161
  go_upto_region 0 with fail
  go_cut [4, 5] (fun a b wx => ∃ A1 n1 c1 A2 n2 c2, a = .slice A1 n1 c1 ∧ b = .slice A2 n2 c2 ∧ Hid ((L10.eraA (D.has 42) D.line).length = n1) ∧ Hid ((L10.eraB (D.has 42) D.line).length = n2) ∧ Hid (SlB wx wx.heap.size A1 c1 (L10.eraA (D.has 42) D.line)) ∧ Hid (SlB wx wx.heap.size A2 c2 (L10.eraB (D.has 42) D.line)) ∧ Hid (Fr w0 p S A1 (L10.eraA (D.has 42) D.line ≠ [])) ∧ Hid (Wy w0 p S0 wx S D h))
  case first =>
    go_region_held3 (fun W => isR W (.pointer (some ⟨p, 0, none⟩)) = true ∧ csR W (.pointer (some ⟨p, 0, none⟩)) = D.t.cs ∧ W.cell? ⟨p, 24, none⟩ = some (.slice h.lA ll h.lc)) (exact bz _ (by repeat (first | exact Below.refl _ _ | exact b2 | with_reducible apply bel_dr | with_reducible apply bel_al))) ((first
      | (go_at_call 181
         (with_reducible refine (L10.erase_any _ D.t ht h.lA ll h.lc D.line h42 (slb_up LS (by repeat (first | exact Below.refl _ _ | with_reducible apply bel_dr | with_reducible apply bel_al))) hll.out (by omega)).mono ?_)
         rintro e w2 ⟨A1, n1, c1, A2, n2, c2, rfl, N1, N2, O1, O2, k2⟩
         have b2 : Below w.heap.size w w2 := bel_via k2 (by repeat (first | exact Below.refl _ _ | with_reducible apply bel_dr | with_reducible apply bel_al)))))
    all_goals
      go_wp2_with fail
      go_meet
      exact ⟨A1, n1, c1, A2, n2, c2, rfl, rfl, N1, N2, slb_own N1 O1, slb_own N2 O2, hid (Wy.fresh (Wy.bel H (by repeat (first | exact Below.refl _ _ | with_reducible apply bel_dr | with_reducible apply bel_al))) O1.out), Wy.bel H b2⟩
  case rest =>
  obtain ⟨A1, n1, c1, A2, n2, c2, rfl, rfl, N1, N2, S1, S2, F1, H2⟩ := hcut
  have m3 : n1 ≤ 13000 := by rw [← N1.out]; exact m1
  have m4 : n2 ≤ 13000 := by rw [← N2.out]; exact m2
  go_wp2_with (first
    | (go_at_call 182
       (with_reducible refine (shorten_d H2 hf c N1 S1 F1.out N2 S2 m3 m4 hr).mono ?_)
       rintro e w3 ⟨rfl, K3⟩))
  go_end0
  exact ⟨rfl, K3⟩

set_option maxRecDepth 100000 in
set_option maxHeartbeats 2000000 in
theorem eraseWord_d (H : Hid (Wy w0 p S0 w S D h)) (hf : Hid (FitN 3600 D)) (c : UInt8) {D' : Ds} (hr : Hid (goneD D c (L10.restL (D.has 42) D.line) (L10.goneL (D.has 42) D.line) = D')) :
    Calls Tryz.prog 162 #[.pointer (some ⟨p, 0, none⟩), .int .u8 (c.toNat : Int)] w fun e w' => e = .returned (.tuple #[]) ∧ DOut w0 p S0 D' w' := by
  have ht := hf.out.t
  have h42 : Hid (hasN D.t.f 42 = D.has 42) := hid rfl
  obtain ⟨ll, hll⟩ : ∃ x, Hid (D.line.length = x) := ⟨_, hid rfl⟩
  have hl2 : ll ≤ 13000 := by rw [← hll.out]; exact hf.out.line
  have m1 : (L10.restL (D.has 42) D.line).length ≤ 13000 := by
    have := restL_le (D.has 42) D.line
    rw [hll.out] at this
    omega
  have m2 : (L10.goneL (D.has 42) D.line).length ≤ 13000 := by
    have := goneL_le (D.has 42) D.line
    rw [hll.out] at this
    omega
  have LS := Wy.lineS H
  have bz : ∀ W, Below w.heap.size w W → isR W (.pointer (some ⟨p, 0, none⟩)) = true ∧ csR W (.pointer (some ⟨p, 0, none⟩)) = D.t.cs ∧ W.cell? ⟨p, 24, none⟩ = some (.slice h.lA ll h.lc) := by
    intro W k
    have h1 := Wy.cellW H ht 0 rfl W k
    rw [hll.out] at h1
    exact ⟨(Wy.tm H ht W k).1, (Wy.tm H ht W k).2, h1⟩
  go_enter Tryz.func162, Tryz.ntmps162
  go_upto_region 0 with fail
  go_cut [4, 5] (fun a b wx => ∃ A1 n1 c1 A2 n2 c2, a = .slice A1 n1 c1 ∧ b = .slice A2 n2 c2 ∧ Hid ((L10.restL (D.has 42) D.line).length = n1) ∧ Hid ((L10.goneL (D.has 42) D.line).length = n2) ∧ Hid (SlB wx wx.heap.size A1 c1 (L10.restL (D.has 42) D.line)) ∧ Hid (SlB wx wx.heap.size A2 c2 (L10.goneL (D.has 42) D.line)) ∧ Hid (Fr w0 p S A1 (L10.restL (D.has 42) D.line ≠ [])) ∧ Hid (Wy w0 p S0 wx S D h))
  case first =>
    go_region_held3 (fun W => isR W (.pointer (some ⟨p, 0, none⟩)) = true ∧ csR W (.pointer (some ⟨p, 0, none⟩)) = D.t.cs ∧ W.cell? ⟨p, 24, none⟩ = some (.slice h.lA ll h.lc)) (exact bz _ (by repeat (first | exact Below.refl _ _ | exact b2 | with_reducible apply bel_dr | with_reducible apply bel_al))) ((first
      | (go_at_call 183
         (with_reducible refine (L10.word_any _ D.t ht h.lA ll h.lc D.line h42 (slb_up LS (by repeat (first | exact Below.refl _ _ | with_reducible apply bel_dr | with_reducible apply bel_al))) hll.out (by omega)).mono ?_)
         rintro e w2 ⟨A1, n1, c1, A2, n2, c2, rfl, N1, N2, O1, O2, k2⟩
         have b2 : Below w.heap.size w w2 := bel_via k2 (by repeat (first | exact Below.refl _ _ | with_reducible apply bel_dr | with_reducible apply bel_al)))))
    all_goals
      go_wp2_with fail
      go_meet
      exact ⟨A1, n1, c1, A2, n2, c2, rfl, rfl, N1, N2, slb_own N1 O1, slb_own N2 O2, hid (Wy.fresh (Wy.bel H (by repeat (first | exact Below.refl _ _ | with_reducible apply bel_dr | with_reducible apply bel_al))) O1.out), Wy.bel H b2⟩
  case rest =>
  obtain ⟨A1, n1, c1, A2, n2, c2, rfl, rfl, N1, N2, S1, S2, F1, H2⟩ := hcut
  have m3 : n1 ≤ 13000 := by rw [← N1.out]; exact m1
  have m4 : n2 ≤ 13000 := by rw [← N2.out]; exact m2
  go_wp2_with (first
    | (go_at_call 182
       (with_reducible refine (shorten_d H2 hf c N1 S1 F1.out N2 S2 m3 m4 hr).mono ?_)
       rintro e w3 ⟨rfl, K3⟩))
  go_end0
  exact ⟨rfl, K3⟩

end
end Go.Proofs.YtggcampdkgfmgaaGreat
namespace Go.Proofs.YtggcampdkgfmgaaGreat
open Go.RowKit

/-! Layer 16: the line killed, and shown anew. -/
section
variable {w0 w : World} {p : Nat} {S0 S : Nat → Prop} {D : Ds} {h : Ph}
attribute [local go_sem ↓] wp_ldR ex_ldR
theorem echoD_has (D : Ds) (b : List UInt8) (op : Int) : (echoD D b).has op = D.has op := by
  unfold Ds.has
  rw [(echoD_t D b).1]

set_option maxRecDepth 100000 in
set_option maxHeartbeats 2000000 in
theorem kill_d (H : Hid (Wy w0 p S0 w S D h)) (hf : Hid (FitN 3600 D)) (c : UInt8) {D' : Ds} (hr : Hid (killD D c = D')) :
    Calls Tryz.prog 163 #[.pointer (some ⟨p, 0, none⟩), .int .u8 (c.toNat : Int)] w fun e w' => e = .returned (.tuple #[]) ∧ DOut w0 p S0 D' w' := by
  have ht := hf.out.t
  have h60 : Hid (hasN D.t.f 60 = D.has 60) := hid rfl
  have h42 : Hid (hasN D.t.f 42 = D.has 42) := hid rfl
  obtain ⟨ll, hll⟩ : ∃ x, Hid (D.line.length = x) := ⟨_, hid rfl⟩
  have hl2 : ll ≤ 13000 := by rw [← hll.out]; exact hf.out.line
  have hf1 : Hid (FitN 3600 { D with line := [] }) := hid (hf.out.line_ (by simp))
  have z24 := Wy.fz H 24
  have c24 := Wy.cellW H ht 0 rfl w (Below.refl _ _)
  rw [hll.out] at c24
  have H1 := Wy.line_ H ht (l := []) (n := 0) (hid rfl) (slb_nil0 w) Fr.none_
  have R1 := Wy.slbSet H ht 0 rfl (fun _ e => by cases e) (Wy.lineS H) (.slice none 0 0)
  cases hb : D.has 54
  · have hb1 : ({ D with line := [] } : Ds).has 54 = false := hb
    cases h5 : D.has 55
    · have hd1 : ({ D with line := [] } : Ds).has 55 = false := h5
      have hr2 : Hid (echoD { D with line := [] } (showB (D.has 60) c) = D') := hid (by
        rw [← hr.out]
        unfold killD
        rw [hb, if_neg (by simp), if_neg (by rw [h5]; decide), List.append_nil]
        rfl)
      go_enter Tryz.func163, Tryz.ntmps163
      go_wp2_with (first
        | (go_at_call 61
           (with_reducible refine (hasd_b H1 ht hb1).mono ?_)
           rintro e w3 ⟨rfl, k3⟩
           have H4 := Wy.bel H1 k3.out)
        | (refine ldW (by rfl) _ (by rfl) p (by rfl) H4 ht ?_)
        | (go_at_call 126
           (with_reducible refine (L11.show_any _ ht c h60).mono ?_)
           rintro e ws ⟨As, ns, cs, rfl, Ns, Os, ks⟩
           have Hs := Wy.bel H4 ks.out
           have Ss := slb_own Ns Os
           have bs : ns ≤ 10 := by
             have h1 := (showB_len (D.has 60) c).2
             rw [Ns.out] at h1
             omega)
        | (go_at_call 61
           (with_reducible refine (hasd_b Hs ht hd1).mono ?_)
           rintro e w7 ⟨rfl, k7⟩
           have H7 := Wy.bel Hs k7.out
           have S7 := slb_at Ss k7)
        | (go_at_call 125
           (with_reducible refine (echo_d H7 hf1 Ns (by omega) S7 hr2).mono ?_)
           rintro e we ⟨rfl, Ke⟩))
      go_end0
      exact ⟨rfl, Ke⟩
    · have hd1 : ({ D with line := [] } : Ds).has 55 = true := h5
      have hr2 : Hid (echoD { D with line := [] } (showB (D.has 60) c ++ [10]) = D') := hid (by
        rw [← hr.out]
        unfold killD
        rw [hb, if_neg (by simp), if_pos h5]
        rfl)
      go_enter Tryz.func163, Tryz.ntmps163
      go_wp2_with (first
        | (go_at_call 61
           (with_reducible refine (hasd_b H1 ht hb1).mono ?_)
           rintro e w3 ⟨rfl, k3⟩
           have H4 := Wy.bel H1 k3.out)
        | (refine ldW (by rfl) _ (by rfl) p (by rfl) H4 ht ?_)
        | (go_at_call 126
           (with_reducible refine (L11.show_any _ ht c h60).mono ?_)
           rintro e ws ⟨As, ns, cs, rfl, Ns, Os, ks⟩
           have Hs := Wy.bel H4 ks.out
           have Ss := slb_own Ns Os
           have bs : ns ≤ 10 := by
             have h1 := (showB_len (D.has 60) c).2
             rw [Ns.out] at h1
             omega)
        | (go_at_call 61
           (with_reducible refine (hasd_b Hs ht hd1).mono ?_)
           rintro e w7 ⟨rfl, k7⟩
           have H7 := Wy.bel Hs k7.out
           have kx : Below w7.heap.size w7 (w7.alloc (.cells #[.int .u8 10] 5)) := (Below.refl _ _).alloc (Nat.le_refl _) _
           have hz : w3.heap.size ≤ (w7.alloc (.cells #[.int .u8 10] 5)).heap.size := Nat.le_trans ks.out.size (Nat.le_trans k7.out.size kx.size)
           have H8 := Wy.bel H7 kx
           have ky : Below w3.heap.size w3 (w7.alloc (.cells #[.int .u8 10] 5)) := (ks.out.trans (k7.out.mono ks.out.size)).trans (kx.mono (Nat.le_trans ks.out.size k7.out.size))
           have O1 : Hid ((w7.alloc (.cells #[.int .u8 10] 5)).ownsRow w3.heap.size 5 1 (.slice As ns cs) ns (bv (showB (D.has 60) c))) := hid (own_keep (own_keep Os.out k7.out) kx)
           have S1 : Hid (SlB (w7.alloc (.cells #[.int .u8 10] 5)) (w7.alloc (.cells #[.int .u8 10] 5)).heap.size (some ⟨w7.heap.size, 0, none⟩) 1 [10]) := hid (slb_lit w7 [10] 1 #[.int .u8 10] rfl rfl (by decide)))
        | (at_builtin
           (refine app_own (w7.alloc (.cells #[.int .u8 10] 5)) (by rfl) (.tmp 39) (.tmp 40) rfl w3.heap.size ns cs As (showB (D.has 60) c) rfl O1 hz (some ⟨w7.heap.size, 0, none⟩) 1 1 [10] rfl S1 rfl (by omega) ?_)
           intro A3 c3 u1 O2 k2
           have H9 := Wy.bel H4 (ky.trans (k2.out.below hz))
           have N2 : Hid ((showB (D.has 60) c ++ [10]).length = ns + 1) := hid (by rw [List.length_append, Ns.out]; rfl)
           have S2 := slb_own N2 O2)
        | (go_at_call 125
           (with_reducible refine (echo_d H9 hf1 N2 (by omega) S2 hr2).mono ?_)
           rintro e we ⟨rfl, Ke⟩))
      go_end0
      exact ⟨rfl, Ke⟩
  · have hb1 : ({ D with line := [] } : Ds).has 54 = true := hb
    cases hc : D.has 61
    · have hc1 : ({ D with line := [] } : Ds).has 61 = false := hc
      cases h5 : D.has 55
      · have hd1 : ({ D with line := [] } : Ds).has 55 = false := h5
        have hr2 : Hid (echoD { D with line := [] } (showB (D.has 60) c) = D') := hid (by
          rw [← hr.out]
          unfold killD
          rw [hb, hc, if_neg (by simp), if_neg (by rw [h5]; decide), List.append_nil]
          rfl)
        go_enter Tryz.func163, Tryz.ntmps163
        go_wp2_with (first
          | (go_at_call 61
             (with_reducible refine (hasd_b H1 ht hb1).mono ?_)
             rintro e w3 ⟨rfl, k3⟩
             have H4 := Wy.bel H1 k3.out)
          | (go_at_call 61
             (with_reducible refine (hasd_b H4 ht hc1).mono ?_)
             rintro e w4 ⟨rfl, k4⟩
             have H4 := Wy.bel H4 k4.out)
          | (refine ldW (by rfl) _ (by rfl) p (by rfl) H4 ht ?_)
          | (go_at_call 126
             (with_reducible refine (L11.show_any _ ht c h60).mono ?_)
             rintro e ws ⟨As, ns, cs, rfl, Ns, Os, ks⟩
             have Hs := Wy.bel H4 ks.out
             have Ss := slb_own Ns Os
             have bs : ns ≤ 10 := by
               have h1 := (showB_len (D.has 60) c).2
               rw [Ns.out] at h1
               omega)
          | (go_at_call 61
             (with_reducible refine (hasd_b Hs ht hd1).mono ?_)
             rintro e w7 ⟨rfl, k7⟩
             have H7 := Wy.bel Hs k7.out
             have S7 := slb_at Ss k7)
          | (go_at_call 125
             (with_reducible refine (echo_d H7 hf1 Ns (by omega) S7 hr2).mono ?_)
             rintro e we ⟨rfl, Ke⟩))
        go_end0
        exact ⟨rfl, Ke⟩
      · have hd1 : ({ D with line := [] } : Ds).has 55 = true := h5
        have hr2 : Hid (echoD { D with line := [] } (showB (D.has 60) c ++ [10]) = D') := hid (by
          rw [← hr.out]
          unfold killD
          rw [hb, hc, if_neg (by simp), if_pos h5]
          rfl)
        go_enter Tryz.func163, Tryz.ntmps163
        go_wp2_with (first
          | (go_at_call 61
             (with_reducible refine (hasd_b H1 ht hb1).mono ?_)
             rintro e w3 ⟨rfl, k3⟩
             have H4 := Wy.bel H1 k3.out)
          | (go_at_call 61
             (with_reducible refine (hasd_b H4 ht hc1).mono ?_)
             rintro e w4 ⟨rfl, k4⟩
             have H4 := Wy.bel H4 k4.out)
          | (refine ldW (by rfl) _ (by rfl) p (by rfl) H4 ht ?_)
          | (go_at_call 126
             (with_reducible refine (L11.show_any _ ht c h60).mono ?_)
             rintro e ws ⟨As, ns, cs, rfl, Ns, Os, ks⟩
             have Hs := Wy.bel H4 ks.out
             have Ss := slb_own Ns Os
             have bs : ns ≤ 10 := by
               have h1 := (showB_len (D.has 60) c).2
               rw [Ns.out] at h1
               omega)
          | (go_at_call 61
             (with_reducible refine (hasd_b Hs ht hd1).mono ?_)
             rintro e w7 ⟨rfl, k7⟩
             have H7 := Wy.bel Hs k7.out
             have kx : Below w7.heap.size w7 (w7.alloc (.cells #[.int .u8 10] 5)) := (Below.refl _ _).alloc (Nat.le_refl _) _
             have hz : w4.heap.size ≤ (w7.alloc (.cells #[.int .u8 10] 5)).heap.size := Nat.le_trans ks.out.size (Nat.le_trans k7.out.size kx.size)
             have H8 := Wy.bel H7 kx
             have ky : Below w4.heap.size w4 (w7.alloc (.cells #[.int .u8 10] 5)) := (ks.out.trans (k7.out.mono ks.out.size)).trans (kx.mono (Nat.le_trans ks.out.size k7.out.size))
             have O1 : Hid ((w7.alloc (.cells #[.int .u8 10] 5)).ownsRow w4.heap.size 5 1 (.slice As ns cs) ns (bv (showB (D.has 60) c))) := hid (own_keep (own_keep Os.out k7.out) kx)
             have S1 : Hid (SlB (w7.alloc (.cells #[.int .u8 10] 5)) (w7.alloc (.cells #[.int .u8 10] 5)).heap.size (some ⟨w7.heap.size, 0, none⟩) 1 [10]) := hid (slb_lit w7 [10] 1 #[.int .u8 10] rfl rfl (by decide)))
          | (at_builtin
             (refine app_own (w7.alloc (.cells #[.int .u8 10] 5)) (by rfl) (.tmp 39) (.tmp 40) rfl w4.heap.size ns cs As (showB (D.has 60) c) rfl O1 hz (some ⟨w7.heap.size, 0, none⟩) 1 1 [10] rfl S1 rfl (by omega) ?_)
             intro A3 c3 u1 O2 k2
             have H9 := Wy.bel H4 (ky.trans (k2.out.below hz))
             have N2 : Hid ((showB (D.has 60) c ++ [10]).length = ns + 1) := hid (by rw [List.length_append, Ns.out]; rfl)
             have S2 := slb_own N2 O2)
          | (go_at_call 125
             (with_reducible refine (echo_d H9 hf1 N2 (by omega) S2 hr2).mono ?_)
             rintro e we ⟨rfl, Ke⟩))
        go_end0
        exact ⟨rfl, Ke⟩
    · have hc1 : ({ D with line := [] } : Ds).has 61 = true := hc
      have hr2 : Hid (echoD { D with line := [] } (rubB (D.has 60) (D.has 42) (nrm D.fr) [] D.line) = D') := hid (by
        rw [← hr.out]
        unfold killD
        rw [hb, hc]
        exact (if_pos (by decide)).symm)
      go_enter Tryz.func163, Tryz.ntmps163
      go_wp2_with (first
        | (go_at_call 61
           (with_reducible refine (hasd_b H1 ht hb1).mono ?_)
           rintro e w3 ⟨rfl, k3⟩
           have H3 := Wy.bel H1 k3.out
           have R3 := slb_at R1 k3)
        | (go_at_call 61
           (with_reducible refine (hasd_b H3 ht hc1).mono ?_)
           rintro e w4 ⟨rfl, k4⟩
           have H4 := Wy.bel H3 k4.out
           have R4 := slb_at R3 k4
           have H3d := Wy.bel H4 (bel_dr (Below.refl _ w4))
           have x0 := Wy.tm H3d ht w4.drew (Below.refl _ _)
           have x1 := x0.1
           have x2 := x0.2
           have x3 := Wy.cellW H3d ht 8 rfl w4.drew (Below.refl _ _)
           have R5 := slb_up R4 (bel_dr (Below.refl _ w4))
           clear x0))
      go_region_law (first
      | (go_simp
         go_at_call 184
         (with_reducible refine (L11.rub_any _ ht D.fr none h.lA 0 ll 0 h.lc [] D.line h60 h42 (slb_nil0 _) R5 (hid rfl) hll (by omega)).mono ?_)
         rintro e w5 ⟨q5, n5, rfl, N5, S5, k5⟩
         have b5 : n5 ≤ 400000 := by
           have h1 := rubB_len (D.has 60) (D.has 42) (nrm D.fr) [] D.line
           rw [N5.out, hll.out] at h1
           omega
         have H5 := Wy.bel H3d k5.out)
      | (go_simp
         go_at_call 125
         (with_reducible refine (echo_d H5 hf1 N5 (by omega) S5 hr2).mono ?_)
         rintro e we ⟨rfl, Ke⟩))
      all_goals
        go_wp2_with fail
        refine bodyPost_ret (results_none rfl _ _ _) rfl ?_
        exact ⟨rfl, Ke⟩

end
end Go.Proofs.YtggcampdkgfmgaaGreat
