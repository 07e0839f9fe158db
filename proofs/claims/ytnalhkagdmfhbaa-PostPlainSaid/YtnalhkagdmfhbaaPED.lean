import Derived.Test.YtnalhkagdmfhbaaPEC
namespace Go.Proofs.Ytnalhkagdmfhbaa
open Go.RowKit

/-- A method of the pen has answered these bytes and stands at this column. -/
def RetW (w : World) (g : Nat) (t : Tm) (x : List UInt8) (M : Nat) (e : Ending) (w' : World) : Prop := ∃ A n c, e = .returned (.slice A n c) ∧ Hid (x.length = n) ∧ Hid (SlB w' w'.heap.size A c x) ∧ Hid (Pen w' g t M) ∧ Hid (Kept g [46] w w')
theorem retw_lit {w u : World} {g M : Nat} {t : Tm} {bs : List UInt8} {n g2 : Nat} {cs : Array Value} (hc : (bv bs).toArray = cs) (hn : bs.length = n) (hm : n ≤ maxLen) (hg : g2 = u.heap.size) (hp : Hid (Pen u g t M)) (hk : Hid (Kept g [46] w u)) :
    RetW w g t bs M (.returned (.slice (some ⟨g2, 0, none⟩) n n)) (u.alloc (.cells cs 5)) := by
  subst hg
  exact ⟨_, n, n, rfl, hid hn, hid (slb_lit u bs n cs hc hn hm), hid (hp.out.bel ((Below.refl _ u).alloc (Nat.le_refl _) _)), hid (hk.out.alloc _)⟩
theorem retw_nil {w u : World} {g M : Nat} {t : Tm} (hp : Hid (Pen u g t M)) (hk : Hid (Kept g [46] w u)) : RetW w g t [] M (.returned (.slice none 0 0)) u := ⟨none, 0, 0, rfl, hid rfl, hid ⟨Nat.le_refl _, Nat.zero_le _, fun _ => rfl, Lies.nil_⟩, hp, hk⟩
section
variable {w : World} {g N M : Nat} {t : Tm}
theorem k00 (w : World) (g : Nat) : Hid (Kept g [46] w w) := hid (Kept.refl _ _ _)
set_option maxRecDepth 100000 in
theorem put_any (hp : Hid (Pen w g t N)) (hN : N ≤ 65535) (ht : t.Ok) (c : UInt8) {v : Bool} (hs42 : hasN t.f 42 = v) {x : List UInt8} (hM : Hid ((([c] : List UInt8), movedN v N c) = (x, M))) :
    Calls Try.prog 28 #[.pointer (some ⟨g, 0, none⟩), .int .u8 (c.toNat : Int)] w (RetW w g t x M) := by
  obtain ⟨rfl, hm⟩ : [c] = x ∧ movedN v N c = M := by
    have := hM.out
    injection this with h1 h2
    exact ⟨h1, h2⟩
  go_enter Try.func28, Try.ntmps28
  go_wp2_with (first
    | (go_at_call 35
       (with_reducible refine (move_any _ hp hN ht c hs42 (hid hm)).mono ?_)
       rintro e u1 ⟨rfl, P1, K1⟩))
  go_ret
  exact retw_lit (bs := [c]) rfl rfl (by decide) rfl P1 K1
theorem put13 (hp : Hid (Pen w g t N)) (hN : N ≤ 65535) (ht : t.Ok) {v : Bool} (hs42 : hasN t.f 42 = v) {x : List UInt8} (hM : Hid ((([13] : List UInt8), movedN v N 13) = (x, M))) :
    Calls Try.prog 28 #[.pointer (some ⟨g, 0, none⟩), .int .u8 13] w (RetW w g t x M) := put_any hp hN ht 13 hs42 hM
set_option maxRecDepth 100000 in
theorem feed_any (hp : Hid (Pen w g t N)) (ht : t.Ok) {f : PoF} (hf : Hid (poF t = f)) {x : List UInt8} (hM : Hid (nlP f N = (x, M))) :
    Calls Try.prog 36 #[.pointer (some ⟨g, 0, none⟩)] w (RetW w g t x M) := by
  have hl := ht.len
  cases h75 : hasN t.f 75
  · obtain ⟨rfl, rfl⟩ : [10] = x ∧ N = M := by
      have h1 := nlP_no (f := f) (N := N) (by rw [← hf.out]; exact h75)
      have := h1.symm.trans hM.out
      injection this with h1 h2
      exact ⟨h1, h2⟩
    go_enter Try.func36, Try.ntmps36
    go_wp2_with (first
      | (go_at_call 27
         (with_reducible refine (hasp_b _ hp ht h75).mono ?_)
         rintro e u1 ⟨rfl, k1⟩))
    go_ret
    exact retw_lit (bs := [10]) rfl rfl (by decide) rfl (hid (hp.out.bel k1.out)) (kep_b (k00 w g) k1.out)
  · obtain ⟨rfl, rfl⟩ : [10] = x ∧ 0 = M := by
      have h1 := nlP_ret (f := f) (N := N) (by rw [← hf.out]; exact h75)
      have := h1.symm.trans hM.out
      injection this with h1 h2
      exact ⟨h1, h2⟩
    go_enter Try.func36, Try.ntmps36
    go_wp2_with (first
      | (go_at_call 27
         (with_reducible refine (hasp_b _ hp ht h75).mono ?_)
         rintro e u1 ⟨rfl, k1⟩
         have P1 := hid (hp.out.bel k1.out)
         have K1 := kep_b (k00 w g) k1.out
         have cn1 := P1.out.cell hl
         have cf1 := P1.out.frozen))
    obtain ⟨HP, HK⟩ := pen_st P1 hl K1 (show (0 : Int) = ((0 : Nat) : Int) by omega)
    go_ret
    exact retw_lit (bs := [10]) rfl rfl (by decide) (by simp) HP HK
set_option maxRecDepth 100000 in
theorem endLine_any (hp : Hid (Pen w g t N)) (ht : t.Ok) {f : PoF} (hf : Hid (poF t = f)) {x : List UInt8} (hM : Hid ((if f.nlcr = true then ([13, 10], 0) else nlP f N) = (x, M))) :
    Calls Try.prog 29 #[.pointer (some ⟨g, 0, none⟩)] w (RetW w g t x M) := by
  have hl := ht.len
  cases h72 : hasN t.f 72
  · have hn : Hid (nlP f N = (x, M)) := hid (by
      have := hM.out
      rwa [if_neg (by rw [← hf.out]; show ¬ hasN t.f 72 = true; rw [h72]; decide)] at this)
    go_enter Try.func29, Try.ntmps29
    go_wp2_with (first
      | (go_at_call 27
         (with_reducible refine (hasp_b _ hp ht h72).mono ?_)
         rintro e u1 ⟨rfl, k1⟩
         have P1 := hid (hp.out.bel k1.out)
         have K1 := kep_b (k00 w g) k1.out)
      | (go_at_call 36
         (with_reducible refine (feed_any P1 ht hf hn).mono ?_)
         rintro e u2 ⟨A, n, c, rfl, h2, S2, P2, K2⟩))
    go_ret
    exact ⟨A, n, c, rfl, h2, S2, P2, hid (K1.out.trans K2.out)⟩
  · obtain ⟨rfl, rfl⟩ : [13, 10] = x ∧ 0 = M := by
      have := hM.out
      rw [if_pos (by rw [← hf.out]; exact h72)] at this
      injection this with h1 h2
      exact ⟨h1, h2⟩
    go_enter Try.func29, Try.ntmps29
    go_wp2_with (first
      | (go_at_call 27
         (with_reducible refine (hasp_b _ hp ht h72).mono ?_)
         rintro e u1 ⟨rfl, k1⟩
         have P1 := hid (hp.out.bel k1.out)
         have K1 := kep_b (k00 w g) k1.out
         have cn1 := P1.out.cell hl
         have cf1 := P1.out.frozen))
    obtain ⟨HP, HK⟩ := pen_st P1 hl K1 (show (0 : Int) = ((0 : Nat) : Int) by omega)
    go_ret
    exact retw_lit (bs := [13, 10]) rfl rfl (by decide) (by simp) HP HK
set_option maxRecDepth 100000 in
set_option maxHeartbeats 1000000 in
theorem goBack_any (hp : Hid (Pen w g t N)) (hN : N ≤ 65535) (ht : t.Ok) {f : PoF} (hf : Hid (poF t = f)) {x : List UInt8} (hM : Hid ((if f.nocr = true ∧ N = 0 then ([], 0) else if f.crnl = false then ([13], 0) else nlP f N) = (x, M))) :
    Calls Try.prog 30 #[.pointer (some ⟨g, 0, none⟩)] w (RetW w g t x M) := by
  have hl := ht.len
  have h42 : Hid (hasN t.f 42 = f.u) := hid (by rw [← hf.out]; rfl)
  have cn := hp.out.cell hl
  have fn : f.nocr = hasN t.f 74 := by rw [← hf.out]; rfl
  have fc : f.crnl = hasN t.f 73 := by rw [← hf.out]; rfl
  have q13 : movedN f.u N 13 = 0 := movedN_13 rfl
  by_cases h0 : N = 0
  · subst h0
    cases h74 : hasN t.f 74
    · cases h73 : hasN t.f 73
      · have hm : Hid ((([13] : List UInt8), movedN f.u 0 13) = (x, M)) := hid (by
          have := hM.out
          rw [fn, fc, h74, h73] at this
          rw [q13]
          exact this)
        go_enter Try.func30, Try.ntmps30
        go_wp2_with (first
          | (go_at_call 27
             (first
               | ((with_reducible refine (hasp_b _ hp ht h74).mono ?_)
                  rintro e u1 ⟨rfl, k1⟩
                  have P1 := hid (hp.out.bel k1.out)
                  have K1 := kep_b (k00 w g) k1.out)
               | ((with_reducible refine (hasp_b _ P1 ht h73).mono ?_)
                  rintro e u2 ⟨rfl, k2⟩
                  have P2 := hid (P1.out.bel k2.out)
                  have K2 := kep_b K1 k2.out)))
          | (go_at_call 28
             (with_reducible refine (put13 P2 hN ht h42.out hm).mono ?_)
             rintro e u3 ⟨A, n, c, rfl, h3, S3, P3, K3⟩))
        go_ret
        exact ⟨A, n, c, rfl, h3, S3, P3, hid (K2.out.trans K3.out)⟩
      · have hm : Hid (nlP f 0 = (x, M)) := hid (by
          have := hM.out
          rw [fn, fc, h74, h73] at this
          exact this)
        go_enter Try.func30, Try.ntmps30
        go_wp2_with (first
          | (go_at_call 27
             (first
               | ((with_reducible refine (hasp_b _ hp ht h74).mono ?_)
                  rintro e u1 ⟨rfl, k1⟩
                  have P1 := hid (hp.out.bel k1.out)
                  have K1 := kep_b (k00 w g) k1.out)
               | ((with_reducible refine (hasp_b _ P1 ht h73).mono ?_)
                  rintro e u2 ⟨rfl, k2⟩
                  have P2 := hid (P1.out.bel k2.out)
                  have K2 := kep_b K1 k2.out)))
          | (go_at_call 36
             (with_reducible refine (feed_any P2 ht hf hm).mono ?_)
             rintro e u3 ⟨A, n, c, rfl, h3, S3, P3, K3⟩))
        go_ret
        exact ⟨A, n, c, rfl, h3, S3, P3, hid (K2.out.trans K3.out)⟩
    · obtain ⟨rfl, rfl⟩ : [] = x ∧ 0 = M := by
        have := hM.out
        rw [fn, h74] at this
        simpa using this
      go_enter Try.func30, Try.ntmps30
      go_wp2_with (first
        | (go_at_call 27
           (with_reducible refine (hasp_b _ hp ht h74).mono ?_)
           rintro e u1 ⟨rfl, k1⟩
           have P1 := hid (hp.out.bel k1.out)
           have K1 := kep_b (k00 w g) k1.out))
      go_ret
      exact retw_nil P1 K1
  · have e0 : ((N : Int) == 0) = false := beq_eq_false_iff_ne.2 (by omega)
    cases h73 : hasN t.f 73
    · have hm : Hid ((([13] : List UInt8), movedN f.u N 13) = (x, M)) := hid (by
        have := hM.out
        rw [if_neg (fun h => h0 h.2), fc, h73] at this
        rw [q13]
        exact this)
      clear h0
      go_enter Try.func30, Try.ntmps30
      go_wp2_with (first
        | (go_at_call 27
           ((with_reducible refine (hasp_b _ hp ht h73).mono ?_)
            rintro e u2 ⟨rfl, k2⟩
            have P2 := hid (hp.out.bel k2.out)
            have K2 := kep_b (k00 w g) k2.out))
        | (go_at_call 28
           (with_reducible refine (put13 P2 hN ht h42.out hm).mono ?_)
           rintro e u3 ⟨A, n, c, rfl, h3, S3, P3, K3⟩))
      go_ret
      exact ⟨A, n, c, rfl, h3, S3, P3, hid (K2.out.trans K3.out)⟩
    · have hm : Hid (nlP f N = (x, M)) := hid (by
        have := hM.out
        rw [if_neg (fun h => h0 h.2), fc, h73] at this
        exact this)
      clear h0
      go_enter Try.func30, Try.ntmps30
      go_wp2_with (first
        | (go_at_call 27
           ((with_reducible refine (hasp_b _ hp ht h73).mono ?_)
            rintro e u2 ⟨rfl, k2⟩
            have P2 := hid (hp.out.bel k2.out)
            have K2 := kep_b (k00 w g) k2.out))
        | (go_at_call 36
           (with_reducible refine (feed_any P2 ht hf hm).mono ?_)
           rintro e u3 ⟨A, n, c, rfl, h3, S3, P3, K3⟩))
      go_ret
      exact ⟨A, n, c, rfl, h3, S3, P3, hid (K2.out.trans K3.out)⟩
end
set_option maxRecDepth 100000 in
set_option maxHeartbeats 1000000 in
theorem write_any (w : World) {g N M : Nat} {t : Tm} (hp : Hid (Pen w g t N)) (hN : N ≤ 65535) (ht : t.Ok) (c : UInt8) {f : PoF} (hf : Hid (poF t = f)) {x : List UInt8} (hx : Hid (byteP f N c = (x, M))) :
    Calls Try.prog 19 #[.pointer (some ⟨g, 0, none⟩), .int .u8 (c.toNat : Int)] w (RetW w g t x M) := by
  have h42 : Hid (hasN t.f 42 = f.u) := hid (by rw [← hf.out]; rfl)
  cases h70 : hasN t.f 70
  · have hm : Hid ((([c] : List UInt8), movedN f.u N c) = (x, M)) := hid ((byteP_off (by rw [← hf.out]; exact h70)).symm.trans hx.out)
    go_enter Try.func19, Try.ntmps19
    go_wp2_with (first
      | (go_at_call 27
         (with_reducible refine (hasp_b _ hp ht h70).mono ?_)
         rintro e u1 ⟨rfl, k1⟩
         have P1 := hid (hp.out.bel k1.out)
         have K1 := kep_b (k00 w g) k1.out)
      | (go_at_call 28
         (with_reducible refine (put_any P1 hN ht c h42.out hm).mono ?_)
         rintro e u2 ⟨A, n, c2, rfl, h2, S2, P2, K2⟩))
    go_ret
    exact ⟨A, n, c2, rfl, h2, S2, P2, hid (K1.out.trans K2.out)⟩
  · have ho : f.o = true := by rw [← hf.out]; exact h70
    by_cases h10 : c.toNat = 10
    · have e10 : (c.toNat : Int) = 10 := by omega
      have hm : Hid ((if f.nlcr = true then ([13, 10], 0) else nlP f N) = (x, M)) := hid (by
        have := hx.out
        unfold byteP at this
        rwa [if_neg (by rw [ho]; decide), if_neg (by omega), if_pos h10] at this)
      rw [e10]
      clear e10 h10
      go_enter Try.func19, Try.ntmps19
      go_wp2_with (first
        | (go_at_call 27
           (with_reducible refine (hasp_b _ hp ht h70).mono ?_)
           rintro e u1 ⟨rfl, k1⟩
           have P1 := hid (hp.out.bel k1.out)
           have K1 := kep_b (k00 w g) k1.out)
        | (go_at_call 29
           (with_reducible refine (endLine_any P1 ht hf hm).mono ?_)
           rintro e u2 ⟨A, n, c2, rfl, h2, S2, P2, K2⟩))
      go_ret
      exact ⟨A, n, c2, rfl, h2, S2, P2, hid (K1.out.trans K2.out)⟩
    · have k10 : (((c.toNat : Int)) == 10) = false := beq_eq_false_iff_ne.2 (by omega)
      by_cases h13 : c.toNat = 13
      · have e13 : (c.toNat : Int) = 13 := by omega
        have hm : Hid ((if f.nocr = true ∧ N = 0 then ([], 0) else if f.crnl = false then ([13], 0) else nlP f N) = (x, M)) := hid (by
          have := hx.out
          unfold byteP at this
          rwa [if_neg (by rw [ho]; decide), if_pos h13] at this)
        rw [e13]
        clear e13 h13 k10 h10
        go_enter Try.func19, Try.ntmps19
        go_wp2_with (first
          | (go_at_call 27
             (with_reducible refine (hasp_b _ hp ht h70).mono ?_)
             rintro e u1 ⟨rfl, k1⟩
             have P1 := hid (hp.out.bel k1.out)
             have K1 := kep_b (k00 w g) k1.out)
          | (go_at_call 30
             (with_reducible refine (goBack_any P1 hN ht hf hm).mono ?_)
             rintro e u2 ⟨A, n, c2, rfl, h2, S2, P2, K2⟩))
        go_ret
        exact ⟨A, n, c2, rfl, h2, S2, P2, hid (K1.out.trans K2.out)⟩
      · have k13 : (((c.toNat : Int)) == 13) = false := beq_eq_false_iff_ne.2 (by omega)
        have hm : Hid ((([upB f c] : List UInt8), movedN f.u N (upB f c)) = (x, M)) := hid ((byteP_any ho h13 h10).symm.trans hx.out)
        clear h10 h13
        cases hsm : (decide (97 ≤ c.toNat) && decide (c.toNat ≤ 122))
        · have hu : upB f c = c := upB_no (by
            rintro ⟨_, h1, h2⟩
            rw [decide_eq_true h1, decide_eq_true h2] at hsm
            cases hsm)
          rw [hu] at hm
          go_enter Try.func19, Try.ntmps19
          go_wp2_with (first
            | (go_at_call 27
               (with_reducible refine (hasp_b _ hp ht h70).mono ?_)
               rintro e u1 ⟨rfl, k1⟩
               have P1 := hid (hp.out.bel k1.out)
               have K1 := kep_b (k00 w g) k1.out)
            | (go_at_call 31
               (with_reducible refine (isSmall_b _ c hsm).mono ?_)
               rintro e u3 ⟨rfl, rfl⟩)
            | (go_at_call 28
               (with_reducible refine (put_any P1 hN ht c h42.out hm).mono ?_)
               rintro e u2 ⟨A, n, c2, rfl, h2, S2, P2, K2⟩))
          go_ret
          exact ⟨A, n, c2, rfl, h2, S2, P2, hid (K1.out.trans K2.out)⟩
        · have h97 : 97 ≤ c.toNat ∧ c.toNat ≤ 122 := by simpa using hsm
          cases h71 : hasN t.f 71
          · have hu : upB f c = c := upB_no (by rw [← hf.out]; rintro ⟨h, _⟩; exact absurd (h71.symm.trans h) (by decide))
            rw [hu] at hm
            go_enter Try.func19, Try.ntmps19
            go_wp2_with (first
              | (go_at_call 27
                 (first
                   | ((with_reducible refine (hasp_b _ hp ht h70).mono ?_)
                      rintro e u1 ⟨rfl, k1⟩
                      have P1 := hid (hp.out.bel k1.out)
                      have K1 := kep_b (k00 w g) k1.out)
                   | ((with_reducible refine (hasp_b _ P1 ht h71).mono ?_)
                      rintro e u4 ⟨rfl, k4⟩
                      have P1 := hid (P1.out.bel k4.out)
                      have K1 := kep_b K1 k4.out)))
              | (go_at_call 31
                 (with_reducible refine (isSmall_b _ c hsm).mono ?_)
                 rintro e u3 ⟨rfl, rfl⟩)
              | (go_at_call 28
                 (with_reducible refine (put_any P1 hN ht c h42.out hm).mono ?_)
                 rintro e u2 ⟨A, n, c2, rfl, h2, S2, P2, K2⟩))
            go_ret
            exact ⟨A, n, c2, rfl, h2, S2, P2, hid (K1.out.trans K2.out)⟩
          · have hd := upB_on (f := f) (c := c) (by rw [← hf.out]; exact h71) h97.1 h97.2
            obtain ⟨d, hd0⟩ : ∃ d, upB f c = d := ⟨_, rfl⟩
            rw [hd0] at hd hm
            have hd2 := hd.symm
            clear hd hd0
            go_enter Try.func19, Try.ntmps19
            go_wp2_with (first
              | (go_at_call 27
                 (first
                   | ((with_reducible refine (hasp_b _ hp ht h70).mono ?_)
                      rintro e u1 ⟨rfl, k1⟩
                      have P1 := hid (hp.out.bel k1.out)
                      have K1 := kep_b (k00 w g) k1.out)
                   | ((with_reducible refine (hasp_b _ P1 ht h71).mono ?_)
                      rintro e u4 ⟨rfl, k4⟩
                      have P1 := hid (P1.out.bel k4.out)
                      have K1 := kep_b K1 k4.out)))
              | (go_at_call 31
                 (with_reducible refine (isSmall_b _ c hsm).mono ?_)
                 rintro e u3 ⟨rfl, rfl⟩)
              | (go_at_call 28
                 (with_reducible refine (put_any P1 hN ht d h42.out hm).mono ?_)
                 rintro e u2 ⟨A, n, c2, rfl, h2, S2, P2, K2⟩))
            go_ret
            exact ⟨A, n, c2, rfl, h2, S2, P2, hid (K1.out.trans K2.out)⟩
end Go.Proofs.Ytnalhkagdmfhbaa
