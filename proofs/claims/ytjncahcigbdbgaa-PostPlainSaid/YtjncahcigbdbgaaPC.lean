import Derived.Test.YtjncahcigbdbgaaPB
namespace Go.Proofs.Ytjncahcigbdbgaa
open Go.RowKit

/-! Layer 12, the document's: what goes out of a byte. -/
/-- A call has answered these bytes and this number. -/
def RetP (w : World) (r : List UInt8 × Nat) (e : Ending) (w' : World) : Prop := ∃ A n c, e = .returned (.tuple #[.slice A n c, .int .i64 (r.2 : Int)]) ∧ Hid (r.1.length = n) ∧ Hid (SlB w' w'.heap.size A c r.1) ∧ Hid (Below w.heap.size w w')
theorem retp_lit {w u : World} {bs : List UInt8} {m : Nat} {x : Int} {n g : Nat} {cs : Array Value} (hc : (bv bs).toArray = cs) (hn : bs.length = n) (hm : n ≤ maxLen) (hg : g = u.heap.size) (hb : Hid (Below w.heap.size w u)) (hx : x = (m : Int) := by rfl) : RetP w (bs, m) (.returned (.tuple #[.slice (some ⟨g, 0, none⟩) n n, .int .i64 x])) (u.alloc (.cells cs 5)) := by
  subst hg
  subst hx
  exact ⟨_, n, n, rfl, hid hn, hid (slb_lit u bs n cs hc hn hm), hid (hb.out.alloc hb.out.size _)⟩
theorem retp_nil {w u : World} (hb : Hid (Below w.heap.size w u)) : RetP w ([], 0) (.returned (.tuple #[.slice none 0 0, .int .i64 0])) u := ⟨none, 0, 0, rfl, hid rfl, hid ⟨Nat.le_refl _, Nat.zero_le _, fun _ => rfl, Lies.nil_⟩, hb⟩
section
variable {f : PoF} {N : Nat} {c : UInt8}
theorem byteP_off (h : f.o = false) : byteP f N c = ([c], movedN f.u N c) := by unfold byteP; rw [if_pos h]
theorem byteP_no (h : f.o = true) (h13 : c.toNat = 13) (h1 : f.nocr = true) (h0 : N = 0) : byteP f N c = ([], 0) := by unfold byteP; rw [if_neg (by rw [h]; decide), if_pos h13, if_pos ⟨h1, h0⟩]
theorem byteP_cr (h : f.o = true) (h13 : c.toNat = 13) (h1 : ¬ (f.nocr = true ∧ N = 0)) (h2 : f.crnl = false) : byteP f N c = ([13], 0) := by unfold byteP; rw [if_neg (by rw [h]; decide), if_pos h13, if_neg h1, if_pos h2]
theorem byteP_crnl (h : f.o = true) (h13 : c.toNat = 13) (h1 : ¬ (f.nocr = true ∧ N = 0)) (h2 : f.crnl = true) : byteP f N c = nlP f N := by unfold byteP; rw [if_neg (by rw [h]; decide), if_pos h13, if_neg h1, if_neg (by rw [h2]; decide)]
theorem byteP_nlcr (h : f.o = true) (h10 : c.toNat = 10) (h2 : f.nlcr = true) : byteP f N c = ([13, 10], 0) := by unfold byteP; rw [if_neg (by rw [h]; decide), if_neg (by omega), if_pos h10, if_pos h2]
theorem byteP_nl (h : f.o = true) (h10 : c.toNat = 10) (h2 : f.nlcr = false) : byteP f N c = nlP f N := by unfold byteP; rw [if_neg (by rw [h]; decide), if_neg (by omega), if_pos h10, if_neg (by rw [h2]; decide)]
theorem byteP_any (h : f.o = true) (h13 : c.toNat ≠ 13) (h10 : c.toNat ≠ 10) : byteP f N c = ([upB f c], movedN f.u N (upB f c)) := by unfold byteP; rw [if_neg (by rw [h]; decide), if_neg h13, if_neg h10]
theorem nlP_ret (h : f.nlret = true) : nlP f N = ([10], 0) := if_pos h
theorem nlP_no (h : f.nlret = false) : nlP f N = ([10], N) := by unfold nlP; rw [if_neg (by rw [h]; decide)]
theorem upB_on (h : f.olc = true) (h1 : 97 ≤ c.toNat) (h2 : c.toNat ≤ 122) : ((upB f c).toNat : Int) = (c.toNat : Int) - 97 + 65 := by
  unfold upB
  rw [if_pos ⟨h, h1, h2⟩]
  have : (UInt8.ofNat (c.toNat - 32)).toNat = c.toNat - 32 := by simp; omega
  rw [this]
  omega
theorem upB_no (h : ¬ (f.olc = true ∧ 97 ≤ c.toNat ∧ c.toNat ≤ 122)) : upB f c = c := if_neg h
end
theorem cr_set {t : Tm} (ht : t.Ok) : hasN (setT t 72 false).f 72 = false ∧ hasN (setT t 72 false).f 75 = hasN t.f 75 := by
  constructor
  · exact set_has ht 72 false (by decide)
  · show hasN (setN t.f 72 false) 75 = _
    rw [setN_has ht.f, if_neg (by omega)]
set_option maxRecDepth 100000 in
set_option maxHeartbeats 8000000 in
theorem byter_any (w : World) {t : Tm} (ht : t.Ok) (col : Int) (c : UInt8) {f : PoF} (hf : Hid (poF t = f)) : Calls Try.prog 9 #[.agg t.cs, .int .i64 col, .int .u8 (c.toNat : Int)] w (RetP w (byteP f (nrm col) c)) := by
  have hs := cs_size ht.len
  have K0 := old26 w t
  have hN := nrm_le col
  have hcol := fun w => columnr_any w col
  have h42 : Hid (hasN t.f 42 = f.u) := hid (by rw [← hf.out]; rfl)
  obtain ⟨N, hq⟩ : ∃ N, nrm col = N := ⟨_, rfl⟩
  rw [hq] at hN hcol ⊢
  clear hq
  cases h70 : hasN t.f 70
  · have hr := hid (byteP_off (f := f) (N := N) (c := c) (by rw [← hf.out]; exact h70))
    rw [hr.out]
    go_enter Try.func9, Try.ntmps9
    go_wp2_with (first
      | (refine bx26 (by rfl) _ (by rfl) _ (by rfl) hs ?_
         intro G0)
      | (refine ld26 (by rfl) _ (by rfl) _ (by rfl) t.cs G0.out hs ?_)
      | (refine ld26 (by rfl) _ (by rfl) _ (by rfl) t.cs (box_al G0.out) hs ?_)
      | (go_at_call 20
         (with_reducible refine (hcol _).mono ?_)
         rintro e u0 ⟨rfl, rfl⟩)
      | (go_at_call 21
         (first | (with_reducible refine (hasr_b _ _ ht _ h70).mono ?_))
         rintro e u1 ⟨rfl, k⟩
         replace G0 := hid (box_below G0.out k.out)
         replace K0 := bel_t K0 k.out
         clear k)
      | (go_at_call 22
         (with_reducible refine (movedr_any _ ht N hN c h42.out).mono ?_)
         rintro e u2 ⟨rfl, k2⟩
         have K2 := bel_t (hid (K0.out.alloc K0.out.size (.cells #[.int .u8 (c.toNat : Int)] 5))) k2.out
         have S2 := slb_at (hid (slb_lit _ [c] 1 #[.int .u8 (c.toNat : Int)] rfl rfl (by decide))) k2))
    go_ret2
    exact ⟨_, _, _, rfl, hid rfl, S2, K2⟩
  · have ho : f.o = true := by rw [← hf.out]; exact h70
    by_cases h13 : c.toNat = 13
    · have e13 : (c.toNat : Int) = 13 := by omega
      cases h74 : hasN t.f 74
      · have hn : ¬ (f.nocr = true ∧ N = 0) := by rw [← hf.out]; rintro ⟨h, _⟩; exact absurd (h74.symm.trans h) (by decide)
        cases h73 : hasN t.f 73
        · have hr := hid (byteP_cr (f := f) (N := N) (c := c) ho h13 hn (by rw [← hf.out]; exact h73))
          rw [hr.out, e13]
          clear e13 hn h13 hr
          go_enter Try.func9, Try.ntmps9
          go_wp2_with (first
            | (refine bx26 (by rfl) _ (by rfl) _ (by rfl) hs ?_
               intro G0)
            | (refine ld26 (by rfl) _ (by rfl) _ (by rfl) t.cs G0.out hs ?_)
            | (refine ld26 (by rfl) _ (by rfl) _ (by rfl) t.cs (box_al G0.out) hs ?_)
            | (go_at_call 20
               (with_reducible refine (hcol _).mono ?_)
               rintro e u0 ⟨rfl, rfl⟩)
            | (go_at_call 21
               (first | (with_reducible refine (hasr_b _ _ ht _ h70).mono ?_) | (with_reducible refine (hasr_b _ _ ht _ h74).mono ?_) | (with_reducible refine (hasr_b _ _ ht _ h73).mono ?_))
               rintro e u1 ⟨rfl, k⟩
               replace G0 := hid (box_below G0.out k.out)
               replace K0 := bel_t K0 k.out
               clear k))
          go_ret2
          exact retp_lit (bs := [13]) rfl rfl (by decide) rfl K0
        · have ht2 : (setT t 72 false).Ok := setT_ok ht _ _
          have hl2 := ht2.len
          have hs2 := cs_size hl2
          have hszw : w.heap.size ≤ w.heap.size := Nat.le_refl _
          obtain ⟨q72, q75⟩ := cr_set ht
          cases h75 : hasN t.f 75
          · have hr := hid ((byteP_crnl (f := f) (N := N) (c := c) ho h13 hn (by rw [← hf.out]; exact h73)).trans (nlP_no (by rw [← hf.out]; exact h75)))
            rw [hr.out, e13]
            rw [h75] at q75
            clear e13 hn h13 hr
            go_enter Try.func9, Try.ntmps9
            go_wp2_with (first
              | (refine bx26 (by rfl) _ (by rfl) _ (by rfl) hs ?_
                 intro G0)
              | (refine ld26 (by rfl) _ (by rfl) _ (by rfl) t.cs G0.out hs ?_)
              | (refine ld26 (by rfl) _ (by rfl) _ (by rfl) t.cs (box_al G0.out) hs ?_)
              | (go_at_call 20
                 (with_reducible refine (hcol _).mono ?_)
                 rintro e u0 ⟨rfl, rfl⟩)
              | (go_at_call 21
                 (first | (with_reducible refine (hasr_b _ _ ht _ h70).mono ?_) | (with_reducible refine (hasr_b _ _ ht _ h74).mono ?_) | (with_reducible refine (hasr_b _ _ ht _ h73).mono ?_))
                 rintro e u1 ⟨rfl, k⟩
                 replace G0 := hid (box_below G0.out k.out)
                 replace K0 := bel_t K0 k.out
                 clear k)
              | (go_at_call 23
                 (with_reducible refine (setr_b _ ht (show setT t 72 false = setT t 72 false from rfl)).mono ?_)
                 rintro e u3 ⟨rfl, k⟩
                 replace G0 := hid (box_below G0.out k.out)
                 replace K0 := bel_t K0 k.out
                 clear k)
              | (refine st26 (by rfl) _ _ (by rfl) _ (by rfl) (setT t 72 false) hl2 (by rfl) _ G0.out hs ?_
                 intro u4 G4 k4
                 have K4 := hid (K0.out.trans (k4.out.below hszw)))
              | (refine ld26 (by rfl) _ (by rfl) _ (by rfl) (setT t 72 false).cs G4.out hs2 ?_)
              | (refine ld26 (by rfl) _ (by rfl) _ (by rfl) (setT t 72 false).cs G5.out hs2 ?_)
              | (go_at_call 21
                 (first
                   | ((with_reducible refine (hasr_b _ _ ht2 _ q72).mono ?_)
                      rintro e u5 ⟨rfl, k⟩
                      have G5 := hid (box_below G4.out k.out)
                      have K5 := bel_t K4 k.out
                      clear k)
                   | ((with_reducible refine (hasr_b _ _ ht2 _ q75).mono ?_)
                      rintro e u6 ⟨rfl, k⟩
                      have K6 := bel_t K5 k.out
                      clear k))))
            go_ret2
            exact retp_lit (bs := [10]) rfl rfl (by decide) rfl K6
          · have hr := hid ((byteP_crnl (f := f) (N := N) (c := c) ho h13 hn (by rw [← hf.out]; exact h73)).trans (nlP_ret (by rw [← hf.out]; exact h75)))
            rw [hr.out, e13]
            rw [h75] at q75
            clear e13 hn h13 hr
            go_enter Try.func9, Try.ntmps9
            go_wp2_with (first
              | (refine bx26 (by rfl) _ (by rfl) _ (by rfl) hs ?_
                 intro G0)
              | (refine ld26 (by rfl) _ (by rfl) _ (by rfl) t.cs G0.out hs ?_)
              | (refine ld26 (by rfl) _ (by rfl) _ (by rfl) t.cs (box_al G0.out) hs ?_)
              | (go_at_call 20
                 (with_reducible refine (hcol _).mono ?_)
                 rintro e u0 ⟨rfl, rfl⟩)
              | (go_at_call 21
                 (first | (with_reducible refine (hasr_b _ _ ht _ h70).mono ?_) | (with_reducible refine (hasr_b _ _ ht _ h74).mono ?_) | (with_reducible refine (hasr_b _ _ ht _ h73).mono ?_))
                 rintro e u1 ⟨rfl, k⟩
                 replace G0 := hid (box_below G0.out k.out)
                 replace K0 := bel_t K0 k.out
                 clear k)
              | (go_at_call 23
                 (with_reducible refine (setr_b _ ht (show setT t 72 false = setT t 72 false from rfl)).mono ?_)
                 rintro e u3 ⟨rfl, k⟩
                 replace G0 := hid (box_below G0.out k.out)
                 replace K0 := bel_t K0 k.out
                 clear k)
              | (refine st26 (by rfl) _ _ (by rfl) _ (by rfl) (setT t 72 false) hl2 (by rfl) _ G0.out hs ?_
                 intro u4 G4 k4
                 have K4 := hid (K0.out.trans (k4.out.below hszw)))
              | (refine ld26 (by rfl) _ (by rfl) _ (by rfl) (setT t 72 false).cs G4.out hs2 ?_)
              | (refine ld26 (by rfl) _ (by rfl) _ (by rfl) (setT t 72 false).cs G5.out hs2 ?_)
              | (go_at_call 21
                 (first
                   | ((with_reducible refine (hasr_b _ _ ht2 _ q72).mono ?_)
                      rintro e u5 ⟨rfl, k⟩
                      have G5 := hid (box_below G4.out k.out)
                      have K5 := bel_t K4 k.out
                      clear k)
                   | ((with_reducible refine (hasr_b _ _ ht2 _ q75).mono ?_)
                      rintro e u6 ⟨rfl, k⟩
                      have K6 := bel_t K5 k.out
                      clear k))))
            go_ret2
            exact retp_lit (bs := [10]) rfl rfl (by decide) rfl K6
      · by_cases h0 : N = 0
        · have hr := hid (byteP_no (f := f) (N := N) (c := c) ho h13 (by rw [← hf.out]; exact h74) h0)
          rw [hr.out, e13]
          clear e13 hr
          subst h0
          go_enter Try.func9, Try.ntmps9
          go_wp2_with (first
            | (refine bx26 (by rfl) _ (by rfl) _ (by rfl) hs ?_
               intro G0)
            | (refine ld26 (by rfl) _ (by rfl) _ (by rfl) t.cs G0.out hs ?_)
            | (refine ld26 (by rfl) _ (by rfl) _ (by rfl) t.cs (box_al G0.out) hs ?_)
            | (go_at_call 20
               (with_reducible refine (hcol _).mono ?_)
               rintro e u0 ⟨rfl, rfl⟩)
            | (go_at_call 21
               (first | (with_reducible refine (hasr_b _ _ ht _ h70).mono ?_) | (with_reducible refine (hasr_b _ _ ht _ h74).mono ?_))
               rintro e u1 ⟨rfl, k⟩
               replace G0 := hid (box_below G0.out k.out)
               replace K0 := bel_t K0 k.out
               clear k))
          go_ret2
          exact retp_nil K0
        · have hn : ¬ (f.nocr = true ∧ N = 0) := fun h => h0 h.2
          have e0 : ((N : Int) == 0) = false := beq_eq_false_iff_ne.2 (by omega)
          cases h73 : hasN t.f 73
          · have hr := hid (byteP_cr (f := f) (N := N) (c := c) ho h13 hn (by rw [← hf.out]; exact h73))
            rw [hr.out, e13]
            clear e13 hn h13 hr
            go_enter Try.func9, Try.ntmps9
            go_wp2_with (first
              | (refine bx26 (by rfl) _ (by rfl) _ (by rfl) hs ?_
                 intro G0)
              | (refine ld26 (by rfl) _ (by rfl) _ (by rfl) t.cs G0.out hs ?_)
              | (refine ld26 (by rfl) _ (by rfl) _ (by rfl) t.cs (box_al G0.out) hs ?_)
              | (go_at_call 20
                 (with_reducible refine (hcol _).mono ?_)
                 rintro e u0 ⟨rfl, rfl⟩)
              | (go_at_call 21
                 (first | (with_reducible refine (hasr_b _ _ ht _ h70).mono ?_) | (with_reducible refine (hasr_b _ _ ht _ h74).mono ?_) | (with_reducible refine (hasr_b _ _ ht _ h73).mono ?_))
                 rintro e u1 ⟨rfl, k⟩
                 replace G0 := hid (box_below G0.out k.out)
                 replace K0 := bel_t K0 k.out
                 clear k))
            go_ret2
            exact retp_lit (bs := [13]) rfl rfl (by decide) rfl K0
          · have ht2 : (setT t 72 false).Ok := setT_ok ht _ _
            have hl2 := ht2.len
            have hs2 := cs_size hl2
            have hszw : w.heap.size ≤ w.heap.size := Nat.le_refl _
            obtain ⟨q72, q75⟩ := cr_set ht
            cases h75 : hasN t.f 75
            · have hr := hid ((byteP_crnl (f := f) (N := N) (c := c) ho h13 hn (by rw [← hf.out]; exact h73)).trans (nlP_no (by rw [← hf.out]; exact h75)))
              rw [hr.out, e13]
              rw [h75] at q75
              clear e13 hn h13 hr
              go_enter Try.func9, Try.ntmps9
              go_wp2_with (first
                | (refine bx26 (by rfl) _ (by rfl) _ (by rfl) hs ?_
                   intro G0)
                | (refine ld26 (by rfl) _ (by rfl) _ (by rfl) t.cs G0.out hs ?_)
                | (refine ld26 (by rfl) _ (by rfl) _ (by rfl) t.cs (box_al G0.out) hs ?_)
                | (go_at_call 20
                   (with_reducible refine (hcol _).mono ?_)
                   rintro e u0 ⟨rfl, rfl⟩)
                | (go_at_call 21
                   (first | (with_reducible refine (hasr_b _ _ ht _ h70).mono ?_) | (with_reducible refine (hasr_b _ _ ht _ h74).mono ?_) | (with_reducible refine (hasr_b _ _ ht _ h73).mono ?_))
                   rintro e u1 ⟨rfl, k⟩
                   replace G0 := hid (box_below G0.out k.out)
                   replace K0 := bel_t K0 k.out
                   clear k)
                | (go_at_call 23
                   (with_reducible refine (setr_b _ ht (show setT t 72 false = setT t 72 false from rfl)).mono ?_)
                   rintro e u3 ⟨rfl, k⟩
                   replace G0 := hid (box_below G0.out k.out)
                   replace K0 := bel_t K0 k.out
                   clear k)
                | (refine st26 (by rfl) _ _ (by rfl) _ (by rfl) (setT t 72 false) hl2 (by rfl) _ G0.out hs ?_
                   intro u4 G4 k4
                   have K4 := hid (K0.out.trans (k4.out.below hszw)))
                | (refine ld26 (by rfl) _ (by rfl) _ (by rfl) (setT t 72 false).cs G4.out hs2 ?_)
                | (refine ld26 (by rfl) _ (by rfl) _ (by rfl) (setT t 72 false).cs G5.out hs2 ?_)
                | (go_at_call 21
                   (first
                     | ((with_reducible refine (hasr_b _ _ ht2 _ q72).mono ?_)
                        rintro e u5 ⟨rfl, k⟩
                        have G5 := hid (box_below G4.out k.out)
                        have K5 := bel_t K4 k.out
                        clear k)
                     | ((with_reducible refine (hasr_b _ _ ht2 _ q75).mono ?_)
                        rintro e u6 ⟨rfl, k⟩
                        have K6 := bel_t K5 k.out
                        clear k))))
              go_ret2
              exact retp_lit (bs := [10]) rfl rfl (by decide) rfl K6
            · have hr := hid ((byteP_crnl (f := f) (N := N) (c := c) ho h13 hn (by rw [← hf.out]; exact h73)).trans (nlP_ret (by rw [← hf.out]; exact h75)))
              rw [hr.out, e13]
              rw [h75] at q75
              clear e13 hn h13 hr
              go_enter Try.func9, Try.ntmps9
              go_wp2_with (first
                | (refine bx26 (by rfl) _ (by rfl) _ (by rfl) hs ?_
                   intro G0)
                | (refine ld26 (by rfl) _ (by rfl) _ (by rfl) t.cs G0.out hs ?_)
                | (refine ld26 (by rfl) _ (by rfl) _ (by rfl) t.cs (box_al G0.out) hs ?_)
                | (go_at_call 20
                   (with_reducible refine (hcol _).mono ?_)
                   rintro e u0 ⟨rfl, rfl⟩)
                | (go_at_call 21
                   (first | (with_reducible refine (hasr_b _ _ ht _ h70).mono ?_) | (with_reducible refine (hasr_b _ _ ht _ h74).mono ?_) | (with_reducible refine (hasr_b _ _ ht _ h73).mono ?_))
                   rintro e u1 ⟨rfl, k⟩
                   replace G0 := hid (box_below G0.out k.out)
                   replace K0 := bel_t K0 k.out
                   clear k)
                | (go_at_call 23
                   (with_reducible refine (setr_b _ ht (show setT t 72 false = setT t 72 false from rfl)).mono ?_)
                   rintro e u3 ⟨rfl, k⟩
                   replace G0 := hid (box_below G0.out k.out)
                   replace K0 := bel_t K0 k.out
                   clear k)
                | (refine st26 (by rfl) _ _ (by rfl) _ (by rfl) (setT t 72 false) hl2 (by rfl) _ G0.out hs ?_
                   intro u4 G4 k4
                   have K4 := hid (K0.out.trans (k4.out.below hszw)))
                | (refine ld26 (by rfl) _ (by rfl) _ (by rfl) (setT t 72 false).cs G4.out hs2 ?_)
                | (refine ld26 (by rfl) _ (by rfl) _ (by rfl) (setT t 72 false).cs G5.out hs2 ?_)
                | (go_at_call 21
                   (first
                     | ((with_reducible refine (hasr_b _ _ ht2 _ q72).mono ?_)
                        rintro e u5 ⟨rfl, k⟩
                        have G5 := hid (box_below G4.out k.out)
                        have K5 := bel_t K4 k.out
                        clear k)
                     | ((with_reducible refine (hasr_b _ _ ht2 _ q75).mono ?_)
                        rintro e u6 ⟨rfl, k⟩
                        have K6 := bel_t K5 k.out
                        clear k))))
              go_ret2
              exact retp_lit (bs := [10]) rfl rfl (by decide) rfl K6
    · have k13 : (((c.toNat : Int)) == 13) = false := beq_eq_false_iff_ne.2 (by omega)
      by_cases h10 : c.toNat = 10
      · have e10 : (c.toNat : Int) = 10 := by omega
        rw [e10] at k13 ⊢
        clear k13
        cases h72 : hasN t.f 72
        · cases h75 : hasN t.f 75
          · have hr := hid ((byteP_nl (f := f) (N := N) (c := c) ho h10 (by rw [← hf.out]; exact h72)).trans (nlP_no (by rw [← hf.out]; exact h75)))
            rw [hr.out]
            clear e10 h10 h13
            go_enter Try.func9, Try.ntmps9
            go_wp2_with (first
              | (refine bx26 (by rfl) _ (by rfl) _ (by rfl) hs ?_
                 intro G0)
              | (refine ld26 (by rfl) _ (by rfl) _ (by rfl) t.cs G0.out hs ?_)
              | (refine ld26 (by rfl) _ (by rfl) _ (by rfl) t.cs (box_al G0.out) hs ?_)
              | (go_at_call 20
                 (with_reducible refine (hcol _).mono ?_)
                 rintro e u0 ⟨rfl, rfl⟩)
              | (go_at_call 21
                 (first | (with_reducible refine (hasr_b _ _ ht _ h70).mono ?_) | (with_reducible refine (hasr_b _ _ ht _ h72).mono ?_) | (with_reducible refine (hasr_b _ _ ht _ h75).mono ?_))
                 rintro e u1 ⟨rfl, k⟩
                 replace G0 := hid (box_below G0.out k.out)
                 replace K0 := bel_t K0 k.out
                 clear k))
            go_ret2
            exact retp_lit (bs := [10]) rfl rfl (by decide) rfl K0
          · have hr := hid ((byteP_nl (f := f) (N := N) (c := c) ho h10 (by rw [← hf.out]; exact h72)).trans (nlP_ret (by rw [← hf.out]; exact h75)))
            rw [hr.out]
            clear e10 h10 h13
            go_enter Try.func9, Try.ntmps9
            go_wp2_with (first
              | (refine bx26 (by rfl) _ (by rfl) _ (by rfl) hs ?_
                 intro G0)
              | (refine ld26 (by rfl) _ (by rfl) _ (by rfl) t.cs G0.out hs ?_)
              | (refine ld26 (by rfl) _ (by rfl) _ (by rfl) t.cs (box_al G0.out) hs ?_)
              | (go_at_call 20
                 (with_reducible refine (hcol _).mono ?_)
                 rintro e u0 ⟨rfl, rfl⟩)
              | (go_at_call 21
                 (first | (with_reducible refine (hasr_b _ _ ht _ h70).mono ?_) | (with_reducible refine (hasr_b _ _ ht _ h72).mono ?_) | (with_reducible refine (hasr_b _ _ ht _ h75).mono ?_))
                 rintro e u1 ⟨rfl, k⟩
                 replace G0 := hid (box_below G0.out k.out)
                 replace K0 := bel_t K0 k.out
                 clear k))
            go_ret2
            exact retp_lit (bs := [10]) rfl rfl (by decide) rfl K0
        · have hr := hid (byteP_nlcr (f := f) (N := N) (c := c) ho h10 (by rw [← hf.out]; exact h72))
          rw [hr.out]
          clear e10 h10 h13
          go_enter Try.func9, Try.ntmps9
          go_wp2_with (first
            | (refine bx26 (by rfl) _ (by rfl) _ (by rfl) hs ?_
               intro G0)
            | (refine ld26 (by rfl) _ (by rfl) _ (by rfl) t.cs G0.out hs ?_)
            | (refine ld26 (by rfl) _ (by rfl) _ (by rfl) t.cs (box_al G0.out) hs ?_)
            | (go_at_call 20
               (with_reducible refine (hcol _).mono ?_)
               rintro e u0 ⟨rfl, rfl⟩)
            | (go_at_call 21
               (first | (with_reducible refine (hasr_b _ _ ht _ h70).mono ?_) | (with_reducible refine (hasr_b _ _ ht _ h72).mono ?_))
               rintro e u1 ⟨rfl, k⟩
               replace G0 := hid (box_below G0.out k.out)
               replace K0 := bel_t K0 k.out
               clear k))
          go_ret2
          exact retp_lit (bs := [13, 10]) rfl rfl (by decide) rfl K0
      · have k10 : (((c.toNat : Int)) == 10) = false := beq_eq_false_iff_ne.2 (by omega)
        have hr := hid (byteP_any (f := f) (N := N) ho h13 h10)
        rw [hr.out]
        clear h13 h10
        by_cases h97 : 97 ≤ c.toNat
        · have e97 : (97 : Int) ≤ (c.toNat : Int) := by omega
          by_cases h122 : c.toNat ≤ 122
          · have e122 : (c.toNat : Int) ≤ 122 := by omega
            cases h71 : hasN t.f 71
            · have hu : upB f c = c := upB_no (by rw [← hf.out]; rintro ⟨h, _⟩; exact absurd (h71.symm.trans h) (by decide))
              rw [hu]
              clear hu
              go_enter Try.func9, Try.ntmps9
              go_wp2_with (first
                | (refine bx26 (by rfl) _ (by rfl) _ (by rfl) hs ?_
                   intro G0)
                | (refine ld26 (by rfl) _ (by rfl) _ (by rfl) t.cs G0.out hs ?_)
                | (refine ld26 (by rfl) _ (by rfl) _ (by rfl) t.cs (box_al G0.out) hs ?_)
                | (go_at_call 20
                   (with_reducible refine (hcol _).mono ?_)
                   rintro e u0 ⟨rfl, rfl⟩)
                | (go_at_call 21
                   (first | (with_reducible refine (hasr_b _ _ ht _ h70).mono ?_) | (with_reducible refine (hasr_b _ _ ht _ h71).mono ?_))
                   rintro e u1 ⟨rfl, k⟩
                   replace G0 := hid (box_below G0.out k.out)
                   replace K0 := bel_t K0 k.out
                   clear k)
                | (go_at_call 22
                   (with_reducible refine (movedr_any _ ht N hN c h42.out).mono ?_)
                   rintro e u2 ⟨rfl, k2⟩
                   have K2 := bel_t (hid (K0.out.alloc K0.out.size (.cells #[.int .u8 (c.toNat : Int)] 5))) k2.out
                   have S2 := slb_at (hid (slb_lit _ [c] 1 #[.int .u8 (c.toNat : Int)] rfl rfl (by decide))) k2))
              go_ret2
              exact ⟨_, _, _, rfl, hid rfl, S2, K2⟩
            · have hd := upB_on (f := f) (c := c) (by rw [← hf.out]; exact h71) h97 h122
              obtain ⟨d, hd0⟩ : ∃ d, upB f c = d := ⟨_, rfl⟩
              rw [hd0] at hd ⊢
              have hd2 := hd.symm
              clear hd hd0
              go_enter Try.func9, Try.ntmps9
              go_wp2_with (first
                | (refine bx26 (by rfl) _ (by rfl) _ (by rfl) hs ?_
                   intro G0)
                | (refine ld26 (by rfl) _ (by rfl) _ (by rfl) t.cs G0.out hs ?_)
                | (refine ld26 (by rfl) _ (by rfl) _ (by rfl) t.cs (box_al G0.out) hs ?_)
                | (go_at_call 20
                   (with_reducible refine (hcol _).mono ?_)
                   rintro e u0 ⟨rfl, rfl⟩)
                | (go_at_call 21
                   (first | (with_reducible refine (hasr_b _ _ ht _ h70).mono ?_) | (with_reducible refine (hasr_b _ _ ht _ h71).mono ?_))
                   rintro e u1 ⟨rfl, k⟩
                   replace G0 := hid (box_below G0.out k.out)
                   replace K0 := bel_t K0 k.out
                   clear k)
                | (go_at_call 22
                   (with_reducible refine (movedr_any _ ht N hN d h42.out).mono ?_)
                   rintro e u2 ⟨rfl, k2⟩
                   have K2 := bel_t (hid (K0.out.alloc K0.out.size (.cells #[.int .u8 (d.toNat : Int)] 5))) k2.out
                   have S2 := slb_at (hid (slb_lit _ [d] 1 #[.int .u8 (d.toNat : Int)] rfl rfl (by decide))) k2))
              go_ret2
              exact ⟨_, _, _, rfl, hid rfl, S2, K2⟩
          · have e122 : ¬ (c.toNat : Int) ≤ 122 := by omega
            rw [upB_no (fun h => h122 h.2.2)]
            go_enter Try.func9, Try.ntmps9
            go_wp2_with (first
              | (refine bx26 (by rfl) _ (by rfl) _ (by rfl) hs ?_
                 intro G0)
              | (refine ld26 (by rfl) _ (by rfl) _ (by rfl) t.cs G0.out hs ?_)
              | (refine ld26 (by rfl) _ (by rfl) _ (by rfl) t.cs (box_al G0.out) hs ?_)
              | (go_at_call 20
                 (with_reducible refine (hcol _).mono ?_)
                 rintro e u0 ⟨rfl, rfl⟩)
              | (go_at_call 21
                 (first | (with_reducible refine (hasr_b _ _ ht _ h70).mono ?_))
                 rintro e u1 ⟨rfl, k⟩
                 replace G0 := hid (box_below G0.out k.out)
                 replace K0 := bel_t K0 k.out
                 clear k)
              | (go_at_call 22
                 (with_reducible refine (movedr_any _ ht N hN c h42.out).mono ?_)
                 rintro e u2 ⟨rfl, k2⟩
                 have K2 := bel_t (hid (K0.out.alloc K0.out.size (.cells #[.int .u8 (c.toNat : Int)] 5))) k2.out
                 have S2 := slb_at (hid (slb_lit _ [c] 1 #[.int .u8 (c.toNat : Int)] rfl rfl (by decide))) k2))
            go_ret2
            exact ⟨_, _, _, rfl, hid rfl, S2, K2⟩
        · have e97 : ¬ (97 : Int) ≤ (c.toNat : Int) := by omega
          rw [upB_no (fun h => h97 h.2.1)]
          go_enter Try.func9, Try.ntmps9
          go_wp2_with (first
            | (refine bx26 (by rfl) _ (by rfl) _ (by rfl) hs ?_
               intro G0)
            | (refine ld26 (by rfl) _ (by rfl) _ (by rfl) t.cs G0.out hs ?_)
            | (refine ld26 (by rfl) _ (by rfl) _ (by rfl) t.cs (box_al G0.out) hs ?_)
            | (go_at_call 20
               (with_reducible refine (hcol _).mono ?_)
               rintro e u0 ⟨rfl, rfl⟩)
            | (go_at_call 21
               (first | (with_reducible refine (hasr_b _ _ ht _ h70).mono ?_))
               rintro e u1 ⟨rfl, k⟩
               replace G0 := hid (box_below G0.out k.out)
               replace K0 := bel_t K0 k.out
               clear k)
            | (go_at_call 22
               (with_reducible refine (movedr_any _ ht N hN c h42.out).mono ?_)
               rintro e u2 ⟨rfl, k2⟩
               have K2 := bel_t (hid (K0.out.alloc K0.out.size (.cells #[.int .u8 (c.toNat : Int)] 5))) k2.out
               have S2 := slb_at (hid (slb_lit _ [c] 1 #[.int .u8 (c.toNat : Int)] rfl rfl (by decide))) k2))
          go_ret2
          exact ⟨_, _, _, rfl, hid rfl, S2, K2⟩
end Go.Proofs.Ytjncahcigbdbgaa
