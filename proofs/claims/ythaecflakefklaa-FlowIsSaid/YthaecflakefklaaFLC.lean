import Derived.Test.YthaecflakefklaaFLB
namespace Go.Proofs.Ythaecflakefklaa
open Go.RowKit

/-! Layer 15: the document's Ask. -/
def RetA (w : World) (r : (Bool × Bool) × List UInt8 × Int) (e : Ending) (w' : World) : Prop := ∃ A n c, e = .returned (.tuple #[.agg #[.bool r.1.1, .bool r.1.2], .slice A n c, .int .i64 r.2.2]) ∧ Hid (r.2.1.length = n) ∧ Hid (SlB w' w'.heap.size A c r.2.1) ∧ Hid (Below w.heap.size w w')
theorem T3.new2 (w : World) (t : Tm) (s h a b : Bool) : T3 w (((w.alloc (.cells t.cs 26)).alloc (.cells #[.bool s, .bool h] 33)).alloc (.cells #[.bool a, .bool b] 33)) t s h a b := by
  have b1 := (Below.refl _ w).alloc (Nat.le_refl _) (.cells t.cs 26)
  refine ⟨(b1.alloc b1.size _).alloc (by simp; omega) _, box_al (box_al (box_nw rfl)), box_al ?_, ?_⟩
  · have := Box.new (w.alloc (.cells t.cs 26)) 33 #[.bool s, .bool h]
    rwa [World.size_alloc] at this
  · have := Box.new ((w.alloc (.cells t.cs 26)).alloc (.cells #[.bool s, .bool h] 33)) 33 #[.bool a, .bool b]
    rwa [World.size_alloc, World.size_alloc] at this
attribute [local go_sem ↓] wp_ld26 Go.wp_at_zero Go.wp_at_succ
attribute [local go_sem] isP_v blkV_v aggV_v
set_option maxRecDepth 100000 in
set_option maxHeartbeats 4000000 in
theorem askr_any (w : World) (t : Tm) (ht : t.Ok) (s h : Bool) (what : Int) {r : (Bool × Bool) × List UInt8 × Int} (hr : Hid (askF t s h what = r)) :
    Calls Try.prog 13 #[.agg t.cs, .agg #[.bool s, .bool h], .int .i64 what] w (RetA w r) := by
  have hs := cs_size ht.len
  have H0 := hid (T3.new w t s h)
  by_cases e1 : what = 1
  · subst e1
    obtain rfl : ((true, h), [], 0) = r := (show askF t s h 1 = ((true, h), [], 0) by simp [askF]).symm.trans hr.out
    go_enter Try.func13, Try.ntmps13
    go_wp2_with (first
      | (refine bx26 (by rfl) _ (by rfl) _ (by rfl) hs ?_
         intro _))
    have H4 := hid (T3.new2 w t true h true h)
    have R0 := H4.out.r0
    have R1 := H4.out.r1
    generalize World.alloc (World.alloc _ _) _ = v4 at H4 R0 R1 ⊢
    refine bodyPost_ret (v := .tuple #[.agg #[.bool true, .bool h], .slice none 0 0, .int .i64 0]) (by simp [results, Try.results13, R0, R1, go_sem]) rfl ?_
    exact ⟨none, 0, 0, rfl, hid rfl, hid (slb_none _), hid H4.out.bel⟩
  by_cases e2 : what = 2
  · subst e2
    clear e1
    obtain rfl : ((false, h), [], 0) = r := (show askF t s h 2 = ((false, h), [], 0) by simp [askF]).symm.trans hr.out
    go_enter Try.func13, Try.ntmps13
    go_wp2_with (first
      | (refine bx26 (by rfl) _ (by rfl) _ (by rfl) hs ?_
         intro _))
    have H4 := hid (T3.new2 w t false h false h)
    have R0 := H4.out.r0
    have R1 := H4.out.r1
    generalize World.alloc (World.alloc _ _) _ = v4 at H4 R0 R1 ⊢
    refine bodyPost_ret (v := .tuple #[.agg #[.bool false, .bool h], .slice none 0 0, .int .i64 0]) (by simp [results, Try.results13, R0, R1, go_sem]) rfl ?_
    exact ⟨none, 0, 0, rfl, hid rfl, hid (slb_none _), hid H4.out.bel⟩
  by_cases e3 : what = 3
  · subst e3
    clear e1 e2
    have hv : askF t s h 3 = ((s, h), toldF t 9, 0) := by simp [askF]
    obtain rfl : ((s, h), toldF t 9, 0) = r := hv.symm.trans hr.out
    clear hv
    obtain ⟨l, hl⟩ : ∃ l, Hid (toldF t 9 = l) := ⟨_, hid rfl⟩
    go_enter Try.func13, Try.ntmps13
    go_wp2_with (first
      | (refine bx26 (by rfl) _ (by rfl) _ (by rfl) hs ?_
         intro _))
    generalize World.alloc (World.alloc _ _) _ = v1 at H0 ⊢
    have H1d := hid H0.out.drew
    have f0 := H1d.out.f0
    have f1 := H1d.out.f1
    have r0 := H1d.out.r0
    have r1 := H1d.out.r1
    have z0 := H1d.out.bf.frozen 0
    have z1 := H1d.out.bf.frozen 1
    have y0 := H1d.out.br.frozen 0
    have y1 := H1d.out.br.frozen 1
    obtain ⟨q1, q2⟩ := box_isB H1d.out.bt ht.len
    go_region_law (first
      | (go_simp
         go_at_call 23
         (with_reducible refine (toldr_any _ t ht 9 hl).mono ?_)
         rintro e v2 ⟨A, n, c, rfl, hn, hS, k2⟩
         have H2 := hid (H1d.out.grow k2.out)
         have f0' := H2.out.f0
         have f1' := H2.out.f1
         have y0' := H2.out.br.frozen 0
         have y1' := H2.out.br.frozen 1
         have r0' := H2.out.r0
         have r1' := H2.out.r1))
    all_goals
      have H4 := hid (H2.out.res s h)
      have R0 := H4.out.r0
      have R1 := H4.out.r1
      have S4 := slb_flow hS (st2_others v2 (w.heap.size + 1 + 1) (.bool s) (.bool h)) (H2.out.br)
      generalize World.setCell _ _ _ = v4 at H4 R0 R1 S4 ⊢
      try go_wp2
      refine bodyPost_ret (v := .tuple #[.agg #[.bool s, .bool h], .slice A n c, .int .i64 0]) (by simp [results, Try.results13, R0, R1, go_sem]) rfl ?_
      exact ⟨A, n, c, rfl, hid (by rw [hl.out]; exact hn.out), hid (by rw [hl.out]; exact S4), hid H4.out.bel⟩
  by_cases e4 : what = 4
  · subst e4
    clear e1 e2 e3
    have hv : askF t s h 4 = ((s, h), toldF t 8, 0) := by simp [askF]
    obtain rfl : ((s, h), toldF t 8, 0) = r := hv.symm.trans hr.out
    clear hv
    obtain ⟨l, hl⟩ : ∃ l, Hid (toldF t 8 = l) := ⟨_, hid rfl⟩
    go_enter Try.func13, Try.ntmps13
    go_wp2_with (first
      | (refine bx26 (by rfl) _ (by rfl) _ (by rfl) hs ?_
         intro _))
    generalize World.alloc (World.alloc _ _) _ = v1 at H0 ⊢
    have H1d := hid H0.out.drew
    have f0 := H1d.out.f0
    have f1 := H1d.out.f1
    have r0 := H1d.out.r0
    have r1 := H1d.out.r1
    have z0 := H1d.out.bf.frozen 0
    have z1 := H1d.out.bf.frozen 1
    have y0 := H1d.out.br.frozen 0
    have y1 := H1d.out.br.frozen 1
    obtain ⟨q1, q2⟩ := box_isB H1d.out.bt ht.len
    go_region_law (first
      | (go_simp
         go_at_call 23
         (with_reducible refine (toldr_any _ t ht 8 hl).mono ?_)
         rintro e v2 ⟨A, n, c, rfl, hn, hS, k2⟩
         have H2 := hid (H1d.out.grow k2.out)
         have f0' := H2.out.f0
         have f1' := H2.out.f1
         have y0' := H2.out.br.frozen 0
         have y1' := H2.out.br.frozen 1
         have r0' := H2.out.r0
         have r1' := H2.out.r1))
    all_goals
      have H4 := hid (H2.out.res s h)
      have R0 := H4.out.r0
      have R1 := H4.out.r1
      have S4 := slb_flow hS (st2_others v2 (w.heap.size + 1 + 1) (.bool s) (.bool h)) (H2.out.br)
      generalize World.setCell _ _ _ = v4 at H4 R0 R1 S4 ⊢
      try go_wp2
      refine bodyPost_ret (v := .tuple #[.agg #[.bool s, .bool h], .slice A n c, .int .i64 0]) (by simp [results, Try.results13, R0, R1, go_sem]) rfl ?_
      exact ⟨A, n, c, rfl, hid (by rw [hl.out]; exact hn.out), hid (by rw [hl.out]; exact S4), hid H4.out.bel⟩
  have k1 : (what == 1) = false := beq_eq_false_iff_ne.2 e1
  have k2 : (what == 2) = false := beq_eq_false_iff_ne.2 e2
  have k3 : (what == 3) = false := beq_eq_false_iff_ne.2 e3
  have k4 : (what == 4) = false := beq_eq_false_iff_ne.2 e4
  obtain rfl : ((false, false), [], 2) = r := (show askF t s h what = ((false, false), [], 2) by simp [askF, e1, e2, e3, e4]).symm.trans hr.out
  clear e1 e2 e3 e4
  go_enter Try.func13, Try.ntmps13
  go_wp2_with (first
    | (refine bx26 (by rfl) _ (by rfl) _ (by rfl) hs ?_
       intro _))
  have H4 := hid (T3.new2 w t s h false false)
  have R0 := H4.out.r0
  have R1 := H4.out.r1
  generalize World.alloc (World.alloc _ _) _ = v4 at H4 R0 R1 ⊢
  refine bodyPost_ret (v := .tuple #[.agg #[.bool false, .bool false], .slice none 0 0, .int .i64 2]) (by simp [results, Try.results13, R0, R1, go_sem]) rfl ?_
  exact ⟨none, 0, 0, rfl, hid rfl, hid (slb_none _), hid H4.out.bel⟩
end Go.Proofs.Ythaecflakefklaa
