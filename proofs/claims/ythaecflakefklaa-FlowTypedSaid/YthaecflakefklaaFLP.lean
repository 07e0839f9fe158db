import Derived.Test.YthaecflakefklaaFLPc
import Derived.Laws.EntriesVeiled
namespace Go.Proofs.Ythaecflakefklaa
open Go.RowKit

/-! Layer 15: the program's Ask. -/
structure A4 (w u : World) (t : Tm) (s h a b : Bool) : Prop where
  p3 : P3 w u t s h a b
  bw : Box u (w.heap.size + 1 + 1 + 1) 65 #[.nilFunc, .func (.func 24) #[] #[], .func (.func 25) #[] #[], .func (.func 26) #[] #[], .func (.func 27) #[] #[]]
section
variable {w u u' : World} {t : Tm} {s h a b : Bool}
theorem A4.new (w : World) (t : Tm) (s h : Bool) : A4 w ((((w.alloc (.cells t.cs 26)).alloc (.cells #[.bool s, .bool h] 32)).alloc (.cells #[.bool false, .bool false] 32)).alloc (.cells #[.nilFunc, .func (.func 24) #[] #[], .func (.func 25) #[] #[], .func (.func 26) #[] #[], .func (.func 27) #[] #[]] 65)) t s h false false := by
  refine ⟨(P3.new w t s h).grow ((Below.refl _ _).alloc (Nat.le_refl _) _), ?_⟩
  have := Box.new (((w.alloc (.cells t.cs 26)).alloc (.cells #[.bool s, .bool h] 32)).alloc (.cells #[.bool false, .bool false] 32)) 65 #[.nilFunc, .func (.func 24) #[] #[], .func (.func 25) #[] #[], .func (.func 26) #[] #[], .func (.func 27) #[] #[]]
  rwa [World.size_alloc, World.size_alloc, World.size_alloc] at this
theorem A4.drew (H : A4 w u t s h a b) : A4 w u.drew t s h a b := ⟨H.p3.drew, H.bw⟩
theorem P3.both (H : P3 w u t s h a b) (x y : Bool) : P3 w ((u.setCell ⟨w.heap.size + 1, 0, none⟩ (.bool x)).setCell ⟨w.heap.size + 1, 1, none⟩ (.bool y)) t x y a b := (H.setS x).setH y
theorem P3.slb {A : Option Addr} {c : Nat} {l : List UInt8} (H : P3 w u t s h a b) (hS : Hid (SlB u u.heap.size A c l)) (x y : Bool) :
    Hid (SlB ((((u.setCell ⟨w.heap.size + 1, 0, none⟩ (.bool x)).setCell ⟨w.heap.size + 1, 1, none⟩ (.bool y)).setCell ⟨w.heap.size + 1 + 1, 0, none⟩ (.bool x)).setCell ⟨w.heap.size + 1 + 1, 1, none⟩ (.bool y)) ((((u.setCell ⟨w.heap.size + 1, 0, none⟩ (.bool x)).setCell ⟨w.heap.size + 1, 1, none⟩ (.bool y)).setCell ⟨w.heap.size + 1 + 1, 0, none⟩ (.bool x)).setCell ⟨w.heap.size + 1 + 1, 1, none⟩ (.bool y)).heap.size A c l) :=
  hid (slb_flowp (hid (slb_flowp hS (st2_others u (w.heap.size + 1) (.bool x) (.bool y)) H.bf)) (st2_others _ (w.heap.size + 1 + 1) (.bool x) (.bool y)) (H.both x y).br)
end
attribute [local go_sem ↓] wp_ld26 Go.wp_at_zero Go.wp_at_succ
attribute [local go_sem] isP_v blkV_v aggV_v
set_option maxRecDepth 100000 in
set_option maxHeartbeats 4000000 in
theorem askp_any (w : World) (t : Tm) (ht : t.Ok) (s h : Bool) (what : Int) {r : (Bool × Bool) × List UInt8 × Int} (hr : Hid (askF t s h what = r)) :
    Calls Try.prog 12 #[.agg t.cs, .agg #[.bool s, .bool h], .int .i64 what] w (RetA w r) := by
  have hs := cs_size ht.len
  by_cases e1 : what = 1
  · subst e1
    obtain rfl : ((true, h), [], 0) = r := (show askF t s h 1 = ((true, h), [], 0) by simp [askF]).symm.trans hr.out
    have H0 := hid (A4.new w t s h)
    go_enter Try.func12, Try.ntmps12
    go_wp2_with (first
      | (refine bx26 (by rfl) _ (by rfl) _ (by rfl) hs ?_
         intro _))
    generalize World.alloc (World.alloc (World.alloc (World.alloc _ _) _) _) _ = v1 at H0 ⊢
    have H1d := hid H0.out.drew
    have f0 := H1d.out.p3.f0
    have f1 := H1d.out.p3.f1
    have z0 := H1d.out.p3.bf.frozen 0
    have z1 := H1d.out.p3.bf.frozen 1
    have g0 : v1.drew.cell? ⟨w.heap.size + 1 + 1 + 1, 1, none⟩ = some (.func (.func 24) #[] #[]) := by simpa using H1d.out.bw.cell 1
    obtain ⟨q1, q2⟩ := box_isB H1d.out.p3.bt ht.len
    go_region_law (first
      | (go_simp
         go_at_call 24
         (with_reducible refine (outOffp_any _ t ht s h).mono ?_)
         rintro e v2 ⟨A, n, c, rfl, hn, hS, k2⟩
         have H2 := hid (H1d.out.p3.grow k2.out)
         have z0' := H2.out.bf.frozen 0
         have z1' := H2.out.bf.frozen 1
         have f0' := H2.out.f0
         have f1' := H2.out.f1
         have y0' := H2.out.br.frozen 0
         have y1' := H2.out.br.frozen 1
         have r0' := H2.out.r0
         have r1' := H2.out.r1))
    all_goals
      have H3 := hid (H2.out.both true h)
      have H4 := hid (H3.out.res true h)
      have S4 := H2.out.slb hS true h
      have R0 := H4.out.r0
      have R1 := H4.out.r1
      have F0 := H3.out.f0
      have F1 := H3.out.f1
      have Z0 := H3.out.r0
      have Z1 := H3.out.r1
      have Y0 := H3.out.br.frozen 0
      have Y1 := H3.out.br.frozen 1
      clear r0' r1' y0' y1' f0' f1' z0' z1'
      generalize World.setCell (World.setCell v2 _ _) _ _ = v3 at H3 H4 F0 F1 Z0 Z1 Y0 Y1 S4 R0 R1 ⊢
      try go_wp2
      generalize World.setCell (World.setCell v3 _ _) _ _ = v4 at H4 S4 R0 R1 ⊢
      refine bodyPost_ret (v := .tuple #[.agg #[.bool true, .bool h], .slice A n c, .int .i64 0]) (by simp [results, Try.results12, R0, R1, go_sem]) rfl ?_
      exact ⟨A, n, c, rfl, hn, S4, hid H4.out.bel⟩
  by_cases e2 : what = 2
  · subst e2
    clear e1
    obtain rfl : ((false, h), [], 0) = r := (show askF t s h 2 = ((false, h), [], 0) by simp [askF]).symm.trans hr.out
    have H0 := hid (A4.new w t s h)
    go_enter Try.func12, Try.ntmps12
    go_wp2_with (first
      | (refine bx26 (by rfl) _ (by rfl) _ (by rfl) hs ?_
         intro _))
    generalize World.alloc (World.alloc (World.alloc (World.alloc _ _) _) _) _ = v1 at H0 ⊢
    have H1d := hid H0.out.drew
    have f0 := H1d.out.p3.f0
    have f1 := H1d.out.p3.f1
    have z0 := H1d.out.p3.bf.frozen 0
    have z1 := H1d.out.p3.bf.frozen 1
    have g0 : v1.drew.cell? ⟨w.heap.size + 1 + 1 + 1, 2, none⟩ = some (.func (.func 25) #[] #[]) := by simpa using H1d.out.bw.cell 2
    obtain ⟨q1, q2⟩ := box_isB H1d.out.p3.bt ht.len
    go_region_law (first
      | (go_simp
         go_at_call 25
         (with_reducible refine (outOnp_any _ t ht s h).mono ?_)
         rintro e v2 ⟨A, n, c, rfl, hn, hS, k2⟩
         have H2 := hid (H1d.out.p3.grow k2.out)
         have z0' := H2.out.bf.frozen 0
         have z1' := H2.out.bf.frozen 1
         have f0' := H2.out.f0
         have f1' := H2.out.f1
         have y0' := H2.out.br.frozen 0
         have y1' := H2.out.br.frozen 1
         have r0' := H2.out.r0
         have r1' := H2.out.r1))
    all_goals
      have H3 := hid (H2.out.both false h)
      have H4 := hid (H3.out.res false h)
      have S4 := H2.out.slb hS false h
      have R0 := H4.out.r0
      have R1 := H4.out.r1
      have F0 := H3.out.f0
      have F1 := H3.out.f1
      have Z0 := H3.out.r0
      have Z1 := H3.out.r1
      have Y0 := H3.out.br.frozen 0
      have Y1 := H3.out.br.frozen 1
      clear r0' r1' y0' y1' f0' f1' z0' z1'
      generalize World.setCell (World.setCell v2 _ _) _ _ = v3 at H3 H4 F0 F1 Z0 Z1 Y0 Y1 S4 R0 R1 ⊢
      try go_wp2
      generalize World.setCell (World.setCell v3 _ _) _ _ = v4 at H4 S4 R0 R1 ⊢
      refine bodyPost_ret (v := .tuple #[.agg #[.bool false, .bool h], .slice A n c, .int .i64 0]) (by simp [results, Try.results12, R0, R1, go_sem]) rfl ?_
      exact ⟨A, n, c, rfl, hn, S4, hid H4.out.bel⟩
  by_cases e3 : what = 3
  · subst e3
    clear e1 e2
    obtain rfl : ((s, h), toldF t 9, 0) = r := (show askF t s h 3 = ((s, h), toldF t 9, 0) by simp [askF]).symm.trans hr.out
    have H0 := hid (A4.new w t s h)
    go_enter Try.func12, Try.ntmps12
    go_wp2_with (first
      | (refine bx26 (by rfl) _ (by rfl) _ (by rfl) hs ?_
         intro _))
    generalize World.alloc (World.alloc (World.alloc (World.alloc _ _) _) _) _ = v1 at H0 ⊢
    have H1d := hid H0.out.drew
    have f0 := H1d.out.p3.f0
    have f1 := H1d.out.p3.f1
    have z0 := H1d.out.p3.bf.frozen 0
    have z1 := H1d.out.p3.bf.frozen 1
    have g0 : v1.drew.cell? ⟨w.heap.size + 1 + 1 + 1, 3, none⟩ = some (.func (.func 26) #[] #[]) := by simpa using H1d.out.bw.cell 3
    obtain ⟨q1, q2⟩ := box_isB H1d.out.p3.bt ht.len
    go_region_law (first
      | (go_simp
         go_at_call 26
         (with_reducible refine (inOffp_any _ t ht s h).mono ?_)
         rintro e v2 ⟨A, n, c, rfl, hn, hS, k2⟩
         have H2 := hid (H1d.out.p3.grow k2.out)
         have z0' := H2.out.bf.frozen 0
         have z1' := H2.out.bf.frozen 1
         have f0' := H2.out.f0
         have f1' := H2.out.f1
         have y0' := H2.out.br.frozen 0
         have y1' := H2.out.br.frozen 1
         have r0' := H2.out.r0
         have r1' := H2.out.r1))
    all_goals
      have H3 := hid (H2.out.both s h)
      have H4 := hid (H3.out.res s h)
      have S4 := H2.out.slb hS s h
      have R0 := H4.out.r0
      have R1 := H4.out.r1
      have F0 := H3.out.f0
      have F1 := H3.out.f1
      have Z0 := H3.out.r0
      have Z1 := H3.out.r1
      have Y0 := H3.out.br.frozen 0
      have Y1 := H3.out.br.frozen 1
      clear r0' r1' y0' y1' f0' f1' z0' z1'
      generalize World.setCell (World.setCell v2 _ _) _ _ = v3 at H3 H4 F0 F1 Z0 Z1 Y0 Y1 S4 R0 R1 ⊢
      try go_wp2
      generalize World.setCell (World.setCell v3 _ _) _ _ = v4 at H4 S4 R0 R1 ⊢
      refine bodyPost_ret (v := .tuple #[.agg #[.bool s, .bool h], .slice A n c, .int .i64 0]) (by simp [results, Try.results12, R0, R1, go_sem]) rfl ?_
      exact ⟨A, n, c, rfl, hn, S4, hid H4.out.bel⟩
  by_cases e4 : what = 4
  · subst e4
    clear e1 e2 e3
    obtain rfl : ((s, h), toldF t 8, 0) = r := (show askF t s h 4 = ((s, h), toldF t 8, 0) by simp [askF]).symm.trans hr.out
    have H0 := hid (A4.new w t s h)
    go_enter Try.func12, Try.ntmps12
    go_wp2_with (first
      | (refine bx26 (by rfl) _ (by rfl) _ (by rfl) hs ?_
         intro _))
    generalize World.alloc (World.alloc (World.alloc (World.alloc _ _) _) _) _ = v1 at H0 ⊢
    have H1d := hid H0.out.drew
    have f0 := H1d.out.p3.f0
    have f1 := H1d.out.p3.f1
    have z0 := H1d.out.p3.bf.frozen 0
    have z1 := H1d.out.p3.bf.frozen 1
    have g0 : v1.drew.cell? ⟨w.heap.size + 1 + 1 + 1, 4, none⟩ = some (.func (.func 27) #[] #[]) := by simpa using H1d.out.bw.cell 4
    obtain ⟨q1, q2⟩ := box_isB H1d.out.p3.bt ht.len
    go_region_law (first
      | (go_simp
         go_at_call 27
         (with_reducible refine (inOnp_any _ t ht s h).mono ?_)
         rintro e v2 ⟨A, n, c, rfl, hn, hS, k2⟩
         have H2 := hid (H1d.out.p3.grow k2.out)
         have z0' := H2.out.bf.frozen 0
         have z1' := H2.out.bf.frozen 1
         have f0' := H2.out.f0
         have f1' := H2.out.f1
         have y0' := H2.out.br.frozen 0
         have y1' := H2.out.br.frozen 1
         have r0' := H2.out.r0
         have r1' := H2.out.r1))
    all_goals
      have H3 := hid (H2.out.both s h)
      have H4 := hid (H3.out.res s h)
      have S4 := H2.out.slb hS s h
      have R0 := H4.out.r0
      have R1 := H4.out.r1
      have F0 := H3.out.f0
      have F1 := H3.out.f1
      have Z0 := H3.out.r0
      have Z1 := H3.out.r1
      have Y0 := H3.out.br.frozen 0
      have Y1 := H3.out.br.frozen 1
      clear r0' r1' y0' y1' f0' f1' z0' z1'
      generalize World.setCell (World.setCell v2 _ _) _ _ = v3 at H3 H4 F0 F1 Z0 Z1 Y0 Y1 S4 R0 R1 ⊢
      try go_wp2
      generalize World.setCell (World.setCell v3 _ _) _ _ = v4 at H4 S4 R0 R1 ⊢
      refine bodyPost_ret (v := .tuple #[.agg #[.bool s, .bool h], .slice A n c, .int .i64 0]) (by simp [results, Try.results12, R0, R1, go_sem]) rfl ?_
      exact ⟨A, n, c, rfl, hn, S4, hid H4.out.bel⟩
  obtain rfl : ((false, false), [], 2) = r := (show askF t s h what = ((false, false), [], 2) by simp [askF, e1, e2, e3, e4]).symm.trans hr.out
  have H0 := hid (P3.new w t s h)
  rcases (by omega : what < 1 ∨ 4 < what) with hw | hw
  · clear e1 e2 e3 e4 hr
    go_enter Try.func12, Try.ntmps12
    go_wp2_with (first
      | (refine bx26 (by rfl) _ (by rfl) _ (by rfl) hs ?_
         intro _))
    have R0 := H0.out.r0
    have R1 := H0.out.r1
    generalize World.alloc (World.alloc _ _) _ = v4 at H0 R0 R1 ⊢
    refine bodyPost_ret (v := .tuple #[.agg #[.bool false, .bool false], .slice none 0 0, .int .i64 2]) (by simp [results, Try.results12, R0, R1, go_sem]) rfl ?_
    exact ⟨none, 0, 0, rfl, hid rfl, hid (slb_none _), hid H0.out.bel⟩
  · have hw2 : ¬ what < 1 := by omega
    clear e1 e2 e3 e4 hr
    go_enter Try.func12, Try.ntmps12
    go_wp2_with (first
      | (refine bx26 (by rfl) _ (by rfl) _ (by rfl) hs ?_
         intro _))
    have R0 := H0.out.r0
    have R1 := H0.out.r1
    generalize World.alloc (World.alloc _ _) _ = v4 at H0 R0 R1 ⊢
    refine bodyPost_ret (v := .tuple #[.agg #[.bool false, .bool false], .slice none 0 0, .int .i64 2]) (by simp [results, Try.results12, R0, R1, go_sem]) rfl ?_
    exact ⟨none, 0, 0, rfl, hid rfl, hid (slb_none _), hid H0.out.bel⟩
end Go.Proofs.Ythaecflakefklaa
