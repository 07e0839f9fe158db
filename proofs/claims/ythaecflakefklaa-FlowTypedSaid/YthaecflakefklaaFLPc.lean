import Derived.Test.YthaecflakefklaaFLPb
namespace Go.Proofs.Ythaecflakefklaa
open Go.RowKit

/-! Layer 15: the program's four wishes. -/
/-- A flow, a setting and a result's flow, made one behind the other. -/
structure M3 (w u : World) (t : Tm) (s h a b : Bool) : Prop where
  bel : Below w.heap.size w u
  bf : Box u w.heap.size 32 #[.bool s, .bool h]
  bt : Box u (w.heap.size + 1) 26 t.cs
  br : Box u (w.heap.size + 1 + 1) 32 #[.bool a, .bool b]
section
variable {w u u' : World} {t : Tm} {s h a b : Bool}
theorem M3.new (w : World) (t : Tm) (s h a b : Bool) : M3 w (((w.alloc (.cells #[.bool s, .bool h] 32)).alloc (.cells t.cs 26)).alloc (.cells #[.bool a, .bool b] 32)) t s h a b := by
  have b1 := (Below.refl _ w).alloc (Nat.le_refl _) (.cells #[.bool s, .bool h] 32)
  refine ⟨(b1.alloc b1.size _).alloc (by simp; omega) _, box_al (box_al (box_nw rfl)), box_al ?_, ?_⟩
  · have := Box.new (w.alloc (.cells #[.bool s, .bool h] 32)) 26 t.cs
    rwa [World.size_alloc] at this
  · have := Box.new ((w.alloc (.cells #[.bool s, .bool h] 32)).alloc (.cells t.cs 26)) 32 #[.bool a, .bool b]
    rwa [World.size_alloc, World.size_alloc] at this
theorem M3.grow (H : M3 w u t s h a b) (k : Below u.heap.size u u') : M3 w u' t s h a b := ⟨H.bel.trans (k.mono H.bel.size), box_below H.bf k, box_below H.bt k, box_below H.br k⟩
theorem M3.f0 (H : M3 w u t s h a b) : u.cell? ⟨w.heap.size, 0, none⟩ = some (.bool s) := by simpa using H.bf.cell 0
theorem M3.f1 (H : M3 w u t s h a b) : u.cell? ⟨w.heap.size, 1, none⟩ = some (.bool h) := by simpa using H.bf.cell 1
theorem M3.r0 (H : M3 w u t s h a b) : u.cell? ⟨w.heap.size + 1 + 1, 0, none⟩ = some (.bool a) := by simpa using H.br.cell 0
theorem M3.r1 (H : M3 w u t s h a b) : u.cell? ⟨w.heap.size + 1 + 1, 1, none⟩ = some (.bool b) := by simpa using H.br.cell 1
theorem M3.res (H : M3 w u t s h a b) (x y : Bool) : M3 w ((u.setCell ⟨w.heap.size + 1 + 1, 0, none⟩ (.bool x)).setCell ⟨w.heap.size + 1 + 1, 1, none⟩ (.bool y)) t s h x y := by
  have k1 := Turn.setCell u (w.heap.size + 1 + 1) 0 (.bool x)
  have k2 := Turn.setCell (u.setCell ⟨w.heap.size + 1 + 1, 0, none⟩ (.bool x)) (w.heap.size + 1 + 1) 1 (.bool y)
  exact ⟨(H.bel.trans (k1.below (by omega))).trans (k2.below (by omega)), k2.box (k1.box H.bf (by omega)) (by omega), k2.box (k1.box H.bt (by omega)) (by omega), by simpa using (H.br.store 0 (.bool x)).store 1 (.bool y)⟩
theorem M3.drew (H : M3 w u t s h a b) : M3 w u.drew t s h a b := ⟨H.bel.drew, H.bf, H.bt, H.br⟩
end
attribute [local go_sem ↓] wp_ld26 Go.wp_at_zero Go.wp_at_succ
attribute [local go_sem] isP_v blkV_v aggV_v
set_option maxRecDepth 100000 in
theorem outOffp_any (w : World) (t : Tm) (ht : t.Ok) (s h : Bool) : Calls Try.prog 24 #[.agg #[.bool s, .bool h], .agg t.cs] w (RetM w ((true, h), [])) := by
  have hs := cs_size ht.len
  have H0 := hid (M3.new w t true h true h)
  go_enter Try.func24, Try.ntmps24
  go_wp2_with (first
    | (refine bx26 (by rfl) _ (by rfl) _ (by rfl) hs ?_
       intro _))
  have R0 := H0.out.r0
  have R1 := H0.out.r1
  generalize World.alloc (World.alloc _ _) _ = v4 at H0 R0 R1 ⊢
  refine bodyPost_ret (v := .tuple #[.agg #[.bool true, .bool h], .slice none 0 0]) (by simp [results, Try.results24, R0, R1, go_sem]) rfl ?_
  exact ⟨none, 0, 0, rfl, hid rfl, hid (slb_none _), hid H0.out.bel⟩
set_option maxRecDepth 100000 in
theorem outOnp_any (w : World) (t : Tm) (ht : t.Ok) (s h : Bool) : Calls Try.prog 25 #[.agg #[.bool s, .bool h], .agg t.cs] w (RetM w ((false, h), [])) := by
  have hs := cs_size ht.len
  have H0 := hid (M3.new w t false h false h)
  go_enter Try.func25, Try.ntmps25
  go_wp2_with (first
    | (refine bx26 (by rfl) _ (by rfl) _ (by rfl) hs ?_
       intro _))
  have R0 := H0.out.r0
  have R1 := H0.out.r1
  generalize World.alloc (World.alloc _ _) _ = v4 at H0 R0 R1 ⊢
  refine bodyPost_ret (v := .tuple #[.agg #[.bool false, .bool h], .slice none 0 0]) (by simp [results, Try.results25, R0, R1, go_sem]) rfl ?_
  exact ⟨none, 0, 0, rfl, hid rfl, hid (slb_none _), hid H0.out.bel⟩
set_option maxRecDepth 100000 in
theorem inOffp_any (w : World) (t : Tm) (ht : t.Ok) (s h : Bool) : Calls Try.prog 26 #[.agg #[.bool s, .bool h], .agg t.cs] w (RetM w ((s, h), toldF t 9)) := by
  have hs := cs_size ht.len
  have H0 := hid (M3.new w t s h false false)
  obtain ⟨l, hl⟩ : ∃ l, Hid (toldF t 9 = l) := ⟨_, hid rfl⟩
  go_enter Try.func26, Try.ntmps26
  go_wp2_with (first
    | (refine bx26 (by rfl) _ (by rfl) _ (by rfl) hs ?_
       intro _))
  generalize World.alloc (World.alloc _ _) _ = v1 at H0 ⊢
  have H1d := hid H0.out.drew
  have f0 := H1d.out.f0
  have f1 := H1d.out.f1
  have r0 := H1d.out.r0
  have r1 := H1d.out.r1
  have z0 := H1d.out.bf.frozen 0
  have z1 := H1d.out.bf.frozen 1
  have y0 := H1d.out.br.frozen 0
  have y1 := H1d.out.br.frozen 1
  obtain ⟨q1, q2⟩ := box_isB H1d.out.bt ht.len
  go_region_law (first
    | (go_simp
       go_at_call 22
       (with_reducible refine (toldp_any _ t ht 9 hl).mono ?_)
       rintro e v2 ⟨A, n, c, rfl, hn, hS, k2⟩
       have H2 := hid (H1d.out.grow k2.out)
       have f0' := H2.out.f0
       have f1' := H2.out.f1
       have y0' := H2.out.br.frozen 0
       have y1' := H2.out.br.frozen 1
       have r0' := H2.out.r0
       have r1' := H2.out.r1))
  all_goals
    have H4 := hid (H2.out.res s h)
    have R0 := H4.out.r0
    have R1 := H4.out.r1
    have S4 := slb_flowp hS (st2_others v2 (w.heap.size + 1 + 1) (.bool s) (.bool h)) (H2.out.br)
    generalize World.setCell _ _ _ = v4 at H4 R0 R1 S4 ⊢
    try go_wp2
    refine bodyPost_ret (v := .tuple #[.agg #[.bool s, .bool h], .slice A n c]) (by simp [results, Try.results26, R0, R1, go_sem]) rfl ?_
    exact ⟨A, n, c, rfl, hid (by rw [hl.out]; exact hn.out), hid (by rw [hl.out]; exact S4), hid H4.out.bel⟩
set_option maxRecDepth 100000 in
theorem inOnp_any (w : World) (t : Tm) (ht : t.Ok) (s h : Bool) : Calls Try.prog 27 #[.agg #[.bool s, .bool h], .agg t.cs] w (RetM w ((s, h), toldF t 8)) := by
  have hs := cs_size ht.len
  have H0 := hid (M3.new w t s h false false)
  obtain ⟨l, hl⟩ : ∃ l, Hid (toldF t 8 = l) := ⟨_, hid rfl⟩
  go_enter Try.func27, Try.ntmps27
  go_wp2_with (first
    | (refine bx26 (by rfl) _ (by rfl) _ (by rfl) hs ?_
       intro _))
  generalize World.alloc (World.alloc _ _) _ = v1 at H0 ⊢
  have H1d := hid H0.out.drew
  have f0 := H1d.out.f0
  have f1 := H1d.out.f1
  have r0 := H1d.out.r0
  have r1 := H1d.out.r1
  have z0 := H1d.out.bf.frozen 0
  have z1 := H1d.out.bf.frozen 1
  have y0 := H1d.out.br.frozen 0
  have y1 := H1d.out.br.frozen 1
  obtain ⟨q1, q2⟩ := box_isB H1d.out.bt ht.len
  go_region_law (first
    | (go_simp
       go_at_call 22
       (with_reducible refine (toldp_any _ t ht 8 hl).mono ?_)
       rintro e v2 ⟨A, n, c, rfl, hn, hS, k2⟩
       have H2 := hid (H1d.out.grow k2.out)
       have f0' := H2.out.f0
       have f1' := H2.out.f1
       have y0' := H2.out.br.frozen 0
       have y1' := H2.out.br.frozen 1
       have r0' := H2.out.r0
       have r1' := H2.out.r1))
  all_goals
    have H4 := hid (H2.out.res s h)
    have R0 := H4.out.r0
    have R1 := H4.out.r1
    have S4 := slb_flowp hS (st2_others v2 (w.heap.size + 1 + 1) (.bool s) (.bool h)) (H2.out.br)
    generalize World.setCell _ _ _ = v4 at H4 R0 R1 S4 ⊢
    try go_wp2
    refine bodyPost_ret (v := .tuple #[.agg #[.bool s, .bool h], .slice A n c]) (by simp [results, Try.results27, R0, R1, go_sem]) rfl ?_
    exact ⟨A, n, c, rfl, hid (by rw [hl.out]; exact hn.out), hid (by rw [hl.out]; exact S4), hid H4.out.bel⟩
end Go.Proofs.Ythaecflakefklaa
