import Derived.Test.YthaecflakefklaaFLC
namespace Go.Proofs.Ythaecflakefklaa
open Go.RowKit

/-! Layer 15: the program's character, Typed. -/
theorem isp_b (w : World) (t : Tm) (ht : t.Ok) (op : Int) (x : UInt8) {b : Bool} (hb : isC t op x = b) : Calls Try.prog 15 #[.agg t.cs, .int .i64 op, .int .u8 (x.toNat : Int)] w fun e w' => e = .returned (.bool b) ∧ Hid (Below w.heap.size w w') := by
  subst hb
  exact is_any w t ht op x
set_option maxRecDepth 100000 in
theorem toldp_any (w : World) (t : Tm) (ht : t.Ok) (op : Int) {l : List UInt8} (hl : Hid (toldF t op = l)) : Calls Try.prog 22 #[.agg t.cs, .int .i64 op] w (Ret w l) := by
  have hs := cs_size ht.len
  have K0 := old26 w t
  cases hb : chB t op
  · have e : toldF t op = [] := by unfold toldF; rw [hb]; rfl
    obtain rfl : [] = l := e.symm.trans hl.out
    go_enter Try.func22, Try.ntmps22
    go_wp2_with (first
      | (refine bx26 (by rfl) _ (by rfl) _ (by rfl) hs ?_
         intro G0)
      | (refine ld26 (by rfl) _ (by rfl) _ (by rfl) t.cs G0.out hs ?_)
      | (go_at_call 18
         (with_reducible refine (char_any _ t ht op).mono ?_)
         rw [hb]
         rintro e u1 ⟨rfl, k1⟩
         have K1 := bel_t K0 k1.out))
    go_ret
    exact ret_nil K1
  · have e : toldF t op = [chV t op] := by unfold toldF; rw [hb]; rfl
    obtain rfl : [chV t op] = l := e.symm.trans hl.out
    go_enter Try.func22, Try.ntmps22
    go_wp2_with (first
      | (refine bx26 (by rfl) _ (by rfl) _ (by rfl) hs ?_
         intro G0)
      | (refine ld26 (by rfl) _ (by rfl) _ (by rfl) t.cs G0.out hs ?_)
      | (go_at_call 18
         (with_reducible refine (char_any _ t ht op).mono ?_)
         rw [hb]
         rintro e u1 ⟨rfl, k1⟩
         have K1 := bel_t K0 k1.out))
    go_ret
    exact ret_lit (bs := [chV t op]) rfl rfl (by decide) rfl K1
/-- A setting, a flow and a result's flow, made one behind the other. -/
structure P3 (w u : World) (t : Tm) (s h a b : Bool) : Prop where
  bel : Below w.heap.size w u
  bt : Box u w.heap.size 26 t.cs
  bf : Box u (w.heap.size + 1) 32 #[.bool s, .bool h]
  br : Box u (w.heap.size + 1 + 1) 32 #[.bool a, .bool b]
section
variable {w u u' : World} {t : Tm} {s h a b : Bool}
theorem P3.new (w : World) (t : Tm) (s h : Bool) : P3 w (((w.alloc (.cells t.cs 26)).alloc (.cells #[.bool s, .bool h] 32)).alloc (.cells #[.bool false, .bool false] 32)) t s h false false := by
  have b1 := (Below.refl _ w).alloc (Nat.le_refl _) (.cells t.cs 26)
  refine ⟨(b1.alloc b1.size _).alloc (by simp; omega) _, box_al (box_al (box_nw rfl)), box_al ?_, ?_⟩
  · have := Box.new (w.alloc (.cells t.cs 26)) 32 #[.bool s, .bool h]
    rwa [World.size_alloc] at this
  · have := Box.new ((w.alloc (.cells t.cs 26)).alloc (.cells #[.bool s, .bool h] 32)) 32 #[.bool false, .bool false]
    rwa [World.size_alloc, World.size_alloc] at this
theorem P3.grow (H : P3 w u t s h a b) (k : Below u.heap.size u u') : P3 w u' t s h a b := ⟨H.bel.trans (k.mono H.bel.size), box_below H.bt k, box_below H.bf k, box_below H.br k⟩
theorem P3.f0 (H : P3 w u t s h a b) : u.cell? ⟨w.heap.size + 1, 0, none⟩ = some (.bool s) := by simpa using H.bf.cell 0
theorem P3.f1 (H : P3 w u t s h a b) : u.cell? ⟨w.heap.size + 1, 1, none⟩ = some (.bool h) := by simpa using H.bf.cell 1
theorem P3.r0 (H : P3 w u t s h a b) : u.cell? ⟨w.heap.size + 1 + 1, 0, none⟩ = some (.bool a) := by simpa using H.br.cell 0
theorem P3.r1 (H : P3 w u t s h a b) : u.cell? ⟨w.heap.size + 1 + 1, 1, none⟩ = some (.bool b) := by simpa using H.br.cell 1
theorem P3.setS (H : P3 w u t s h a b) (x : Bool) : P3 w (u.setCell ⟨w.heap.size + 1, 0, none⟩ (.bool x)) t x h a b :=
  ⟨H.bel.trans ((Turn.setCell u (w.heap.size + 1) 0 _).below (by omega)), (Turn.setCell u (w.heap.size + 1) 0 _).box H.bt (by omega), by simpa using H.bf.store 0 (.bool x), (Turn.setCell u (w.heap.size + 1) 0 _).box H.br (by omega)⟩
theorem P3.setH (H : P3 w u t s h a b) (x : Bool) : P3 w (u.setCell ⟨w.heap.size + 1, 1, none⟩ (.bool x)) t s x a b :=
  ⟨H.bel.trans ((Turn.setCell u (w.heap.size + 1) 1 _).below (by omega)), (Turn.setCell u (w.heap.size + 1) 1 _).box H.bt (by omega), by simpa using H.bf.store 1 (.bool x), (Turn.setCell u (w.heap.size + 1) 1 _).box H.br (by omega)⟩
theorem P3.res (H : P3 w u t s h a b) (x y : Bool) : P3 w ((u.setCell ⟨w.heap.size + 1 + 1, 0, none⟩ (.bool x)).setCell ⟨w.heap.size + 1 + 1, 1, none⟩ (.bool y)) t s h x y := by
  have k1 := Turn.setCell u (w.heap.size + 1 + 1) 0 (.bool x)
  have k2 := Turn.setCell (u.setCell ⟨w.heap.size + 1 + 1, 0, none⟩ (.bool x)) (w.heap.size + 1 + 1) 1 (.bool y)
  exact ⟨(H.bel.trans (k1.below (by omega))).trans (k2.below (by omega)), k2.box (k1.box H.bt (by omega)) (by omega), k2.box (k1.box H.bf (by omega)) (by omega), by simpa using (H.br.store 0 (.bool x)).store 1 (.bool y)⟩
theorem P3.drew (H : P3 w u t s h a b) : P3 w u.drew t s h a b := ⟨H.bel.drew, H.bt, H.bf, H.br⟩
end
theorem p33 {u0 : World} {z : Gr u0} (t : Tm) (ht : t.Ok) (op : Int) (x : UInt8) {b : Bool} (hb : Hid (isC t op x = b)) : Calls Try.prog 15 #[.agg t.cs, .int .i64 op, .int .u8 (x.toNat : Int)] (grw z) fun e w'' => e = .returned (.bool b) ∧ ∃ z' : Gr u0, w'' = grw z' :=
  gr_call (isp_b _ t ht op x hb.out)
attribute [local go_sem ↓] wq_ld26 Go.wp_at_zero Go.wp_at_succ
attribute [local go_sem] isP_v blkV_v aggV_v
set_option maxRecDepth 100000 in
set_option maxHeartbeats 4000000 in
theorem typedp_any (w : World) (t : Tm) (ht : t.Ok) (s h : Bool) (c : UInt8) {r : (Bool × Bool) × Bool} (hr : Hid (typedF t s h c = r)) : Calls Try.prog 8 #[.agg t.cs, .agg #[.bool s, .bool h], .int .u8 (c.toNat : Int)] w (RetT w r) := by
  have hs := cs_size ht.len
  have H0 := hid (P3.new w t s h)
  cases h38 : hasN t.f 38
  · obtain rfl : ((s, h), false) = r := by have := hr.out; unfold typedF at this; rwa [if_pos h38] at this
    go_enter Try.func8, Try.ntmps8
    go_wp2_with (first
      | (refine bx26 (by rfl) _ (by rfl) _ (by rfl) hs ?_
         intro _)
      | (refine ld26 (by rfl) _ (by rfl) _ (by rfl) t.cs H0.out.bt hs ?_)
      | (go_at_call 16
         (with_reducible refine (has_b _ ht h38).mono ?_)
         rintro e v1 ⟨rfl, k1⟩
         have H1 := hid (H0.out.grow k1.out)
         have f0 := H1.out.f0
         have f1 := H1.out.f1
         have r0 := H1.out.r0
         have r1 := H1.out.r1
         have z0 := H1.out.bf.frozen 0
         have z1 := H1.out.bf.frozen 1
         have y0 := H1.out.br.frozen 0
         have y1 := H1.out.br.frozen 1))
    have H2 := hid (H1.out.res s h)
    have R0 := H2.out.r0
    have R1 := H2.out.r1
    generalize World.setCell _ _ _ = v2 at H2 R0 R1 ⊢
    refine bodyPost_ret (v := .tuple #[.agg #[.bool s, .bool h], .bool false]) (by simp [results, Try.results8, R0, R1, go_sem]) rfl ?_
    exact ⟨rfl, hid H2.out.bel⟩
  · cases ha : isC t 8 c
    all_goals
      have HA := hid ha
    · cases hb : isC t 9 c
      all_goals
        have HBB := hid hb
      · cases h39 : hasN t.f 39
        · have hv : typedF t s h c = ((s, h), false) := by unfold typedF; rw [if_neg (by rw [h38]; decide)]; simp [ha, hb, h39]
          obtain rfl : ((s, h), false) = r := hv.symm.trans hr.out
          clear hv
          go_enter Try.func8, Try.ntmps8
          go_wp2_with (first
            | (refine bx26 (by rfl) _ (by rfl) _ (by rfl) hs ?_
               intro _)
            | (refine ld26 (by rfl) _ (by rfl) _ (by rfl) t.cs H0.out.bt hs ?_)
            | (go_at_call 16
               (with_reducible refine (has_b _ ht h38).mono ?_)
               rintro e v1 ⟨rfl, k1⟩
               have H1 := hid (H0.out.grow k1.out)))
          obtain ⟨q1, q2⟩ := box_isB H1.out.bt ht.len
          refine wp_region_grown (by kernel_rfl) (by kernel_rfl) ?_
          repeat (go_big_quiet_step (first | (go_at_call 15; with_reducible exact p33 t ht _ c HA) | (go_at_call 15; with_reducible exact p33 t ht _ c HBB)))
          refine wpQuiet_nil ?_
          intro z
          have H2 := hid (H1.out.grow (show Below v1.heap.size v1 (grw z) from z.b))
          generalize grw z = v2 at H2 ⊢
          have f0 := H2.out.f0
          have f1 := H2.out.f1
          have r0 := H2.out.r0
          have r1 := H2.out.r1
          have z0 := H2.out.bf.frozen 0
          have z1 := H2.out.bf.frozen 1
          have y0 := H2.out.br.frozen 0
          have y1 := H2.out.br.frozen 1
          have B2 := H2.out.bt
          go_wp2_with (first
            | (refine ld26 (by rfl) _ (by rfl) _ (by rfl) t.cs B2 hs ?_)
            | (go_at_call 16
               (with_reducible refine (has_b _ ht h39).mono ?_)
               rintro e v3 ⟨rfl, k3⟩
               have H3 := hid (H2.out.grow k3.out)
               clear f0 f1 r0 r1 z0 z1 y0 y1
               have f0 := H3.out.f0
               have f1 := H3.out.f1
               have r0 := H3.out.r0
               have r1 := H3.out.r1
               have z0 := H3.out.bf.frozen 0
               have z1 := H3.out.bf.frozen 1
               have y0 := H3.out.br.frozen 0
               have y1 := H3.out.br.frozen 1))
          have H4 := hid (H3.out.res s h)
          have R0 := H4.out.r0
          have R1 := H4.out.r1
          generalize World.setCell _ _ _ = v4 at H4 R0 R1 ⊢
          refine bodyPost_ret (v := .tuple #[.agg #[.bool s, .bool h], .bool false]) (by simp [results, Try.results8, R0, R1, go_sem]) rfl ?_
          exact ⟨rfl, hid H4.out.bel⟩
        · have hv : typedF t s h c = ((false, h), false) := by unfold typedF; rw [if_neg (by rw [h38]; decide)]; simp [ha, hb, h39]
          obtain rfl : ((false, h), false) = r := hv.symm.trans hr.out
          clear hv
          go_enter Try.func8, Try.ntmps8
          go_wp2_with (first
            | (refine bx26 (by rfl) _ (by rfl) _ (by rfl) hs ?_
               intro _)
            | (refine ld26 (by rfl) _ (by rfl) _ (by rfl) t.cs H0.out.bt hs ?_)
            | (go_at_call 16
               (with_reducible refine (has_b _ ht h38).mono ?_)
               rintro e v1 ⟨rfl, k1⟩
               have H1 := hid (H0.out.grow k1.out)))
          obtain ⟨q1, q2⟩ := box_isB H1.out.bt ht.len
          refine wp_region_grown (by kernel_rfl) (by kernel_rfl) ?_
          repeat (go_big_quiet_step (first | (go_at_call 15; with_reducible exact p33 t ht _ c HA) | (go_at_call 15; with_reducible exact p33 t ht _ c HBB)))
          refine wpQuiet_nil ?_
          intro z
          have H2 := hid (H1.out.grow (show Below v1.heap.size v1 (grw z) from z.b))
          generalize grw z = v2 at H2 ⊢
          have f0 := H2.out.f0
          have f1 := H2.out.f1
          have r0 := H2.out.r0
          have r1 := H2.out.r1
          have z0 := H2.out.bf.frozen 0
          have z1 := H2.out.bf.frozen 1
          have y0 := H2.out.br.frozen 0
          have y1 := H2.out.br.frozen 1
          have B2 := H2.out.bt
          go_wp2_with (first
            | (refine ld26 (by rfl) _ (by rfl) _ (by rfl) t.cs B2 hs ?_)
            | (go_at_call 16
               (with_reducible refine (has_b _ ht h39).mono ?_)
               rintro e v3 ⟨rfl, k3⟩
               have H3 := hid (H2.out.grow k3.out)
               clear f0 f1 r0 r1 z0 z1 y0 y1
               have f0 := H3.out.f0
               have f1 := H3.out.f1
               have r0 := H3.out.r0
               have r1 := H3.out.r1
               have z0 := H3.out.bf.frozen 0
               have z1 := H3.out.bf.frozen 1
               have y0 := H3.out.br.frozen 0
               have y1 := H3.out.br.frozen 1))
          have H4 := hid ((H3.out.setS false).res false h)
          have R0 := H4.out.r0
          have R1 := H4.out.r1
          generalize World.setCell _ _ _ = v4 at H4 R0 R1 ⊢
          refine bodyPost_ret (v := .tuple #[.agg #[.bool false, .bool h], .bool false]) (by simp [results, Try.results8, R0, R1, go_sem]) rfl ?_
          exact ⟨rfl, hid H4.out.bel⟩
      · have hv : typedF t s h c = ((true, h), true) := by unfold typedF; rw [if_neg (by rw [h38]; decide)]; simp [ha, hb]
        obtain rfl : ((true, h), true) = r := hv.symm.trans hr.out
        clear hv
        go_enter Try.func8, Try.ntmps8
        go_wp2_with (first
          | (refine bx26 (by rfl) _ (by rfl) _ (by rfl) hs ?_
             intro _)
          | (refine ld26 (by rfl) _ (by rfl) _ (by rfl) t.cs H0.out.bt hs ?_)
          | (go_at_call 16
             (with_reducible refine (has_b _ ht h38).mono ?_)
             rintro e v1 ⟨rfl, k1⟩
             have H1 := hid (H0.out.grow k1.out)))
        obtain ⟨q1, q2⟩ := box_isB H1.out.bt ht.len
        refine wp_region_grown (by kernel_rfl) (by kernel_rfl) ?_
        repeat (go_big_quiet_step (first | (go_at_call 15; with_reducible exact p33 t ht _ c HA) | (go_at_call 15; with_reducible exact p33 t ht _ c HBB)))
        refine wpQuiet_nil ?_
        intro z
        have H2 := hid (H1.out.grow (show Below v1.heap.size v1 (grw z) from z.b))
        generalize grw z = v2 at H2 ⊢
        have f0 := H2.out.f0
        have f1 := H2.out.f1
        have r0 := H2.out.r0
        have r1 := H2.out.r1
        have z0 := H2.out.bf.frozen 0
        have z1 := H2.out.bf.frozen 1
        have y0 := H2.out.br.frozen 0
        have y1 := H2.out.br.frozen 1
        have B2 := H2.out.bt
        go_wp2
        have H4 := hid ((H2.out.setS true).res true h)
        have R0 := H4.out.r0
        have R1 := H4.out.r1
        generalize World.setCell _ _ _ = v3 at H4 R0 R1 ⊢
        refine bodyPost_ret (v := .tuple #[.agg #[.bool true, .bool h], .bool true]) (by simp [results, Try.results8, R0, R1, go_sem]) rfl ?_
        exact ⟨rfl, hid H4.out.bel⟩
    · cases hb : isC t 9 c
      all_goals
        have HBB := hid hb
      · have hv : typedF t s h c = ((false, h), true) := by unfold typedF; rw [if_neg (by rw [h38]; decide)]; simp [ha, hb]
        obtain rfl : ((false, h), true) = r := hv.symm.trans hr.out
        clear hv
        go_enter Try.func8, Try.ntmps8
        go_wp2_with (first
          | (refine bx26 (by rfl) _ (by rfl) _ (by rfl) hs ?_
             intro _)
          | (refine ld26 (by rfl) _ (by rfl) _ (by rfl) t.cs H0.out.bt hs ?_)
          | (go_at_call 16
             (with_reducible refine (has_b _ ht h38).mono ?_)
             rintro e v1 ⟨rfl, k1⟩
             have H1 := hid (H0.out.grow k1.out)))
        obtain ⟨q1, q2⟩ := box_isB H1.out.bt ht.len
        refine wp_region_grown (by kernel_rfl) (by kernel_rfl) ?_
        repeat (go_big_quiet_step (first | (go_at_call 15; with_reducible exact p33 t ht _ c HA) | (go_at_call 15; with_reducible exact p33 t ht _ c HBB)))
        refine wpQuiet_nil ?_
        intro z
        have H2 := hid (H1.out.grow (show Below v1.heap.size v1 (grw z) from z.b))
        generalize grw z = v2 at H2 ⊢
        have f0 := H2.out.f0
        have f1 := H2.out.f1
        have r0 := H2.out.r0
        have r1 := H2.out.r1
        have z0 := H2.out.bf.frozen 0
        have z1 := H2.out.bf.frozen 1
        have y0 := H2.out.br.frozen 0
        have y1 := H2.out.br.frozen 1
        have B2 := H2.out.bt
        go_wp2
        have H4 := hid ((H2.out.setS false).res false h)
        have R0 := H4.out.r0
        have R1 := H4.out.r1
        generalize World.setCell _ _ _ = v3 at H4 R0 R1 ⊢
        refine bodyPost_ret (v := .tuple #[.agg #[.bool false, .bool h], .bool true]) (by simp [results, Try.results8, R0, R1, go_sem]) rfl ?_
        exact ⟨rfl, hid H4.out.bel⟩
      · have hv : typedF t s h c = ((!s, h), true) := by unfold typedF; rw [if_neg (by rw [h38]; decide)]; simp [ha, hb]
        obtain rfl : ((!s, h), true) = r := hv.symm.trans hr.out
        clear hv
        go_enter Try.func8, Try.ntmps8
        go_wp2_with (first
          | (refine bx26 (by rfl) _ (by rfl) _ (by rfl) hs ?_
             intro _)
          | (refine ld26 (by rfl) _ (by rfl) _ (by rfl) t.cs H0.out.bt hs ?_)
          | (go_at_call 16
             (with_reducible refine (has_b _ ht h38).mono ?_)
             rintro e v1 ⟨rfl, k1⟩
             have H1 := hid (H0.out.grow k1.out)))
        obtain ⟨q1, q2⟩ := box_isB H1.out.bt ht.len
        refine wp_region_grown (by kernel_rfl) (by kernel_rfl) ?_
        repeat (go_big_quiet_step (first | (go_at_call 15; with_reducible exact p33 t ht _ c HA) | (go_at_call 15; with_reducible exact p33 t ht _ c HBB)))
        refine wpQuiet_nil ?_
        intro z
        have H2 := hid (H1.out.grow (show Below v1.heap.size v1 (grw z) from z.b))
        generalize grw z = v2 at H2 ⊢
        have f0 := H2.out.f0
        have f1 := H2.out.f1
        have r0 := H2.out.r0
        have r1 := H2.out.r1
        have z0 := H2.out.bf.frozen 0
        have z1 := H2.out.bf.frozen 1
        have y0 := H2.out.br.frozen 0
        have y1 := H2.out.br.frozen 1
        have B2 := H2.out.bt
        go_wp2
        have H4 := hid ((H2.out.setS (!s)).res (!s) h)
        have R0 := H4.out.r0
        have R1 := H4.out.r1
        generalize World.setCell _ _ _ = v3 at H4 R0 R1 ⊢
        refine bodyPost_ret (v := .tuple #[.agg #[.bool (!s), .bool h], .bool true]) (by simp [results, Try.results8, R0, R1, go_sem]) rfl ?_
        exact ⟨rfl, hid H4.out.bel⟩
end Go.Proofs.Ythaecflakefklaa
