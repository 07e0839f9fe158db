import Derived.Test.YtggcampdkgfmgaaGreatJB
import Derived.Deep.DeepCutAuto
import Derived.Laws.EntriesVeiled
namespace Go.Proofs.YtggcampdkgfmgaaGreat.L15
open Go.RowKit

/-! Layer 15's maths, and the document's Typed. -/
def isC (t : Tm) (op : Int) (c : UInt8) : Bool := chB t op && decide (c = chV t op)
def toldF (t : Tm) (op : Int) : List UInt8 := if chB t op = true then [chV t op] else []
def typedF (t : Tm) (s h : Bool) (c : UInt8) : (Bool × Bool) × Bool :=
  if hasN t.f 38 = false then ((s, h), false)
  else if isC t 8 c = true then (if isC t 9 c = true then ((!s, h), true) else ((false, h), true))
  else if isC t 9 c = true then ((true, h), true) else if hasN t.f 39 = true then ((false, h), false) else ((s, h), false)
def markF (t : Tm) (s h : Bool) (used low high : Int) : (Bool × Bool) × List UInt8 :=
  if h = false then (if hasN t.f 40 = true ∧ high ≤ used then ((s, true), toldF t 9) else ((s, h), []))
  else if low < used then ((s, h), []) else if hasN t.f 40 = true then ((s, false), toldF t 8) else ((s, false), [])
def askF (t : Tm) (s h : Bool) (what : Int) : (Bool × Bool) × List UInt8 × Int :=
  if what = 1 then ((true, h), [], 0) else if what = 2 then ((false, h), [], 0) else if what = 3 then ((s, h), toldF t 9, 0) else if what = 4 then ((s, h), toldF t 8, 0) else ((false, false), [], 2)
/-- Two bools and one. -/
def RetT (w : World) (r : (Bool × Bool) × Bool) (e : Ending) (w' : World) : Prop := e = .returned (.tuple #[.agg #[.bool r.1.1, .bool r.1.2], .bool r.2]) ∧ Hid (Below w.heap.size w w')
/-- A setting, a flow and a result's flow, made one behind the other. -/
structure T3 (w u : World) (t : Tm) (s h a b : Bool) : Prop where
  bel : Below w.heap.size w u
  bt : Box u w.heap.size 26 t.cs
  bf : Box u (w.heap.size + 1) 77 #[.bool s, .bool h]
  br : Box u (w.heap.size + 1 + 1) 77 #[.bool a, .bool b]
section
variable {w u u' : World} {t : Tm} {s h a b : Bool}
theorem T3.new (w : World) (t : Tm) (s h : Bool) : T3 w (((w.alloc (.cells t.cs 26)).alloc (.cells #[.bool s, .bool h] 77)).alloc (.cells #[.bool false, .bool false] 77)) t s h false false := by
  have b1 := (Below.refl _ w).alloc (Nat.le_refl _) (.cells t.cs 26)
  refine ⟨(b1.alloc b1.size _).alloc (by simp; omega) _, box_al (box_al (box_nw rfl)), box_al ?_, ?_⟩
  · have := Box.new (w.alloc (.cells t.cs 26)) 77 #[.bool s, .bool h]
    rwa [World.size_alloc] at this
  · have := Box.new ((w.alloc (.cells t.cs 26)).alloc (.cells #[.bool s, .bool h] 77)) 77 #[.bool false, .bool false]
    rwa [World.size_alloc, World.size_alloc] at this
theorem T3.grow (H : T3 w u t s h a b) (k : Below u.heap.size u u') : T3 w u' t s h a b := ⟨H.bel.trans (k.mono H.bel.size), box_below H.bt k, box_below H.bf k, box_below H.br k⟩
theorem T3.f0 (H : T3 w u t s h a b) : u.cell? ⟨w.heap.size + 1, 0, none⟩ = some (.bool s) := by simpa using H.bf.cell 0
theorem T3.f1 (H : T3 w u t s h a b) : u.cell? ⟨w.heap.size + 1, 1, none⟩ = some (.bool h) := by simpa using H.bf.cell 1
theorem T3.r0 (H : T3 w u t s h a b) : u.cell? ⟨w.heap.size + 1 + 1, 0, none⟩ = some (.bool a) := by simpa using H.br.cell 0
theorem T3.r1 (H : T3 w u t s h a b) : u.cell? ⟨w.heap.size + 1 + 1, 1, none⟩ = some (.bool b) := by simpa using H.br.cell 1
theorem T3.setS (H : T3 w u t s h a b) (x : Bool) : T3 w (u.setCell ⟨w.heap.size + 1, 0, none⟩ (.bool x)) t x h a b :=
  ⟨H.bel.trans ((Turn.setCell u (w.heap.size + 1) 0 _).below (by omega)), (Turn.setCell u (w.heap.size + 1) 0 _).box H.bt (by omega), by simpa using H.bf.store 0 (.bool x), (Turn.setCell u (w.heap.size + 1) 0 _).box H.br (by omega)⟩
theorem T3.setH (H : T3 w u t s h a b) (x : Bool) : T3 w (u.setCell ⟨w.heap.size + 1, 1, none⟩ (.bool x)) t s x a b :=
  ⟨H.bel.trans ((Turn.setCell u (w.heap.size + 1) 1 _).below (by omega)), (Turn.setCell u (w.heap.size + 1) 1 _).box H.bt (by omega), by simpa using H.bf.store 1 (.bool x), (Turn.setCell u (w.heap.size + 1) 1 _).box H.br (by omega)⟩
theorem T3.res (H : T3 w u t s h a b) (x y : Bool) : T3 w ((u.setCell ⟨w.heap.size + 1 + 1, 0, none⟩ (.bool x)).setCell ⟨w.heap.size + 1 + 1, 1, none⟩ (.bool y)) t s h x y := by
  have k1 := Turn.setCell u (w.heap.size + 1 + 1) 0 (.bool x)
  have k2 := Turn.setCell (u.setCell ⟨w.heap.size + 1 + 1, 0, none⟩ (.bool x)) (w.heap.size + 1 + 1) 1 (.bool y)
  exact ⟨(H.bel.trans (k1.below (by omega))).trans (k2.below (by omega)), k2.box (k1.box H.bt (by omega)) (by omega), k2.box (k1.box H.bf (by omega)) (by omega), by simpa using (H.br.store 0 (.bool x)).store 1 (.bool y)⟩
theorem T3.drew (H : T3 w u t s h a b) : T3 w u.drew t s h a b := ⟨H.bel.drew, H.bt, H.bf, H.br⟩
end
attribute [local go_sem ↓] wq_ld26 Go.wp_at_zero Go.wp_at_succ
attribute [local go_sem] isP_v blkV_v aggV_v
end Go.Proofs.YtggcampdkgfmgaaGreat.L15
namespace Go.Proofs.YtggcampdkgfmgaaGreat.L15
open Go.RowKit

/-! Layer 15: the document's Mark. -/
theorem slb_none (w : World) : SlB w w.heap.size none 0 [] := ⟨Nat.le_refl _, Nat.zero_le _, fun _ => rfl, Lies.nil_⟩
def RetM (w : World) (r : (Bool × Bool) × List UInt8) (e : Ending) (w' : World) : Prop := ∃ A n c, e = .returned (.tuple #[.agg #[.bool r.1.1, .bool r.1.2], .slice A n c]) ∧ Hid (r.2.length = n) ∧ Hid (SlB w' w'.heap.size A c r.2) ∧ Hid (Below w.heap.size w w')
theorem st2_others (W : World) (g : Nat) (a b : Value) : ∀ x, x ≠ g → ((W.setCell ⟨g, 0, none⟩ a).setCell ⟨g, 1, none⟩ b).heap[x]? = W.heap[x]? := fun x hx =>
  (heap_setCell_other _ ⟨g, 1, none⟩ x b hx).trans (heap_setCell_other W ⟨g, 0, none⟩ x a hx)
/-- A flow's bools are no bytes: what is stored to them leaves bytes as they are. -/
theorem slb_flow {W W' : World} {g c : Nat} {A : Option Addr} {bs : List UInt8} {x y : Bool} (h : Hid (SlB W W.heap.size A c bs)) (k : ∀ b, b ≠ g → W'.heap[b]? = W.heap[b]?) (hb : Box W g 77 #[.bool x, .bool y]) (hz : W'.heap.size = W.heap.size := by simp [World.setCell]) : SlB W' W'.heap.size A c bs := by
  refine ⟨h.out.1, h.out.2.1, h.out.2.2.1, fun hn => ?_⟩
  obtain ⟨b, o, hA, hlt, hc⟩ := h.out.2.2.2 hn
  refine ⟨b, o, hA, by rw [hz]; exact hlt, fun j u hu => ?_⟩
  have h1 := hc j u hu
  by_cases e : b = g
  · subst e
    exfalso
    rw [hb.cell] at h1
    obtain ⟨c0, _, rfl⟩ : ∃ c0 : UInt8, c0 ∈ bs ∧ u = .int .u8 (c0.toNat : Int) := by
      have := List.mem_of_getElem? hu
      simp only [bv, List.mem_map] at this
      obtain ⟨c0, h2, h3⟩ := this
      exact ⟨c0, h2, h3.symm⟩
    rcases (by omega : o + j = 0 ∨ o + j = 1 ∨ 2 ≤ o + j) with h4 | h4 | h4
    · rw [h4] at h1; cases h1
    · rw [h4] at h1; cases h1
    · rw [Array.getElem?_eq_none (by simpa using h4)] at h1; cases h1
  · have := k b e
    unfold World.cell? at h1 ⊢
    rw [this]
    exact h1
attribute [local go_sem ↓] wp_ld26 Go.wp_at_zero Go.wp_at_succ
attribute [local go_sem] isP_v blkV_v aggV_v
end Go.Proofs.YtggcampdkgfmgaaGreat.L15
namespace Go.Proofs.YtggcampdkgfmgaaGreat.L15
open Go.RowKit

/-! Layer 15: the document's Ask. -/
def RetA (w : World) (r : (Bool × Bool) × List UInt8 × Int) (e : Ending) (w' : World) : Prop := ∃ A n c, e = .returned (.tuple #[.agg #[.bool r.1.1, .bool r.1.2], .slice A n c, .int .i64 r.2.2]) ∧ Hid (r.2.1.length = n) ∧ Hid (SlB w' w'.heap.size A c r.2.1) ∧ Hid (Below w.heap.size w w')
theorem T3.new2 (w : World) (t : Tm) (s h a b : Bool) : T3 w (((w.alloc (.cells t.cs 26)).alloc (.cells #[.bool s, .bool h] 77)).alloc (.cells #[.bool a, .bool b] 77)) t s h a b := by
  have b1 := (Below.refl _ w).alloc (Nat.le_refl _) (.cells t.cs 26)
  refine ⟨(b1.alloc b1.size _).alloc (by simp; omega) _, box_al (box_al (box_nw rfl)), box_al ?_, ?_⟩
  · have := Box.new (w.alloc (.cells t.cs 26)) 77 #[.bool s, .bool h]
    rwa [World.size_alloc] at this
  · have := Box.new ((w.alloc (.cells t.cs 26)).alloc (.cells #[.bool s, .bool h] 77)) 77 #[.bool a, .bool b]
    rwa [World.size_alloc, World.size_alloc] at this
attribute [local go_sem ↓] wp_ld26 Go.wp_at_zero Go.wp_at_succ
attribute [local go_sem] isP_v blkV_v aggV_v
end Go.Proofs.YtggcampdkgfmgaaGreat.L15
namespace Go.Proofs.YtggcampdkgfmgaaGreat.L15
open Go.RowKit

/-! Layer 15: the program's character, Typed. -/
theorem isp_b (w : World) (t : Tm) (ht : t.Ok) (op : Int) (x : UInt8) {b : Bool} (hb : isC t op x = b) : Calls Tryz.prog 18 #[.agg t.cs, .int .i64 op, .int .u8 (x.toNat : Int)] w fun e w' => e = .returned (.bool b) ∧ Hid (Below w.heap.size w w') := by
  subst hb
  exact is_any w t ht op x
set_option maxRecDepth 100000 in
theorem toldp_any (w : World) (t : Tm) (ht : t.Ok) (op : Int) {l : List UInt8} (hl : Hid (toldF t op = l)) : Calls Tryz.prog 133 #[.agg t.cs, .int .i64 op] w (Ret w l) := by
  have hs := cs_size ht.len
  have K0 := old26 w t
  cases hb : chB t op
  · have e : toldF t op = [] := by unfold toldF; rw [hb]; rfl
    obtain rfl : [] = l := e.symm.trans hl.out
    go_enter Tryz.func133, Tryz.ntmps133
    go_wp2_with (first
      | (refine bx26 (by rfl) _ (by rfl) _ (by rfl) hs ?_
         intro G0)
      | (refine ld26 (by rfl) _ (by rfl) _ (by rfl) t.cs G0.out hs ?_)
      | (go_at_call 23
         (with_reducible refine (char_any _ t ht op).mono ?_)
         rw [hb]
         rintro e u1 ⟨rfl, k1⟩
         have K1 := bel_t K0 k1.out))
    go_ret
    exact ret_nil K1
  · have e : toldF t op = [chV t op] := by unfold toldF; rw [hb]; rfl
    obtain rfl : [chV t op] = l := e.symm.trans hl.out
    go_enter Tryz.func133, Tryz.ntmps133
    go_wp2_with (first
      | (refine bx26 (by rfl) _ (by rfl) _ (by rfl) hs ?_
         intro G0)
      | (refine ld26 (by rfl) _ (by rfl) _ (by rfl) t.cs G0.out hs ?_)
      | (go_at_call 23
         (with_reducible refine (char_any _ t ht op).mono ?_)
         rw [hb]
         rintro e u1 ⟨rfl, k1⟩
         have K1 := bel_t K0 k1.out))
    go_ret
    exact ret_lit (bs := [chV t op]) rfl rfl (by decide) rfl K1
/-- A setting, a flow and a result's flow, made one behind the other. -/
structure P3 (w u : World) (t : Tm) (s h a b : Bool) : Prop where
  bel : Below w.heap.size w u
  bt : Box u w.heap.size 26 t.cs
  bf : Box u (w.heap.size + 1) 43 #[.bool s, .bool h]
  br : Box u (w.heap.size + 1 + 1) 43 #[.bool a, .bool b]
section
variable {w u u' : World} {t : Tm} {s h a b : Bool}
theorem P3.new (w : World) (t : Tm) (s h : Bool) : P3 w (((w.alloc (.cells t.cs 26)).alloc (.cells #[.bool s, .bool h] 43)).alloc (.cells #[.bool false, .bool false] 43)) t s h false false := by
  have b1 := (Below.refl _ w).alloc (Nat.le_refl _) (.cells t.cs 26)
  refine ⟨(b1.alloc b1.size _).alloc (by simp; omega) _, box_al (box_al (box_nw rfl)), box_al ?_, ?_⟩
  · have := Box.new (w.alloc (.cells t.cs 26)) 43 #[.bool s, .bool h]
    rwa [World.size_alloc] at this
  · have := Box.new ((w.alloc (.cells t.cs 26)).alloc (.cells #[.bool s, .bool h] 43)) 43 #[.bool false, .bool false]
    rwa [World.size_alloc, World.size_alloc] at this
theorem P3.grow (H : P3 w u t s h a b) (k : Below u.heap.size u u') : P3 w u' t s h a b := ⟨H.bel.trans (k.mono H.bel.size), box_below H.bt k, box_below H.bf k, box_below H.br k⟩
theorem P3.f0 (H : P3 w u t s h a b) : u.cell? ⟨w.heap.size + 1, 0, none⟩ = some (.bool s) := by simpa using H.bf.cell 0
theorem P3.f1 (H : P3 w u t s h a b) : u.cell? ⟨w.heap.size + 1, 1, none⟩ = some (.bool h) := by simpa using H.bf.cell 1
theorem P3.r0 (H : P3 w u t s h a b) : u.cell? ⟨w.heap.size + 1 + 1, 0, none⟩ = some (.bool a) := by simpa using H.br.cell 0
theorem P3.r1 (H : P3 w u t s h a b) : u.cell? ⟨w.heap.size + 1 + 1, 1, none⟩ = some (.bool b) := by simpa using H.br.cell 1
theorem P3.setS (H : P3 w u t s h a b) (x : Bool) : P3 w (u.setCell ⟨w.heap.size + 1, 0, none⟩ (.bool x)) t x h a b :=
  ⟨H.bel.trans ((Turn.setCell u (w.heap.size + 1) 0 _).below (by omega)), (Turn.setCell u (w.heap.size + 1) 0 _).box H.bt (by omega), by simpa using H.bf.store 0 (.bool x), (Turn.setCell u (w.heap.size + 1) 0 _).box H.br (by omega)⟩
theorem P3.setH (H : P3 w u t s h a b) (x : Bool) : P3 w (u.setCell ⟨w.heap.size + 1, 1, none⟩ (.bool x)) t s x a b :=
  ⟨H.bel.trans ((Turn.setCell u (w.heap.size + 1) 1 _).below (by omega)), (Turn.setCell u (w.heap.size + 1) 1 _).box H.bt (by omega), by simpa using H.bf.store 1 (.bool x), (Turn.setCell u (w.heap.size + 1) 1 _).box H.br (by omega)⟩
theorem P3.res (H : P3 w u t s h a b) (x y : Bool) : P3 w ((u.setCell ⟨w.heap.size + 1 + 1, 0, none⟩ (.bool x)).setCell ⟨w.heap.size + 1 + 1, 1, none⟩ (.bool y)) t s h x y := by
  have k1 := Turn.setCell u (w.heap.size + 1 + 1) 0 (.bool x)
  have k2 := Turn.setCell (u.setCell ⟨w.heap.size + 1 + 1, 0, none⟩ (.bool x)) (w.heap.size + 1 + 1) 1 (.bool y)
  exact ⟨(H.bel.trans (k1.below (by omega))).trans (k2.below (by omega)), k2.box (k1.box H.bt (by omega)) (by omega), k2.box (k1.box H.bf (by omega)) (by omega), by simpa using (H.br.store 0 (.bool x)).store 1 (.bool y)⟩
theorem P3.drew (H : P3 w u t s h a b) : P3 w u.drew t s h a b := ⟨H.bel.drew, H.bt, H.bf, H.br⟩
end
theorem p33 {u0 : World} {z : Gr u0} (t : Tm) (ht : t.Ok) (op : Int) (x : UInt8) {b : Bool} (hb : Hid (isC t op x = b)) : Calls Tryz.prog 18 #[.agg t.cs, .int .i64 op, .int .u8 (x.toNat : Int)] (grw z) fun e w'' => e = .returned (.bool b) ∧ ∃ z' : Gr u0, w'' = grw z' :=
  gr_call (isp_b _ t ht op x hb.out)
attribute [local go_sem ↓] wq_ld26 Go.wp_at_zero Go.wp_at_succ
attribute [local go_sem] isP_v blkV_v aggV_v
set_option maxRecDepth 100000 in
set_option maxHeartbeats 4000000 in
theorem typedp_any (w : World) (t : Tm) (ht : t.Ok) (s h : Bool) (c : UInt8) {r : (Bool × Bool) × Bool} (hr : Hid (typedF t s h c = r)) : Calls Tryz.prog 98 #[.agg t.cs, .agg #[.bool s, .bool h], .int .u8 (c.toNat : Int)] w (RetT w r) := by
  have hs := cs_size ht.len
  have H0 := hid (P3.new w t s h)
  cases h38 : hasN t.f 38
  · obtain rfl : ((s, h), false) = r := by have := hr.out; unfold typedF at this; rwa [if_pos h38] at this
    go_enter Tryz.func98, Tryz.ntmps98
    go_wp2_with (first
      | (refine bx26 (by rfl) _ (by rfl) _ (by rfl) hs ?_
         intro _)
      | (refine ld26 (by rfl) _ (by rfl) _ (by rfl) t.cs H0.out.bt hs ?_)
      | (go_at_call 28
         (with_reducible refine (has_b _ ht h38).mono ?_)
         rintro e v1 ⟨rfl, k1⟩
         have H1 := hid (H0.out.grow k1.out)
         have f0 := H1.out.f0
         have f1 := H1.out.f1
         have r0 := H1.out.r0
         have r1 := H1.out.r1
         have z0 := H1.out.bf.frozen 0
         have z1 := H1.out.bf.frozen 1
         have y0 := H1.out.br.frozen 0
         have y1 := H1.out.br.frozen 1))
    have H2 := hid (H1.out.res s h)
    have R0 := H2.out.r0
    have R1 := H2.out.r1
    generalize World.setCell _ _ _ = v2 at H2 R0 R1 ⊢
    refine bodyPost_ret (v := .tuple #[.agg #[.bool s, .bool h], .bool false]) (by simp [results, Tryz.results98, R0, R1, go_sem]) rfl ?_
    exact ⟨rfl, hid H2.out.bel⟩
  · cases ha : isC t 8 c
    all_goals
      have HA := hid ha
    · cases hb : isC t 9 c
      all_goals
        have HBB := hid hb
      · cases h39 : hasN t.f 39
        · have hv : typedF t s h c = ((s, h), false) := by unfold typedF; rw [if_neg (by rw [h38]; decide)]; simp [ha, hb, h39]
          obtain rfl : ((s, h), false) = r := hv.symm.trans hr.out
          clear hv
          go_enter Tryz.func98, Tryz.ntmps98
          go_wp2_with (first
            | (refine bx26 (by rfl) _ (by rfl) _ (by rfl) hs ?_
               intro _)
            | (refine ld26 (by rfl) _ (by rfl) _ (by rfl) t.cs H0.out.bt hs ?_)
            | (go_at_call 28
               (with_reducible refine (has_b _ ht h38).mono ?_)
               rintro e v1 ⟨rfl, k1⟩
               have H1 := hid (H0.out.grow k1.out)))
          obtain ⟨q1, q2⟩ := box_isB H1.out.bt ht.len
          refine wp_region_grown (by kernel_rfl) (by kernel_rfl) ?_
          repeat (go_big_quiet_step (first | (go_at_call 18; with_reducible exact p33 t ht _ c HA) | (go_at_call 18; with_reducible exact p33 t ht _ c HBB)))
          refine wpQuiet_nil ?_
          intro z
          have H2 := hid (H1.out.grow (show Below v1.heap.size v1 (grw z) from z.b))
          generalize grw z = v2 at H2 ⊢
          have f0 := H2.out.f0
          have f1 := H2.out.f1
          have r0 := H2.out.r0
          have r1 := H2.out.r1
          have z0 := H2.out.bf.frozen 0
          have z1 := H2.out.bf.frozen 1
          have y0 := H2.out.br.frozen 0
          have y1 := H2.out.br.frozen 1
          have B2 := H2.out.bt
          go_wp2_with (first
            | (refine ld26 (by rfl) _ (by rfl) _ (by rfl) t.cs B2 hs ?_)
            | (go_at_call 28
               (with_reducible refine (has_b _ ht h39).mono ?_)
               rintro e v3 ⟨rfl, k3⟩
               have H3 := hid (H2.out.grow k3.out)
               clear f0 f1 r0 r1 z0 z1 y0 y1
               have f0 := H3.out.f0
               have f1 := H3.out.f1
               have r0 := H3.out.r0
               have r1 := H3.out.r1
               have z0 := H3.out.bf.frozen 0
               have z1 := H3.out.bf.frozen 1
               have y0 := H3.out.br.frozen 0
               have y1 := H3.out.br.frozen 1))
          have H4 := hid (H3.out.res s h)
          have R0 := H4.out.r0
          have R1 := H4.out.r1
          generalize World.setCell _ _ _ = v4 at H4 R0 R1 ⊢
          refine bodyPost_ret (v := .tuple #[.agg #[.bool s, .bool h], .bool false]) (by simp [results, Tryz.results98, R0, R1, go_sem]) rfl ?_
          exact ⟨rfl, hid H4.out.bel⟩
        · have hv : typedF t s h c = ((false, h), false) := by unfold typedF; rw [if_neg (by rw [h38]; decide)]; simp [ha, hb, h39]
          obtain rfl : ((false, h), false) = r := hv.symm.trans hr.out
          clear hv
          go_enter Tryz.func98, Tryz.ntmps98
          go_wp2_with (first
            | (refine bx26 (by rfl) _ (by rfl) _ (by rfl) hs ?_
               intro _)
            | (refine ld26 (by rfl) _ (by rfl) _ (by rfl) t.cs H0.out.bt hs ?_)
            | (go_at_call 28
               (with_reducible refine (has_b _ ht h38).mono ?_)
               rintro e v1 ⟨rfl, k1⟩
               have H1 := hid (H0.out.grow k1.out)))
          obtain ⟨q1, q2⟩ := box_isB H1.out.bt ht.len
          refine wp_region_grown (by kernel_rfl) (by kernel_rfl) ?_
          repeat (go_big_quiet_step (first | (go_at_call 18; with_reducible exact p33 t ht _ c HA) | (go_at_call 18; with_reducible exact p33 t ht _ c HBB)))
          refine wpQuiet_nil ?_
          intro z
          have H2 := hid (H1.out.grow (show Below v1.heap.size v1 (grw z) from z.b))
          generalize grw z = v2 at H2 ⊢
          have f0 := H2.out.f0
          have f1 := H2.out.f1
          have r0 := H2.out.r0
          have r1 := H2.out.r1
          have z0 := H2.out.bf.frozen 0
          have z1 := H2.out.bf.frozen 1
          have y0 := H2.out.br.frozen 0
          have y1 := H2.out.br.frozen 1
          have B2 := H2.out.bt
          go_wp2_with (first
            | (refine ld26 (by rfl) _ (by rfl) _ (by rfl) t.cs B2 hs ?_)
            | (go_at_call 28
               (with_reducible refine (has_b _ ht h39).mono ?_)
               rintro e v3 ⟨rfl, k3⟩
               have H3 := hid (H2.out.grow k3.out)
               clear f0 f1 r0 r1 z0 z1 y0 y1
               have f0 := H3.out.f0
               have f1 := H3.out.f1
               have r0 := H3.out.r0
               have r1 := H3.out.r1
               have z0 := H3.out.bf.frozen 0
               have z1 := H3.out.bf.frozen 1
               have y0 := H3.out.br.frozen 0
               have y1 := H3.out.br.frozen 1))
          have H4 := hid ((H3.out.setS false).res false h)
          have R0 := H4.out.r0
          have R1 := H4.out.r1
          generalize World.setCell _ _ _ = v4 at H4 R0 R1 ⊢
          refine bodyPost_ret (v := .tuple #[.agg #[.bool false, .bool h], .bool false]) (by simp [results, Tryz.results98, R0, R1, go_sem]) rfl ?_
          exact ⟨rfl, hid H4.out.bel⟩
      · have hv : typedF t s h c = ((true, h), true) := by unfold typedF; rw [if_neg (by rw [h38]; decide)]; simp [ha, hb]
        obtain rfl : ((true, h), true) = r := hv.symm.trans hr.out
        clear hv
        go_enter Tryz.func98, Tryz.ntmps98
        go_wp2_with (first
          | (refine bx26 (by rfl) _ (by rfl) _ (by rfl) hs ?_
             intro _)
          | (refine ld26 (by rfl) _ (by rfl) _ (by rfl) t.cs H0.out.bt hs ?_)
          | (go_at_call 28
             (with_reducible refine (has_b _ ht h38).mono ?_)
             rintro e v1 ⟨rfl, k1⟩
             have H1 := hid (H0.out.grow k1.out)))
        obtain ⟨q1, q2⟩ := box_isB H1.out.bt ht.len
        refine wp_region_grown (by kernel_rfl) (by kernel_rfl) ?_
        repeat (go_big_quiet_step (first | (go_at_call 18; with_reducible exact p33 t ht _ c HA) | (go_at_call 18; with_reducible exact p33 t ht _ c HBB)))
        refine wpQuiet_nil ?_
        intro z
        have H2 := hid (H1.out.grow (show Below v1.heap.size v1 (grw z) from z.b))
        generalize grw z = v2 at H2 ⊢
        have f0 := H2.out.f0
        have f1 := H2.out.f1
        have r0 := H2.out.r0
        have r1 := H2.out.r1
        have z0 := H2.out.bf.frozen 0
        have z1 := H2.out.bf.frozen 1
        have y0 := H2.out.br.frozen 0
        have y1 := H2.out.br.frozen 1
        have B2 := H2.out.bt
        go_wp2
        have H4 := hid ((H2.out.setS true).res true h)
        have R0 := H4.out.r0
        have R1 := H4.out.r1
        generalize World.setCell _ _ _ = v3 at H4 R0 R1 ⊢
        refine bodyPost_ret (v := .tuple #[.agg #[.bool true, .bool h], .bool true]) (by simp [results, Tryz.results98, R0, R1, go_sem]) rfl ?_
        exact ⟨rfl, hid H4.out.bel⟩
    · cases hb : isC t 9 c
      all_goals
        have HBB := hid hb
      · have hv : typedF t s h c = ((false, h), true) := by unfold typedF; rw [if_neg (by rw [h38]; decide)]; simp [ha, hb]
        obtain rfl : ((false, h), true) = r := hv.symm.trans hr.out
        clear hv
        go_enter Tryz.func98, Tryz.ntmps98
        go_wp2_with (first
          | (refine bx26 (by rfl) _ (by rfl) _ (by rfl) hs ?_
             intro _)
          | (refine ld26 (by rfl) _ (by rfl) _ (by rfl) t.cs H0.out.bt hs ?_)
          | (go_at_call 28
             (with_reducible refine (has_b _ ht h38).mono ?_)
             rintro e v1 ⟨rfl, k1⟩
             have H1 := hid (H0.out.grow k1.out)))
        obtain ⟨q1, q2⟩ := box_isB H1.out.bt ht.len
        refine wp_region_grown (by kernel_rfl) (by kernel_rfl) ?_
        repeat (go_big_quiet_step (first | (go_at_call 18; with_reducible exact p33 t ht _ c HA) | (go_at_call 18; with_reducible exact p33 t ht _ c HBB)))
        refine wpQuiet_nil ?_
        intro z
        have H2 := hid (H1.out.grow (show Below v1.heap.size v1 (grw z) from z.b))
        generalize grw z = v2 at H2 ⊢
        have f0 := H2.out.f0
        have f1 := H2.out.f1
        have r0 := H2.out.r0
        have r1 := H2.out.r1
        have z0 := H2.out.bf.frozen 0
        have z1 := H2.out.bf.frozen 1
        have y0 := H2.out.br.frozen 0
        have y1 := H2.out.br.frozen 1
        have B2 := H2.out.bt
        go_wp2
        have H4 := hid ((H2.out.setS false).res false h)
        have R0 := H4.out.r0
        have R1 := H4.out.r1
        generalize World.setCell _ _ _ = v3 at H4 R0 R1 ⊢
        refine bodyPost_ret (v := .tuple #[.agg #[.bool false, .bool h], .bool true]) (by simp [results, Tryz.results98, R0, R1, go_sem]) rfl ?_
        exact ⟨rfl, hid H4.out.bel⟩
      · have hv : typedF t s h c = ((!s, h), true) := by unfold typedF; rw [if_neg (by rw [h38]; decide)]; simp [ha, hb]
        obtain rfl : ((!s, h), true) = r := hv.symm.trans hr.out
        clear hv
        go_enter Tryz.func98, Tryz.ntmps98
        go_wp2_with (first
          | (refine bx26 (by rfl) _ (by rfl) _ (by rfl) hs ?_
             intro _)
          | (refine ld26 (by rfl) _ (by rfl) _ (by rfl) t.cs H0.out.bt hs ?_)
          | (go_at_call 28
             (with_reducible refine (has_b _ ht h38).mono ?_)
             rintro e v1 ⟨rfl, k1⟩
             have H1 := hid (H0.out.grow k1.out)))
        obtain ⟨q1, q2⟩ := box_isB H1.out.bt ht.len
        refine wp_region_grown (by kernel_rfl) (by kernel_rfl) ?_
        repeat (go_big_quiet_step (first | (go_at_call 18; with_reducible exact p33 t ht _ c HA) | (go_at_call 18; with_reducible exact p33 t ht _ c HBB)))
        refine wpQuiet_nil ?_
        intro z
        have H2 := hid (H1.out.grow (show Below v1.heap.size v1 (grw z) from z.b))
        generalize grw z = v2 at H2 ⊢
        have f0 := H2.out.f0
        have f1 := H2.out.f1
        have r0 := H2.out.r0
        have r1 := H2.out.r1
        have z0 := H2.out.bf.frozen 0
        have z1 := H2.out.bf.frozen 1
        have y0 := H2.out.br.frozen 0
        have y1 := H2.out.br.frozen 1
        have B2 := H2.out.bt
        go_wp2
        have H4 := hid ((H2.out.setS (!s)).res (!s) h)
        have R0 := H4.out.r0
        have R1 := H4.out.r1
        generalize World.setCell _ _ _ = v3 at H4 R0 R1 ⊢
        refine bodyPost_ret (v := .tuple #[.agg #[.bool (!s), .bool h], .bool true]) (by simp [results, Tryz.results98, R0, R1, go_sem]) rfl ?_
        exact ⟨rfl, hid H4.out.bel⟩
end Go.Proofs.YtggcampdkgfmgaaGreat.L15
namespace Go.Proofs.YtggcampdkgfmgaaGreat.L15
open Go.RowKit

/-! Layer 15: the program's Mark. -/
/-- A flow's bools are no bytes: what is stored to them leaves bytes as they are. -/
theorem slb_flowp {W W' : World} {g c : Nat} {A : Option Addr} {bs : List UInt8} {x y : Bool} (h : Hid (SlB W W.heap.size A c bs)) (k : ∀ b, b ≠ g → W'.heap[b]? = W.heap[b]?) (hb : Box W g 43 #[.bool x, .bool y]) (hz : W'.heap.size = W.heap.size := by simp [World.setCell]) : SlB W' W'.heap.size A c bs := by
  refine ⟨h.out.1, h.out.2.1, h.out.2.2.1, fun hn => ?_⟩
  obtain ⟨b, o, hA, hlt, hc⟩ := h.out.2.2.2 hn
  refine ⟨b, o, hA, by rw [hz]; exact hlt, fun j u hu => ?_⟩
  have h1 := hc j u hu
  by_cases e : b = g
  · subst e
    exfalso
    rw [hb.cell] at h1
    obtain ⟨c0, _, rfl⟩ : ∃ c0 : UInt8, c0 ∈ bs ∧ u = .int .u8 (c0.toNat : Int) := by
      have := List.mem_of_getElem? hu
      simp only [bv, List.mem_map] at this
      obtain ⟨c0, h2, h3⟩ := this
      exact ⟨c0, h2, h3.symm⟩
    rcases (by omega : o + j = 0 ∨ o + j = 1 ∨ 2 ≤ o + j) with h4 | h4 | h4
    · rw [h4] at h1; cases h1
    · rw [h4] at h1; cases h1
    · rw [Array.getElem?_eq_none (by simpa using h4)] at h1; cases h1
  · have := k b e
    unfold World.cell? at h1 ⊢
    rw [this]
    exact h1
attribute [local go_sem ↓] wp_ld26 Go.wp_at_zero Go.wp_at_succ
attribute [local go_sem] isP_v blkV_v aggV_v
set_option maxRecDepth 100000 in
set_option maxHeartbeats 4000000 in
theorem markp_any (w : World) (t : Tm) (ht : t.Ok) (s h : Bool) (used low high : Int) {r : (Bool × Bool) × List UInt8} (hr : Hid (markF t s h used low high = r)) :
    Calls Tryz.prog 103 #[.agg t.cs, .agg #[.bool s, .bool h], .int .i64 used, .int .i64 low, .int .i64 high] w (RetM w r) := by
  have hs := cs_size ht.len
  have H0 := hid (P3.new w t s h)
  cases h
  · cases h40 : hasN t.f 40
    · have hv : markF t s false used low high = ((s, false), []) := by unfold markF; simp [h40]
      obtain rfl : ((s, false), []) = r := hv.symm.trans hr.out
      clear hv
      go_enter Tryz.func103, Tryz.ntmps103
      go_wp2_with (first
        | (refine bx26 (by rfl) _ (by rfl) _ (by rfl) hs ?_
           intro _)
        | (refine ld26 (by rfl) _ (by rfl) _ (by rfl) t.cs H0.out.bt hs ?_)
        | (go_at_call 28
           (with_reducible refine (has_b _ ht h40).mono ?_)
           rintro e v1 ⟨rfl, k1⟩
           have H1 := hid (H0.out.grow k1.out)
           have f0 := H1.out.f0
           have f1 := H1.out.f1
           have r0 := H1.out.r0
           have r1 := H1.out.r1
           have z0 := H1.out.bf.frozen 0
           have z1 := H1.out.bf.frozen 1
           have y0 := H1.out.br.frozen 0
           have y1 := H1.out.br.frozen 1))
      have H4 := hid (H1.out.res s false)
      have R0 := H4.out.r0
      have R1 := H4.out.r1
      generalize World.setCell _ _ _ = v4 at H4 R0 R1 ⊢
      refine bodyPost_ret (v := .tuple #[.agg #[.bool s, .bool false], .slice none 0 0]) (by simp [results, Tryz.results103, R0, R1, go_sem]) rfl ?_
      exact ⟨none, 0, 0, rfl, hid rfl, hid (slb_none _), hid H4.out.bel⟩
    · by_cases hu : high ≤ used
      · have hv : markF t s false used low high = ((s, true), toldF t 9) := by unfold markF; simp [h40, hu]
        obtain rfl : ((s, true), toldF t 9) = r := hv.symm.trans hr.out
        clear hv
        obtain ⟨l, hl⟩ : ∃ l, Hid (toldF t 9 = l) := ⟨_, hid rfl⟩
        go_enter Tryz.func103, Tryz.ntmps103
        go_wp2_with (first
          | (refine bx26 (by rfl) _ (by rfl) _ (by rfl) hs ?_
             intro _)
          | (refine ld26 (by rfl) _ (by rfl) _ (by rfl) t.cs H0.out.bt hs ?_)
          | (go_at_call 28
             (with_reducible refine (has_b _ ht h40).mono ?_)
             rintro e v1 ⟨rfl, k1⟩
             have H1 := hid (H0.out.grow k1.out)
             have f0 := H1.out.f0
             have f1 := H1.out.f1
             have r0 := H1.out.r0
             have r1 := H1.out.r1
             have z0 := H1.out.bf.frozen 0
             have z1 := H1.out.bf.frozen 1
             have y0 := H1.out.br.frozen 0
             have y1 := H1.out.br.frozen 1))
        have H1d := hid (H1.out.setH true).drew
        clear f0 f1 r0 r1 z0 z1 y0 y1
        have f0 := H1d.out.f0
        have f1 := H1d.out.f1
        have r0 := H1d.out.r0
        have r1 := H1d.out.r1
        have z0 := H1d.out.bf.frozen 0
        have z1 := H1d.out.bf.frozen 1
        have y0 := H1d.out.br.frozen 0
        have y1 := H1d.out.br.frozen 1
        obtain ⟨q1, q2⟩ := box_isB H1d.out.bt ht.len
        go_region_law (first
          | (go_simp
             go_at_call 133
             (with_reducible refine (toldp_any _ t ht 9 hl).mono ?_)
             rintro e v2 ⟨A, n, c, rfl, hn, hS, k2⟩
             have H2 := hid (H1d.out.grow k2.out)
             have f0' := H2.out.f0
             have f1' := H2.out.f1
             have y0' := H2.out.br.frozen 0
             have y1' := H2.out.br.frozen 1
             have r0' := H2.out.r0
             have r1' := H2.out.r1))
        all_goals
          obtain ⟨g, hg⟩ : ∃ g, w.heap.size + 1 + 1 = g := ⟨_, rfl⟩
          have H4 := hid (H2.out.res s true)
          have R0 := H4.out.r0
          have R1 := H4.out.r1
          have k4 : Hid (Below w.heap.size v2 ((v2.setCell ⟨w.heap.size + 1 + 1, 0, none⟩ (.bool s)).setCell ⟨w.heap.size + 1 + 1, 1, none⟩ (.bool true))) := hid (((Turn.setCell v2 (w.heap.size + 1 + 1) 0 (.bool s)).below (by omega)).trans ((Turn.setCell _ (w.heap.size + 1 + 1) 1 (.bool true)).below (by omega)))
          have S4 := slb_flowp hS (st2_others v2 (w.heap.size + 1 + 1) (.bool s) (.bool true)) (H2.out.br)
          clear hg k4
          generalize World.setCell _ _ _ = v4 at H4 R0 R1 S4 ⊢
          try go_wp2
          refine bodyPost_ret (v := .tuple #[.agg #[.bool s, .bool true], .slice A n c]) (by simp [results, Tryz.results103, R0, R1, go_sem]) rfl ?_
          exact ⟨A, n, c, rfl, hid (by rw [hl.out]; exact hn.out), hid (by rw [hl.out]; exact S4), hid H4.out.bel⟩
      · have hv : markF t s false used low high = ((s, false), []) := by unfold markF; simp [h40, hu]
        obtain rfl : ((s, false), []) = r := hv.symm.trans hr.out
        clear hv
        go_enter Tryz.func103, Tryz.ntmps103
        go_wp2_with (first
          | (refine bx26 (by rfl) _ (by rfl) _ (by rfl) hs ?_
             intro _)
          | (refine ld26 (by rfl) _ (by rfl) _ (by rfl) t.cs H0.out.bt hs ?_)
          | (go_at_call 28
             (with_reducible refine (has_b _ ht h40).mono ?_)
             rintro e v1 ⟨rfl, k1⟩
             have H1 := hid (H0.out.grow k1.out)
             have f0 := H1.out.f0
             have f1 := H1.out.f1
             have r0 := H1.out.r0
             have r1 := H1.out.r1
             have z0 := H1.out.bf.frozen 0
             have z1 := H1.out.bf.frozen 1
             have y0 := H1.out.br.frozen 0
             have y1 := H1.out.br.frozen 1))
        have H4 := hid (H1.out.res s false)
        have R0 := H4.out.r0
        have R1 := H4.out.r1
        generalize World.setCell _ _ _ = v4 at H4 R0 R1 ⊢
        refine bodyPost_ret (v := .tuple #[.agg #[.bool s, .bool false], .slice none 0 0]) (by simp [results, Tryz.results103, R0, R1, go_sem]) rfl ?_
        exact ⟨none, 0, 0, rfl, hid rfl, hid (slb_none _), hid H4.out.bel⟩
  · by_cases hu : low < used
    · cases h40 : hasN t.f 40
      all_goals
        have hv : markF t s true used low high = ((s, true), []) := by unfold markF; simp [hu]
        obtain rfl : ((s, true), []) = r := hv.symm.trans hr.out
        clear hv
        go_enter Tryz.func103, Tryz.ntmps103
        go_wp2_with (first
          | (refine bx26 (by rfl) _ (by rfl) _ (by rfl) hs ?_
             intro _)
          | (refine ld26 (by rfl) _ (by rfl) _ (by rfl) t.cs H0.out.bt hs ?_)
          | (go_at_call 28
             (with_reducible refine (has_b _ ht h40).mono ?_)
             rintro e v1 ⟨rfl, k1⟩
             have H1 := hid (H0.out.grow k1.out)
             have f0 := H1.out.f0
             have f1 := H1.out.f1
             have r0 := H1.out.r0
             have r1 := H1.out.r1
             have z0 := H1.out.bf.frozen 0
             have z1 := H1.out.bf.frozen 1
             have y0 := H1.out.br.frozen 0
             have y1 := H1.out.br.frozen 1))
        have H4 := hid (H1.out.res s true)
        have R0 := H4.out.r0
        have R1 := H4.out.r1
        generalize World.setCell _ _ _ = v4 at H4 R0 R1 ⊢
        refine bodyPost_ret (v := .tuple #[.agg #[.bool s, .bool true], .slice none 0 0]) (by simp [results, Tryz.results103, R0, R1, go_sem]) rfl ?_
        exact ⟨none, 0, 0, rfl, hid rfl, hid (slb_none _), hid H4.out.bel⟩
    · cases h40 : hasN t.f 40
      · have hv : markF t s true used low high = ((s, false), []) := by unfold markF; simp [h40, hu]
        obtain rfl : ((s, false), []) = r := hv.symm.trans hr.out
        clear hv
        go_enter Tryz.func103, Tryz.ntmps103
        go_wp2_with (first
          | (refine bx26 (by rfl) _ (by rfl) _ (by rfl) hs ?_
             intro _)
          | (refine ld26 (by rfl) _ (by rfl) _ (by rfl) t.cs H0.out.bt hs ?_)
          | (go_at_call 28
             (with_reducible refine (has_b _ ht h40).mono ?_)
             rintro e v1 ⟨rfl, k1⟩
             have H1 := hid (H0.out.grow k1.out)
             have f0 := H1.out.f0
             have f1 := H1.out.f1
             have r0 := H1.out.r0
             have r1 := H1.out.r1
             have z0 := H1.out.bf.frozen 0
             have z1 := H1.out.bf.frozen 1
             have y0 := H1.out.br.frozen 0
             have y1 := H1.out.br.frozen 1))
        have H4 := hid ((H1.out.setH false).res s false)
        have R0 := H4.out.r0
        have R1 := H4.out.r1
        generalize World.setCell _ _ _ = v4 at H4 R0 R1 ⊢
        refine bodyPost_ret (v := .tuple #[.agg #[.bool s, .bool false], .slice none 0 0]) (by simp [results, Tryz.results103, R0, R1, go_sem]) rfl ?_
        exact ⟨none, 0, 0, rfl, hid rfl, hid (slb_none _), hid H4.out.bel⟩
      · have hv : markF t s true used low high = ((s, false), toldF t 8) := by unfold markF; simp [h40, hu]
        obtain rfl : ((s, false), toldF t 8) = r := hv.symm.trans hr.out
        clear hv
        obtain ⟨l, hl⟩ : ∃ l, Hid (toldF t 8 = l) := ⟨_, hid rfl⟩
        go_enter Tryz.func103, Tryz.ntmps103
        go_wp2_with (first
          | (refine bx26 (by rfl) _ (by rfl) _ (by rfl) hs ?_
             intro _)
          | (refine ld26 (by rfl) _ (by rfl) _ (by rfl) t.cs H0.out.bt hs ?_)
          | (go_at_call 28
             (with_reducible refine (has_b _ ht h40).mono ?_)
             rintro e v1 ⟨rfl, k1⟩
             have H1 := hid (H0.out.grow k1.out)
             have f0 := H1.out.f0
             have f1 := H1.out.f1
             have r0 := H1.out.r0
             have r1 := H1.out.r1
             have z0 := H1.out.bf.frozen 0
             have z1 := H1.out.bf.frozen 1
             have y0 := H1.out.br.frozen 0
             have y1 := H1.out.br.frozen 1))
        have H1d := hid (H1.out.setH false).drew
        clear f0 f1 r0 r1 z0 z1 y0 y1
        have f0 := H1d.out.f0
        have f1 := H1d.out.f1
        have r0 := H1d.out.r0
        have r1 := H1d.out.r1
        have z0 := H1d.out.bf.frozen 0
        have z1 := H1d.out.bf.frozen 1
        have y0 := H1d.out.br.frozen 0
        have y1 := H1d.out.br.frozen 1
        obtain ⟨q1, q2⟩ := box_isB H1d.out.bt ht.len
        go_region_law (first
          | (go_simp
             go_at_call 133
             (with_reducible refine (toldp_any _ t ht 8 hl).mono ?_)
             rintro e v2 ⟨A, n, c, rfl, hn, hS, k2⟩
             have H2 := hid (H1d.out.grow k2.out)
             have f0' := H2.out.f0
             have f1' := H2.out.f1
             have y0' := H2.out.br.frozen 0
             have y1' := H2.out.br.frozen 1
             have r0' := H2.out.r0
             have r1' := H2.out.r1))
        all_goals
          obtain ⟨g, hg⟩ : ∃ g, w.heap.size + 1 + 1 = g := ⟨_, rfl⟩
          have H4 := hid (H2.out.res s false)
          have R0 := H4.out.r0
          have R1 := H4.out.r1
          have k4 : Hid (Below w.heap.size v2 ((v2.setCell ⟨w.heap.size + 1 + 1, 0, none⟩ (.bool s)).setCell ⟨w.heap.size + 1 + 1, 1, none⟩ (.bool false))) := hid (((Turn.setCell v2 (w.heap.size + 1 + 1) 0 (.bool s)).below (by omega)).trans ((Turn.setCell _ (w.heap.size + 1 + 1) 1 (.bool false)).below (by omega)))
          have S4 := slb_flowp hS (st2_others v2 (w.heap.size + 1 + 1) (.bool s) (.bool false)) (H2.out.br)
          clear hg k4
          generalize World.setCell _ _ _ = v4 at H4 R0 R1 S4 ⊢
          try go_wp2
          refine bodyPost_ret (v := .tuple #[.agg #[.bool s, .bool false], .slice A n c]) (by simp [results, Tryz.results103, R0, R1, go_sem]) rfl ?_
          exact ⟨A, n, c, rfl, hid (by rw [hl.out]; exact hn.out), hid (by rw [hl.out]; exact S4), hid H4.out.bel⟩
end Go.Proofs.YtggcampdkgfmgaaGreat.L15
namespace Go.Proofs.YtggcampdkgfmgaaGreat.L15
open Go.RowKit

/-! Layer 15: the program's four wishes. -/
/-- A flow, a setting and a result's flow, made one behind the other. -/
structure M3 (w u : World) (t : Tm) (s h a b : Bool) : Prop where
  bel : Below w.heap.size w u
  bf : Box u w.heap.size 43 #[.bool s, .bool h]
  bt : Box u (w.heap.size + 1) 26 t.cs
  br : Box u (w.heap.size + 1 + 1) 43 #[.bool a, .bool b]
section
variable {w u u' : World} {t : Tm} {s h a b : Bool}
theorem M3.new (w : World) (t : Tm) (s h a b : Bool) : M3 w (((w.alloc (.cells #[.bool s, .bool h] 43)).alloc (.cells t.cs 26)).alloc (.cells #[.bool a, .bool b] 43)) t s h a b := by
  have b1 := (Below.refl _ w).alloc (Nat.le_refl _) (.cells #[.bool s, .bool h] 43)
  refine ⟨(b1.alloc b1.size _).alloc (by simp; omega) _, box_al (box_al (box_nw rfl)), box_al ?_, ?_⟩
  · have := Box.new (w.alloc (.cells #[.bool s, .bool h] 43)) 26 t.cs
    rwa [World.size_alloc] at this
  · have := Box.new ((w.alloc (.cells #[.bool s, .bool h] 43)).alloc (.cells t.cs 26)) 43 #[.bool a, .bool b]
    rwa [World.size_alloc, World.size_alloc] at this
theorem M3.grow (H : M3 w u t s h a b) (k : Below u.heap.size u u') : M3 w u' t s h a b := ⟨H.bel.trans (k.mono H.bel.size), box_below H.bf k, box_below H.bt k, box_below H.br k⟩
theorem M3.f0 (H : M3 w u t s h a b) : u.cell? ⟨w.heap.size, 0, none⟩ = some (.bool s) := by simpa using H.bf.cell 0
theorem M3.f1 (H : M3 w u t s h a b) : u.cell? ⟨w.heap.size, 1, none⟩ = some (.bool h) := by simpa using H.bf.cell 1
theorem M3.r0 (H : M3 w u t s h a b) : u.cell? ⟨w.heap.size + 1 + 1, 0, none⟩ = some (.bool a) := by simpa using H.br.cell 0
theorem M3.r1 (H : M3 w u t s h a b) : u.cell? ⟨w.heap.size + 1 + 1, 1, none⟩ = some (.bool b) := by simpa using H.br.cell 1
theorem M3.res (H : M3 w u t s h a b) (x y : Bool) : M3 w ((u.setCell ⟨w.heap.size + 1 + 1, 0, none⟩ (.bool x)).setCell ⟨w.heap.size + 1 + 1, 1, none⟩ (.bool y)) t s h x y := by
  have k1 := Turn.setCell u (w.heap.size + 1 + 1) 0 (.bool x)
  have k2 := Turn.setCell (u.setCell ⟨w.heap.size + 1 + 1, 0, none⟩ (.bool x)) (w.heap.size + 1 + 1) 1 (.bool y)
  exact ⟨(H.bel.trans (k1.below (by omega))).trans (k2.below (by omega)), k2.box (k1.box H.bf (by omega)) (by omega), k2.box (k1.box H.bt (by omega)) (by omega), by simpa using (H.br.store 0 (.bool x)).store 1 (.bool y)⟩
theorem M3.drew (H : M3 w u t s h a b) : M3 w u.drew t s h a b := ⟨H.bel.drew, H.bf, H.bt, H.br⟩
end
attribute [local go_sem ↓] wp_ld26 Go.wp_at_zero Go.wp_at_succ
attribute [local go_sem] isP_v blkV_v aggV_v
set_option maxRecDepth 100000 in
theorem outOffp_any (w : World) (t : Tm) (ht : t.Ok) (s h : Bool) : Calls Tryz.prog 144 #[.agg #[.bool s, .bool h], .agg t.cs] w (RetM w ((true, h), [])) := by
  have hs := cs_size ht.len
  have H0 := hid (M3.new w t true h true h)
  go_enter Tryz.func144, Tryz.ntmps144
  go_wp2_with (first
    | (refine bx26 (by rfl) _ (by rfl) _ (by rfl) hs ?_
       intro _))
  have R0 := H0.out.r0
  have R1 := H0.out.r1
  generalize World.alloc (World.alloc _ _) _ = v4 at H0 R0 R1 ⊢
  refine bodyPost_ret (v := .tuple #[.agg #[.bool true, .bool h], .slice none 0 0]) (by simp [results, Tryz.results144, R0, R1, go_sem]) rfl ?_
  exact ⟨none, 0, 0, rfl, hid rfl, hid (slb_none _), hid H0.out.bel⟩
set_option maxRecDepth 100000 in
theorem outOnp_any (w : World) (t : Tm) (ht : t.Ok) (s h : Bool) : Calls Tryz.prog 145 #[.agg #[.bool s, .bool h], .agg t.cs] w (RetM w ((false, h), [])) := by
  have hs := cs_size ht.len
  have H0 := hid (M3.new w t false h false h)
  go_enter Tryz.func145, Tryz.ntmps145
  go_wp2_with (first
    | (refine bx26 (by rfl) _ (by rfl) _ (by rfl) hs ?_
       intro _))
  have R0 := H0.out.r0
  have R1 := H0.out.r1
  generalize World.alloc (World.alloc _ _) _ = v4 at H0 R0 R1 ⊢
  refine bodyPost_ret (v := .tuple #[.agg #[.bool false, .bool h], .slice none 0 0]) (by simp [results, Tryz.results145, R0, R1, go_sem]) rfl ?_
  exact ⟨none, 0, 0, rfl, hid rfl, hid (slb_none _), hid H0.out.bel⟩
set_option maxRecDepth 100000 in
theorem inOffp_any (w : World) (t : Tm) (ht : t.Ok) (s h : Bool) : Calls Tryz.prog 146 #[.agg #[.bool s, .bool h], .agg t.cs] w (RetM w ((s, h), toldF t 9)) := by
  have hs := cs_size ht.len
  have H0 := hid (M3.new w t s h false false)
  obtain ⟨l, hl⟩ : ∃ l, Hid (toldF t 9 = l) := ⟨_, hid rfl⟩
  go_enter Tryz.func146, Tryz.ntmps146
  go_wp2_with (first
    | (refine bx26 (by rfl) _ (by rfl) _ (by rfl) hs ?_
       intro _))
  generalize World.alloc (World.alloc _ _) _ = v1 at H0 ⊢
  have H1d := hid H0.out.drew
  have f0 := H1d.out.f0
  have f1 := H1d.out.f1
  have r0 := H1d.out.r0
  have r1 := H1d.out.r1
  have z0 := H1d.out.bf.frozen 0
  have z1 := H1d.out.bf.frozen 1
  have y0 := H1d.out.br.frozen 0
  have y1 := H1d.out.br.frozen 1
  obtain ⟨q1, q2⟩ := box_isB H1d.out.bt ht.len
  go_region_law (first
    | (go_simp
       go_at_call 133
       (with_reducible refine (toldp_any _ t ht 9 hl).mono ?_)
       rintro e v2 ⟨A, n, c, rfl, hn, hS, k2⟩
       have H2 := hid (H1d.out.grow k2.out)
       have f0' := H2.out.f0
       have f1' := H2.out.f1
       have y0' := H2.out.br.frozen 0
       have y1' := H2.out.br.frozen 1
       have r0' := H2.out.r0
       have r1' := H2.out.r1))
  all_goals
    have H4 := hid (H2.out.res s h)
    have R0 := H4.out.r0
    have R1 := H4.out.r1
    have S4 := slb_flowp hS (st2_others v2 (w.heap.size + 1 + 1) (.bool s) (.bool h)) (H2.out.br)
    generalize World.setCell _ _ _ = v4 at H4 R0 R1 S4 ⊢
    try go_wp2
    refine bodyPost_ret (v := .tuple #[.agg #[.bool s, .bool h], .slice A n c]) (by simp [results, Tryz.results146, R0, R1, go_sem]) rfl ?_
    exact ⟨A, n, c, rfl, hid (by rw [hl.out]; exact hn.out), hid (by rw [hl.out]; exact S4), hid H4.out.bel⟩
set_option maxRecDepth 100000 in
theorem inOnp_any (w : World) (t : Tm) (ht : t.Ok) (s h : Bool) : Calls Tryz.prog 147 #[.agg #[.bool s, .bool h], .agg t.cs] w (RetM w ((s, h), toldF t 8)) := by
  have hs := cs_size ht.len
  have H0 := hid (M3.new w t s h false false)
  obtain ⟨l, hl⟩ : ∃ l, Hid (toldF t 8 = l) := ⟨_, hid rfl⟩
  go_enter Tryz.func147, Tryz.ntmps147
  go_wp2_with (first
    | (refine bx26 (by rfl) _ (by rfl) _ (by rfl) hs ?_
       intro _))
  generalize World.alloc (World.alloc _ _) _ = v1 at H0 ⊢
  have H1d := hid H0.out.drew
  have f0 := H1d.out.f0
  have f1 := H1d.out.f1
  have r0 := H1d.out.r0
  have r1 := H1d.out.r1
  have z0 := H1d.out.bf.frozen 0
  have z1 := H1d.out.bf.frozen 1
  have y0 := H1d.out.br.frozen 0
  have y1 := H1d.out.br.frozen 1
  obtain ⟨q1, q2⟩ := box_isB H1d.out.bt ht.len
  go_region_law (first
    | (go_simp
       go_at_call 133
       (with_reducible refine (toldp_any _ t ht 8 hl).mono ?_)
       rintro e v2 ⟨A, n, c, rfl, hn, hS, k2⟩
       have H2 := hid (H1d.out.grow k2.out)
       have f0' := H2.out.f0
       have f1' := H2.out.f1
       have y0' := H2.out.br.frozen 0
       have y1' := H2.out.br.frozen 1
       have r0' := H2.out.r0
       have r1' := H2.out.r1))
  all_goals
    have H4 := hid (H2.out.res s h)
    have R0 := H4.out.r0
    have R1 := H4.out.r1
    have S4 := slb_flowp hS (st2_others v2 (w.heap.size + 1 + 1) (.bool s) (.bool h)) (H2.out.br)
    generalize World.setCell _ _ _ = v4 at H4 R0 R1 S4 ⊢
    try go_wp2
    refine bodyPost_ret (v := .tuple #[.agg #[.bool s, .bool h], .slice A n c]) (by simp [results, Tryz.results147, R0, R1, go_sem]) rfl ?_
    exact ⟨A, n, c, rfl, hid (by rw [hl.out]; exact hn.out), hid (by rw [hl.out]; exact S4), hid H4.out.bel⟩
end Go.Proofs.YtggcampdkgfmgaaGreat.L15
namespace Go.Proofs.YtggcampdkgfmgaaGreat.L15
open Go.RowKit

/-! Layer 15: the program's Ask. -/
structure A4 (w u : World) (t : Tm) (s h a b : Bool) : Prop where
  p3 : P3 w u t s h a b
  bw : Box u (w.heap.size + 1 + 1 + 1) 218 #[.nilFunc, .func (.func 144) #[] #[], .func (.func 145) #[] #[], .func (.func 146) #[] #[], .func (.func 147) #[] #[]]
section
variable {w u u' : World} {t : Tm} {s h a b : Bool}
theorem A4.new (w : World) (t : Tm) (s h : Bool) : A4 w ((((w.alloc (.cells t.cs 26)).alloc (.cells #[.bool s, .bool h] 43)).alloc (.cells #[.bool false, .bool false] 43)).alloc (.cells #[.nilFunc, .func (.func 144) #[] #[], .func (.func 145) #[] #[], .func (.func 146) #[] #[], .func (.func 147) #[] #[]] 218)) t s h false false := by
  refine ⟨(P3.new w t s h).grow ((Below.refl _ _).alloc (Nat.le_refl _) _), ?_⟩
  have := Box.new (((w.alloc (.cells t.cs 26)).alloc (.cells #[.bool s, .bool h] 43)).alloc (.cells #[.bool false, .bool false] 43)) 218 #[.nilFunc, .func (.func 144) #[] #[], .func (.func 145) #[] #[], .func (.func 146) #[] #[], .func (.func 147) #[] #[]]
  rwa [World.size_alloc, World.size_alloc, World.size_alloc] at this
theorem A4.drew (H : A4 w u t s h a b) : A4 w u.drew t s h a b := ⟨H.p3.drew, H.bw⟩
theorem P3.both (H : P3 w u t s h a b) (x y : Bool) : P3 w ((u.setCell ⟨w.heap.size + 1, 0, none⟩ (.bool x)).setCell ⟨w.heap.size + 1, 1, none⟩ (.bool y)) t x y a b := (H.setS x).setH y
theorem P3.slb {A : Option Addr} {c : Nat} {l : List UInt8} (H : P3 w u t s h a b) (hS : Hid (SlB u u.heap.size A c l)) (x y : Bool) :
    Hid (SlB ((((u.setCell ⟨w.heap.size + 1, 0, none⟩ (.bool x)).setCell ⟨w.heap.size + 1, 1, none⟩ (.bool y)).setCell ⟨w.heap.size + 1 + 1, 0, none⟩ (.bool x)).setCell ⟨w.heap.size + 1 + 1, 1, none⟩ (.bool y)) ((((u.setCell ⟨w.heap.size + 1, 0, none⟩ (.bool x)).setCell ⟨w.heap.size + 1, 1, none⟩ (.bool y)).setCell ⟨w.heap.size + 1 + 1, 0, none⟩ (.bool x)).setCell ⟨w.heap.size + 1 + 1, 1, none⟩ (.bool y)).heap.size A c l) :=
  hid (slb_flowp (hid (slb_flowp hS (st2_others u (w.heap.size + 1) (.bool x) (.bool y)) H.bf)) (st2_others _ (w.heap.size + 1 + 1) (.bool x) (.bool y)) (H.both x y).br)
end
attribute [local go_sem ↓] wp_ld26 Go.wp_at_zero Go.wp_at_succ
attribute [local go_sem] isP_v blkV_v aggV_v
set_option maxRecDepth 100000 in
set_option maxHeartbeats 4000000 in
theorem askp_any (w : World) (t : Tm) (ht : t.Ok) (s h : Bool) (what : Int) {r : (Bool × Bool) × List UInt8 × Int} (hr : Hid (askF t s h what = r)) :
    Calls Tryz.prog 110 #[.agg t.cs, .agg #[.bool s, .bool h], .int .i64 what] w (RetA w r) := by
  have hs := cs_size ht.len
  by_cases e1 : what = 1
  · subst e1
    obtain rfl : ((true, h), [], 0) = r := (show askF t s h 1 = ((true, h), [], 0) by simp [askF]).symm.trans hr.out
    have H0 := hid (A4.new w t s h)
    go_enter Tryz.func110, Tryz.ntmps110
    go_wp2_with (first
      | (refine bx26 (by rfl) _ (by rfl) _ (by rfl) hs ?_
         intro _))
    generalize World.alloc (World.alloc (World.alloc (World.alloc _ _) _) _) _ = v1 at H0 ⊢
    have H1d := hid H0.out.drew
    have f0 := H1d.out.p3.f0
    have f1 := H1d.out.p3.f1
    have z0 := H1d.out.p3.bf.frozen 0
    have z1 := H1d.out.p3.bf.frozen 1
    have g0 : v1.drew.cell? ⟨w.heap.size + 1 + 1 + 1, 1, none⟩ = some (.func (.func 144) #[] #[]) := by simpa using H1d.out.bw.cell 1
    obtain ⟨q1, q2⟩ := box_isB H1d.out.p3.bt ht.len
    go_region_law (first
      | (go_simp
         go_at_call 144
         (with_reducible refine (outOffp_any _ t ht s h).mono ?_)
         rintro e v2 ⟨A, n, c, rfl, hn, hS, k2⟩
         have H2 := hid (H1d.out.p3.grow k2.out)
         have z0' := H2.out.bf.frozen 0
         have z1' := H2.out.bf.frozen 1
         have f0' := H2.out.f0
         have f1' := H2.out.f1
         have y0' := H2.out.br.frozen 0
         have y1' := H2.out.br.frozen 1
         have r0' := H2.out.r0
         have r1' := H2.out.r1))
    all_goals
      have H3 := hid (H2.out.both true h)
      have H4 := hid (H3.out.res true h)
      have S4 := H2.out.slb hS true h
      have R0 := H4.out.r0
      have R1 := H4.out.r1
      have F0 := H3.out.f0
      have F1 := H3.out.f1
      have Z0 := H3.out.r0
      have Z1 := H3.out.r1
      have Y0 := H3.out.br.frozen 0
      have Y1 := H3.out.br.frozen 1
      clear r0' r1' y0' y1' f0' f1' z0' z1'
      generalize World.setCell (World.setCell v2 _ _) _ _ = v3 at H3 H4 F0 F1 Z0 Z1 Y0 Y1 S4 R0 R1 ⊢
      try go_wp2
      generalize World.setCell (World.setCell v3 _ _) _ _ = v4 at H4 S4 R0 R1 ⊢
      refine bodyPost_ret (v := .tuple #[.agg #[.bool true, .bool h], .slice A n c, .int .i64 0]) (by simp [results, Tryz.results110, R0, R1, go_sem]) rfl ?_
      exact ⟨A, n, c, rfl, hn, S4, hid H4.out.bel⟩
  by_cases e2 : what = 2
  · subst e2
    clear e1
    obtain rfl : ((false, h), [], 0) = r := (show askF t s h 2 = ((false, h), [], 0) by simp [askF]).symm.trans hr.out
    have H0 := hid (A4.new w t s h)
    go_enter Tryz.func110, Tryz.ntmps110
    go_wp2_with (first
      | (refine bx26 (by rfl) _ (by rfl) _ (by rfl) hs ?_
         intro _))
    generalize World.alloc (World.alloc (World.alloc (World.alloc _ _) _) _) _ = v1 at H0 ⊢
    have H1d := hid H0.out.drew
    have f0 := H1d.out.p3.f0
    have f1 := H1d.out.p3.f1
    have z0 := H1d.out.p3.bf.frozen 0
    have z1 := H1d.out.p3.bf.frozen 1
    have g0 : v1.drew.cell? ⟨w.heap.size + 1 + 1 + 1, 2, none⟩ = some (.func (.func 145) #[] #[]) := by simpa using H1d.out.bw.cell 2
    obtain ⟨q1, q2⟩ := box_isB H1d.out.p3.bt ht.len
    go_region_law (first
      | (go_simp
         go_at_call 145
         (with_reducible refine (outOnp_any _ t ht s h).mono ?_)
         rintro e v2 ⟨A, n, c, rfl, hn, hS, k2⟩
         have H2 := hid (H1d.out.p3.grow k2.out)
         have z0' := H2.out.bf.frozen 0
         have z1' := H2.out.bf.frozen 1
         have f0' := H2.out.f0
         have f1' := H2.out.f1
         have y0' := H2.out.br.frozen 0
         have y1' := H2.out.br.frozen 1
         have r0' := H2.out.r0
         have r1' := H2.out.r1))
    all_goals
      have H3 := hid (H2.out.both false h)
      have H4 := hid (H3.out.res false h)
      have S4 := H2.out.slb hS false h
      have R0 := H4.out.r0
      have R1 := H4.out.r1
      have F0 := H3.out.f0
      have F1 := H3.out.f1
      have Z0 := H3.out.r0
      have Z1 := H3.out.r1
      have Y0 := H3.out.br.frozen 0
      have Y1 := H3.out.br.frozen 1
      clear r0' r1' y0' y1' f0' f1' z0' z1'
      generalize World.setCell (World.setCell v2 _ _) _ _ = v3 at H3 H4 F0 F1 Z0 Z1 Y0 Y1 S4 R0 R1 ⊢
      try go_wp2
      generalize World.setCell (World.setCell v3 _ _) _ _ = v4 at H4 S4 R0 R1 ⊢
      refine bodyPost_ret (v := .tuple #[.agg #[.bool false, .bool h], .slice A n c, .int .i64 0]) (by simp [results, Tryz.results110, R0, R1, go_sem]) rfl ?_
      exact ⟨A, n, c, rfl, hn, S4, hid H4.out.bel⟩
  by_cases e3 : what = 3
  · subst e3
    clear e1 e2
    obtain rfl : ((s, h), toldF t 9, 0) = r := (show askF t s h 3 = ((s, h), toldF t 9, 0) by simp [askF]).symm.trans hr.out
    have H0 := hid (A4.new w t s h)
    go_enter Tryz.func110, Tryz.ntmps110
    go_wp2_with (first
      | (refine bx26 (by rfl) _ (by rfl) _ (by rfl) hs ?_
         intro _))
    generalize World.alloc (World.alloc (World.alloc (World.alloc _ _) _) _) _ = v1 at H0 ⊢
    have H1d := hid H0.out.drew
    have f0 := H1d.out.p3.f0
    have f1 := H1d.out.p3.f1
    have z0 := H1d.out.p3.bf.frozen 0
    have z1 := H1d.out.p3.bf.frozen 1
    have g0 : v1.drew.cell? ⟨w.heap.size + 1 + 1 + 1, 3, none⟩ = some (.func (.func 146) #[] #[]) := by simpa using H1d.out.bw.cell 3
    obtain ⟨q1, q2⟩ := box_isB H1d.out.p3.bt ht.len
    go_region_law (first
      | (go_simp
         go_at_call 146
         (with_reducible refine (inOffp_any _ t ht s h).mono ?_)
         rintro e v2 ⟨A, n, c, rfl, hn, hS, k2⟩
         have H2 := hid (H1d.out.p3.grow k2.out)
         have z0' := H2.out.bf.frozen 0
         have z1' := H2.out.bf.frozen 1
         have f0' := H2.out.f0
         have f1' := H2.out.f1
         have y0' := H2.out.br.frozen 0
         have y1' := H2.out.br.frozen 1
         have r0' := H2.out.r0
         have r1' := H2.out.r1))
    all_goals
      have H3 := hid (H2.out.both s h)
      have H4 := hid (H3.out.res s h)
      have S4 := H2.out.slb hS s h
      have R0 := H4.out.r0
      have R1 := H4.out.r1
      have F0 := H3.out.f0
      have F1 := H3.out.f1
      have Z0 := H3.out.r0
      have Z1 := H3.out.r1
      have Y0 := H3.out.br.frozen 0
      have Y1 := H3.out.br.frozen 1
      clear r0' r1' y0' y1' f0' f1' z0' z1'
      generalize World.setCell (World.setCell v2 _ _) _ _ = v3 at H3 H4 F0 F1 Z0 Z1 Y0 Y1 S4 R0 R1 ⊢
      try go_wp2
      generalize World.setCell (World.setCell v3 _ _) _ _ = v4 at H4 S4 R0 R1 ⊢
      refine bodyPost_ret (v := .tuple #[.agg #[.bool s, .bool h], .slice A n c, .int .i64 0]) (by simp [results, Tryz.results110, R0, R1, go_sem]) rfl ?_
      exact ⟨A, n, c, rfl, hn, S4, hid H4.out.bel⟩
  by_cases e4 : what = 4
  · subst e4
    clear e1 e2 e3
    obtain rfl : ((s, h), toldF t 8, 0) = r := (show askF t s h 4 = ((s, h), toldF t 8, 0) by simp [askF]).symm.trans hr.out
    have H0 := hid (A4.new w t s h)
    go_enter Tryz.func110, Tryz.ntmps110
    go_wp2_with (first
      | (refine bx26 (by rfl) _ (by rfl) _ (by rfl) hs ?_
         intro _))
    generalize World.alloc (World.alloc (World.alloc (World.alloc _ _) _) _) _ = v1 at H0 ⊢
    have H1d := hid H0.out.drew
    have f0 := H1d.out.p3.f0
    have f1 := H1d.out.p3.f1
    have z0 := H1d.out.p3.bf.frozen 0
    have z1 := H1d.out.p3.bf.frozen 1
    have g0 : v1.drew.cell? ⟨w.heap.size + 1 + 1 + 1, 4, none⟩ = some (.func (.func 147) #[] #[]) := by simpa using H1d.out.bw.cell 4
    obtain ⟨q1, q2⟩ := box_isB H1d.out.p3.bt ht.len
    go_region_law (first
      | (go_simp
         go_at_call 147
         (with_reducible refine (inOnp_any _ t ht s h).mono ?_)
         rintro e v2 ⟨A, n, c, rfl, hn, hS, k2⟩
         have H2 := hid (H1d.out.p3.grow k2.out)
         have z0' := H2.out.bf.frozen 0
         have z1' := H2.out.bf.frozen 1
         have f0' := H2.out.f0
         have f1' := H2.out.f1
         have y0' := H2.out.br.frozen 0
         have y1' := H2.out.br.frozen 1
         have r0' := H2.out.r0
         have r1' := H2.out.r1))
    all_goals
      have H3 := hid (H2.out.both s h)
      have H4 := hid (H3.out.res s h)
      have S4 := H2.out.slb hS s h
      have R0 := H4.out.r0
      have R1 := H4.out.r1
      have F0 := H3.out.f0
      have F1 := H3.out.f1
      have Z0 := H3.out.r0
      have Z1 := H3.out.r1
      have Y0 := H3.out.br.frozen 0
      have Y1 := H3.out.br.frozen 1
      clear r0' r1' y0' y1' f0' f1' z0' z1'
      generalize World.setCell (World.setCell v2 _ _) _ _ = v3 at H3 H4 F0 F1 Z0 Z1 Y0 Y1 S4 R0 R1 ⊢
      try go_wp2
      generalize World.setCell (World.setCell v3 _ _) _ _ = v4 at H4 S4 R0 R1 ⊢
      refine bodyPost_ret (v := .tuple #[.agg #[.bool s, .bool h], .slice A n c, .int .i64 0]) (by simp [results, Tryz.results110, R0, R1, go_sem]) rfl ?_
      exact ⟨A, n, c, rfl, hn, S4, hid H4.out.bel⟩
  obtain rfl : ((false, false), [], 2) = r := (show askF t s h what = ((false, false), [], 2) by simp [askF, e1, e2, e3, e4]).symm.trans hr.out
  have H0 := hid (P3.new w t s h)
  rcases (by omega : what < 1 ∨ 4 < what) with hw | hw
  · clear e1 e2 e3 e4 hr
    go_enter Tryz.func110, Tryz.ntmps110
    go_wp2_with (first
      | (refine bx26 (by rfl) _ (by rfl) _ (by rfl) hs ?_
         intro _))
    have R0 := H0.out.r0
    have R1 := H0.out.r1
    generalize World.alloc (World.alloc _ _) _ = v4 at H0 R0 R1 ⊢
    refine bodyPost_ret (v := .tuple #[.agg #[.bool false, .bool false], .slice none 0 0, .int .i64 2]) (by simp [results, Tryz.results110, R0, R1, go_sem]) rfl ?_
    exact ⟨none, 0, 0, rfl, hid rfl, hid (slb_none _), hid H0.out.bel⟩
  · have hw2 : ¬ what < 1 := by omega
    clear e1 e2 e3 e4 hr
    go_enter Tryz.func110, Tryz.ntmps110
    go_wp2_with (first
      | (refine bx26 (by rfl) _ (by rfl) _ (by rfl) hs ?_
         intro _))
    have R0 := H0.out.r0
    have R1 := H0.out.r1
    generalize World.alloc (World.alloc _ _) _ = v4 at H0 R0 R1 ⊢
    refine bodyPost_ret (v := .tuple #[.agg #[.bool false, .bool false], .slice none 0 0, .int .i64 2]) (by simp [results, Tryz.results110, R0, R1, go_sem]) rfl ?_
    exact ⟨none, 0, 0, rfl, hid rfl, hid (slb_none _), hid H0.out.bel⟩
end Go.Proofs.YtggcampdkgfmgaaGreat.L15
