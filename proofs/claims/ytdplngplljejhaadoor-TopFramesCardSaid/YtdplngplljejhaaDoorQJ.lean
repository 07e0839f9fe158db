import Derived.Test.YtdplngplljejhaaDoorQI
import Derived.Test.YtdplngplljejhaaDoorME
namespace Go.Proofs.YtdplngplljejhaaDoor
open Go.RowKit

/-- A reader's cells. -/
def Rq.rcells (r : Rq) (A : Option Addr) (c : Nat) (lA : Option Addr) (n lc : Nat) : Array Value :=
  #[.int .i64 r.kind, .string r.text, .string r.value, .string r.lang, .int .u32 r.cols, .int .u32 r.rows, .int .u32 r.width, .int .u32 r.height, .slice A r.modes.length c, .bool r.on, .int .u32 r.code, .slice lA n lc]
/-- A reader's block, and the fields that it has left. -/
def RdS (w : World) (base g : Nat) (r : Rq) (fs : List Fd) : Prop :=
  base ≤ g ∧ ∃ A c lA lc cs, Box w g 69 (r.rcells A c lA fs.length lc) ∧ w.ownsRow base 5 1 (.slice A r.modes.length c) r.modes.length (bv r.modes) ∧ (fs.length ≤ lc ∧ lc ≤ maxLen) ∧ LT w base 80 lA cs ∧ FlatF w base fs cs
theorem RdS.lt {w : World} {base g : Nat} {r : Rq} {fs : List Fd} (h : RdS w base g r fs) : g < w.heap.size := by
  obtain ⟨_, A, c, lA, lc, cs, hx, _⟩ := h
  exact hx.lt
theorem RdS.kept {w w' : World} {base g : Nat} {r : Rq} {fs : List Fd} {T : List TypeId} (h : RdS w base g r fs) (k : Kept base T w w') (h1 : 69 ∉ T) (h2 : 80 ∉ T) (h3 : 5 ∉ T) (h4 : 9 ∉ T) : RdS w' base g r fs := by
  obtain ⟨h0, A, c, lA, lc, cs, hx, ho, hb, hl, hf⟩ := h
  exact ⟨h0, A, c, lA, lc, cs, k.box hx h1, k.own ho h3, hb, hl.kept k h2, FlatF.kept k h3 h4 _ _ hf⟩
theorem RdS.below {w w' : World} {base g : Nat} {r : Rq} {fs : List Fd} (h : RdS w base g r fs) (k : Below w.heap.size w w') : RdS w' base g r fs := h.kept (Kept.of_below k base []) (by simp) (by simp) (by simp) (by simp)
/-- What takes the first field answers. -/
def NextR (base g : Nat) (r : Rq) (f : Fd) (fs : List Fd) (w : World) (e : Ending) (w' : World) : Prop :=
  ∃ tA tc lA lc, e = .returned (.agg #[.int .i64 f.kind, .int .u32 f.n, .slice tA f.text.length tc, .slice lA f.list.length lc]) ∧ Hid (w'.ownsRow base 5 1 (.slice tA f.text.length tc) f.text.length (bv f.text)) ∧ Hid (RdS w' base g r fs) ∧ Hid (Kept base [69] w w')
theorem lt_drop {w : World} {base t b o : Nat} {v0 v1 v2 v3 : Value} {cs : List Value} (h : LT w base t (some ⟨b, o, none⟩) (v0 :: v1 :: v2 :: v3 :: cs)) : LT w base t (some ⟨b, o + 4, none⟩) cs := fun _ => by
  obtain ⟨b', o', e, h1, h2, h3⟩ := h (by simp)
  injection e with e
  injection e with e1 e2 _
  subst e1; subst e2
  refine ⟨_, _, rfl, h1, h2, fun j u hu => ?_⟩
  rw [Nat.add_assoc]
  exact h3 (4 + j) u (by rw [Nat.add_comm 4 j]; simpa using hu)
theorem flatF_nil {w : World} {base : Nat} {cs : List Value} (h : FlatF w base [] cs) : cs = [] := h
theorem lt_nil (w : World) (base t : Nat) (A : Option Addr) : LT w base t A [] := fun h => absurd rfl h
theorem next_store {w : World} {base g c n lc lc' m : Nat} {r : Rq} {A lA lA' : Option Addr} {fs : List Fd} {cs : List Value} (o1 o2 : Obj) (hbg : base ≤ g) (hm : fs.length = m) (hx : Box w g 69 (r.rcells A c lA n lc)) (ho : w.ownsRow base 5 1 (.slice A r.modes.length c) r.modes.length (bv r.modes))
    (hb : m ≤ lc' ∧ lc' ≤ maxLen) (hl : LT w base 80 lA' cs) (hf : FlatF w base fs cs) :
    RdS (((w.setCell ⟨g, 11, none⟩ (.slice lA' m lc')).alloc o1).alloc o2) base g r fs ∧ Kept base [69] w (((w.setCell ⟨g, 11, none⟩ (.slice lA' m lc')).alloc o1).alloc o2) := by
  subst hm
  have k1 : Kept base [69] w (w.setCell ⟨g, 11, none⟩ (.slice lA' fs.length lc')) := (Kept.refl _ _ _).store hx hbg (by simp) _
  have k3 := (k1.alloc o1).alloc o2
  have hx3 := box_al (box_al (hx.store 11 (.slice lA' fs.length lc')) o1) o2
  exact ⟨⟨hbg, A, c, lA', lc', cs, hx3, k3.own ho (by decide), hb, hl.kept k3 (by decide), FlatF.kept k3 (by decide) (by decide) _ _ hf⟩, k3⟩
set_option maxHeartbeats 2000000 in
set_option maxRecDepth 100000 in
theorem next_one (base g : Nat) (r : Rq) (f : Fd) (fs : List Fd) (w : World) (A : Option Addr) (c : Nat) (lA : Option Addr) (lc : Nat) (cs : List Value) (hbg : base ≤ g) (hx : Box w g 69 (r.rcells A c lA (fs.length + 1) lc)) (ho : w.ownsRow base 5 1 (.slice A r.modes.length c) r.modes.length (bv r.modes))
    (hb : fs.length + 1 ≤ lc ∧ lc ≤ maxLen) (hl : LT w base 80 lA cs) (hf : FlatF w base (f :: fs) cs) (h1 : lc = 1) : Calls Tryd.prog 90 #[.pointer (some ⟨g, 0, none⟩)] w (NextR base g r f fs w) := by
  obtain ⟨tA, tc, kA, kc, cr, rfl, hot, hok, hfr⟩ := hf
  obtain ⟨b, o, rfl, hblt, hbo, hcc⟩ := hl (by simp)
  have hlt := hx.lt
  have hbw : base ≤ w.heap.size := by omega
  have c11 : w.cell? ⟨g, 11, none⟩ = some (.slice (some ⟨b, o, none⟩) (fs.length + 1) lc) := hx.cell 11
  have q0 : w.cell? ⟨b, o, none⟩ = some (.int .i64 f.kind) := hcc 0 _ rfl
  have q1 : w.cell? ⟨b, o + 1, none⟩ = some (.int .u32 f.n) := hcc 1 _ rfl
  have q2 : w.cell? ⟨b, o + 2, none⟩ = some (.slice tA f.text.length tc) := hcc 2 _ rfl
  have q3 : w.cell? ⟨b, o + 3, none⟩ = some (.slice kA f.list.length kc) := hcc 3 _ rfl
  have HL := hid hl
  have HO := hid ho
  have HX := hid hx
  have HT := hid hot
  have HF := hid hfr
  have HBO := hid hbo
  have hb1 := hb.1
  have hb2 := hb.2
  unfold maxLen at hb2
  clear hl ho hx hot hok hfr hcc hb hbo
  obtain ⟨tn, HTN⟩ : ∃ n, Hid (f.text.length = n) := ⟨_, hid rfl⟩
  obtain ⟨ln, HLN⟩ : ∃ n, Hid (f.list.length = n) := ⟨_, hid rfl⟩
  obtain ⟨m, HM⟩ : ∃ n, Hid (fs.length = n) := ⟨_, hid rfl⟩
  rw [HTN.out] at q2
  rw [HLN.out] at q3
  rw [HM.out] at c11 hb1
  have hm0 : m = 0 := by omega
  subst hm0
  subst h1
  have HB1 : Hid (Below w.heap.size w (w.alloc (.cells #[.int .i64 0, .int .u32 0, .slice none 0 0, .slice none 0 0] 80))) := hid ((Below.refl _ _).alloc (Nat.le_refl _) _)
  have HB2 : Hid (Below w.heap.size w ((w.alloc (.cells #[.int .i64 0, .int .u32 0, .slice none 0 0, .slice none 0 0] 80)).alloc (.cells #[.int .i64 f.kind, .int .u32 f.n, .slice tA tn tc, .slice kA ln kc] 80))) := hid (HB1.out.alloc HB1.out.size _)
  have p0 := (HB1.out.cell (p := ⟨b, o, none⟩) hblt).trans q0
  have p1 := (HB1.out.cell (p := ⟨b, o + 1, none⟩) hblt).trans q1
  have p2 := (HB1.out.cell (p := ⟨b, o + 2, none⟩) hblt).trans q2
  have p3 := (HB1.out.cell (p := ⟨b, o + 3, none⟩) hblt).trans q3
  have c11a := (HB1.out.cell (p := ⟨g, 11, none⟩) hlt).trans c11
  have c11b := (HB2.out.cell (p := ⟨g, 11, none⟩) hlt).trans c11
  have f11b := (HB2.out.frozen (p := ⟨g, 11, none⟩) hlt).trans (HX.out.frozen 11)
  clear q0 q1 q2 q3 c11
  have hgs : g ≠ w.heap.size := by omega
  have hgs1 : g ≠ w.heap.size + 1 := by omega
  go_enter Tryd.func90, Tryd.ntmps90
  go_wp2
  refine bodyPost_ret (v := .agg #[.int .i64 f.kind, .int .u32 f.n, .slice tA tn tc, .slice kA ln kc]) (by simp [results, Tryd.results90, go_sem]) rfl ?_
  have hfin := next_store (.cells #[.int .i64 f.kind, .int .u32 f.n, .slice tA tn tc, .slice kA ln kc] 80) (.cells #[.int .i64 f.kind, .int .u32 f.n, .slice tA tn tc, .slice kA ln kc] 80) (lA' := some ⟨b, o, none⟩) (lc' := 0) hbg HM.out HX.out HO.out ⟨by omega, by unfold maxLen; omega⟩ (by have e : fs = [] := List.eq_nil_of_length_eq_zero HM.out; have e2 := HF.out; rw [e] at e2; rw [flatF_nil e2]; exact lt_nil _ _ _ _) HF.out
  refine ⟨tA, tc, kA, kc, by rw [HTN.out, HLN.out], ?_, hfin.1, hfin.2⟩
  exact hfin.2.own HT.out (by decide)
set_option maxHeartbeats 2000000 in
set_option maxRecDepth 100000 in
theorem next_more (base g : Nat) (r : Rq) (f : Fd) (fs : List Fd) (w : World) (A : Option Addr) (c : Nat) (lA : Option Addr) (lc : Nat) (cs : List Value) (hbg : base ≤ g) (hx : Box w g 69 (r.rcells A c lA (fs.length + 1) lc)) (ho : w.ownsRow base 5 1 (.slice A r.modes.length c) r.modes.length (bv r.modes))
    (hb : fs.length + 1 ≤ lc ∧ lc ≤ maxLen) (hl : LT w base 80 lA cs) (hf : FlatF w base (f :: fs) cs) (h1 : 1 < lc) : Calls Tryd.prog 90 #[.pointer (some ⟨g, 0, none⟩)] w (NextR base g r f fs w) := by
  obtain ⟨tA, tc, kA, kc, cr, rfl, hot, hok, hfr⟩ := hf
  obtain ⟨b, o, rfl, hblt, hbo, hcc⟩ := hl (by simp)
  have hlt := hx.lt
  have hbw : base ≤ w.heap.size := by omega
  have c11 : w.cell? ⟨g, 11, none⟩ = some (.slice (some ⟨b, o, none⟩) (fs.length + 1) lc) := hx.cell 11
  have q0 : w.cell? ⟨b, o, none⟩ = some (.int .i64 f.kind) := hcc 0 _ rfl
  have q1 : w.cell? ⟨b, o + 1, none⟩ = some (.int .u32 f.n) := hcc 1 _ rfl
  have q2 : w.cell? ⟨b, o + 2, none⟩ = some (.slice tA f.text.length tc) := hcc 2 _ rfl
  have q3 : w.cell? ⟨b, o + 3, none⟩ = some (.slice kA f.list.length kc) := hcc 3 _ rfl
  have HL := hid hl
  have HO := hid ho
  have HX := hid hx
  have HT := hid hot
  have HF := hid hfr
  have HBO := hid hbo
  have hb1 := hb.1
  have hb2 := hb.2
  unfold maxLen at hb2
  clear hl ho hx hot hok hfr hcc hb hbo
  obtain ⟨tn, HTN⟩ : ∃ n, Hid (f.text.length = n) := ⟨_, hid rfl⟩
  obtain ⟨ln, HLN⟩ : ∃ n, Hid (f.list.length = n) := ⟨_, hid rfl⟩
  obtain ⟨m, HM⟩ : ∃ n, Hid (fs.length = n) := ⟨_, hid rfl⟩
  rw [HTN.out] at q2
  rw [HLN.out] at q3
  rw [HM.out] at c11 hb1
  have hne : ¬ lc = 1 := by omega
  have HB1 : Hid (Below w.heap.size w (w.alloc (.cells #[.int .i64 0, .int .u32 0, .slice none 0 0, .slice none 0 0] 80))) := hid ((Below.refl _ _).alloc (Nat.le_refl _) _)
  have HB2 : Hid (Below w.heap.size w ((w.alloc (.cells #[.int .i64 0, .int .u32 0, .slice none 0 0, .slice none 0 0] 80)).alloc (.cells #[.int .i64 f.kind, .int .u32 f.n, .slice tA tn tc, .slice kA ln kc] 80))) := hid (HB1.out.alloc HB1.out.size _)
  have p0 := (HB1.out.cell (p := ⟨b, o, none⟩) hblt).trans q0
  have p1 := (HB1.out.cell (p := ⟨b, o + 1, none⟩) hblt).trans q1
  have p2 := (HB1.out.cell (p := ⟨b, o + 2, none⟩) hblt).trans q2
  have p3 := (HB1.out.cell (p := ⟨b, o + 3, none⟩) hblt).trans q3
  have c11a := (HB1.out.cell (p := ⟨g, 11, none⟩) hlt).trans c11
  have c11b := (HB2.out.cell (p := ⟨g, 11, none⟩) hlt).trans c11
  have f11b := (HB2.out.frozen (p := ⟨g, 11, none⟩) hlt).trans (HX.out.frozen 11)
  clear q0 q1 q2 q3 c11
  have hgs : g ≠ w.heap.size := by omega
  have hgs1 : g ≠ w.heap.size + 1 := by omega
  go_enter Tryd.func90, Tryd.ntmps90
  go_wp2
  refine bodyPost_ret (v := .agg #[.int .i64 f.kind, .int .u32 f.n, .slice tA tn tc, .slice kA ln kc]) (by simp [results, Tryd.results90, go_sem]) rfl ?_
  have hfin := next_store (.cells #[.int .i64 f.kind, .int .u32 f.n, .slice tA tn tc, .slice kA ln kc] 80) (.cells #[.int .i64 f.kind, .int .u32 f.n, .slice tA tn tc, .slice kA ln kc] 80) (lA' := some ⟨b, o + 4, none⟩) (lc' := lc - 1) hbg HM.out HX.out HO.out ⟨by omega, by unfold maxLen; omega⟩ (lt_drop HL.out) HF.out
  refine ⟨tA, tc, kA, kc, by rw [HTN.out, HLN.out], ?_, hfin.1, hfin.2⟩
  exact hfin.2.own HT.out (by decide)
theorem next_any (base g : Nat) (r : Rq) (f : Fd) (fs : List Fd) (w : World) (hs : RdS w base g r (f :: fs)) : Calls Tryd.prog 90 #[.pointer (some ⟨g, 0, none⟩)] w (NextR base g r f fs w) := by
  obtain ⟨h0, A, c, lA, lc, cs, hx, ho, hb, hl, hf⟩ := hs
  rw [List.length_cons] at hx hb
  by_cases h1 : lc = 1
  · exact next_one base g r f fs w A c lA lc cs h0 hx ho hb hl hf h1
  · exact next_more base g r f fs w A c lA lc cs h0 hx ho hb hl hf (by omega)
end Go.Proofs.YtdplngplljejhaaDoor
