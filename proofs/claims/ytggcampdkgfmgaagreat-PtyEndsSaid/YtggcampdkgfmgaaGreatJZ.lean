import Derived.Test.YtggcampdkgfmgaaGreatQS
import Derived.Deep.DeepCutAuto
import Derived.Deep.WholeRow
namespace Go.Proofs.YtggcampdkgfmgaaGreat
open Go.RowKit

/-! The law's From, the document's Same, where no lines wait. -/
def fRest (D : Ds) (h : Ph) : List Value :=
  [.slice h.lA D.line.length h.lc, .bool D.nx, .slice none 0 0, .slice h.rA D.raw.length h.rc, .bool D.s, .bool D.h, .slice h.oA D.out.length h.oc, .int .i64 D.col, .int .i64 D.fr, .int .i64 D.idle]
structure FIn (w : World) (D : Ds) (h : Ph) : Prop where
  t : D.t.Ok
  line : SlB w w.heap.size h.lA h.lc D.line
  raw : SlB w w.heap.size h.rA h.rc D.raw
  out : SlB w w.heap.size h.oA h.oc D.out
theorem FIn.grow {w w' : World} {D : Ds} {h : Ph} (H : FIn w D h) (k : Below w.heap.size w w') : FIn w' D h :=
  ⟨H.t, (slb_at (hid H.line) (hid k)).out, (slb_at (hid H.raw) (hid k)).out, (slb_at (hid H.out) (hid k)).out⟩
theorem eqT_id (t : Tm) : eqT t t = true := by simp [eqT]
/-- A setting's value. -/
def IsT (v : Value) : Prop := ∃ t : Tm, t.c.length = 19 ∧ v = .agg t.cs
theorem isT_cs {t : Tm} (h : t.c.length = 19) : IsT (.agg t.cs) := ⟨t, h, rfl⟩
/-- Whether two values are one. -/
noncomputable def eqV (x y : Value) : Bool := @decide (x = y) (Classical.propDecidable _)
theorem cl_inj {t u : Tm} (ht : t.c.length = 19) (hu : u.c.length = 19) (h : t.cl = u.cl) : t = u := by
  unfold Tm.cl at h
  have hl : (bv t.c).length = (bv u.c).length := by simp [bv, ht, hu]
  obtain ⟨h1, h2⟩ := List.append_inj h hl
  have hc : t.c = u.c := by
    apply List.ext_getElem (by omega)
    intro i hi hi2
    have h3 := congrArg (fun l => l[i]?) h1
    simp [bv, hi, hi2] at h3
    exact UInt8.toNat_inj.1 (by exact_mod_cast h3)
  simp only [List.cons.injEq, Value.int.injEq, true_and, and_true] at h2
  obtain ⟨a1, a2, a3, a4, a5⟩ := h2
  cases t; cases u
  simp only at hc a1 a2 a3 a4 a5
  simp only [Tm.mk.injEq]
  exact ⟨hc, by exact_mod_cast a1, by exact_mod_cast a2, by exact_mod_cast a3, a4, a5⟩
theorem cs_inj {t u : Tm} (ht : t.c.length = 19) (hu : u.c.length = 19) (h : t.cs = u.cs) : t = u := by
  refine cl_inj ht hu ?_
  have := congrArg Array.toList h
  simpa [Tm.cs] using this
theorem eqV_cs {t u : Tm} (ht : t.c.length = 19) (hu : u.c.length = 19) : eqV (.agg t.cs) (.agg u.cs) = eqT t u := by
  unfold eqV
  rw [Bool.eq_iff_iff, @decide_eq_true_iff _ (Classical.propDecidable _), eqT_iff]
  constructor
  · intro h
    injection h with h
    exact cs_inj ht hu h
  · rintro rfl; rfl
theorem eqV_of {t u : Tm} {b : Bool} (ht : t.c.length = 19) (hu : u.c.length = 19) (h : eqT t u = b) : eqV (.agg t.cs) (.agg u.cs) = b := by rw [eqV_cs ht hu, h]
theorem run_eqlV (w : World) {x y : Value} (hx : IsT x) (hy : IsT y) : (binOp .eql 26 x y).run Tryz.prog w = .ok (.bool (eqV x y)) w := by
  obtain ⟨t, ht, rfl⟩ := hx
  obtain ⟨u, hu, rfl⟩ := hy
  rw [run_eql26 w t u ht hu, eqV_cs ht hu]
theorem run_guardV (w : World) (op : BinOp) (X Y : Operand) {x y : Value} (hx : IsT x) (hy : IsT y) : (eqGuard op 26 X Y x y).run Tryz.prog w = .ok () w := by
  obtain ⟨t, ht, rfl⟩ := hx
  obtain ⟨u, hu, rfl⟩ := hy
  exact run_eqGuard_agg w op 26 X Y _ _ (by kernel_rfl)
section
variable {dst : Option Tmp} {x y : Operand} {ty r : TypeId} {pos : String} {after : Array Edge} {gd : Option (Nat × Bool)} {a : Act}
theorem wp_eq26 {w : World} {K : Act → World → Prop} {Q : Exit → Act → World → Prop} (h1 : IsT (a.eval x)) (h2 : IsT (a.eval y)) :
    Oper.wp Tryz.prog { dst, op := .binOp .eql 26 x y r, type := ty, pos, after, guard := gd } a w K Q = K (a.put dst (.bool (eqV (a.eval x) (a.eval y)))) w := by
  unfold Oper.wp execOp
  simp only [Sem.run_bind, run_guardV w _ _ _ h1 h2, Result.andThen_ok, run_eqlV w h1 h2]
  rfl
end
theorem size79 : (Tryz.prog.info? 79).map (·.size) = some 34 := by kernel_rfl
set_option maxRecDepth 100000 in
theorem same13_nil (w : World) : Calls Tryz.prog 74 #[.slice none 0 0, .slice none 0 0] w fun e w' => e = .returned (.bool true) ∧ Hid (Below w.heap.size w w') := by
  go_enter Tryz.func74, Tryz.ntmps74
  go_wp2_with fail
  go_loopg [13] 0 (fun gk i wr => i = .int .i64 0 ∧ Hid (Below w.heap.size w wr))
  case atStart => exact ⟨rfl, hid (Below.refl _ _)⟩
  case round =>
    obtain ⟨rfl, K3⟩ := hrel
    go_wp2_with fail
    go_ret
    exact ⟨rfl, K3⟩
attribute [local go_sem ↓] wp_ldR wp_eq26 Go.wp_at_zero Go.wp_at_succ
attribute [local go_sem] isP_v blkV_v aggV_v
set_option maxRecDepth 100000 in
set_option maxHeartbeats 8000000 in
theorem same16_any (w : World) (D : Ds) (h1 h2 : Ph) (X1 : Hid (FIn w D h1)) (X2 : Hid (FIn w D h2)) (hf : Hid (Fit D)) : Calls Tryz.prog 34 #[.agg (tmV D.t (fRest D h1)), .agg (tmV D.t (fRest D h2))] w fun e w' => e = .returned (.bool true) ∧ Hid (Below w.heap.size w w') := by
  have ht := X1.out.t
  have hl := ht.len
  obtain ⟨ll, hll⟩ : ∃ q, Hid (D.line.length = q) := ⟨_, hid rfl⟩
  obtain ⟨lr, hlr⟩ : ∃ q, Hid (D.raw.length = q) := ⟨_, hid rfl⟩
  obtain ⟨lo, hlo⟩ : ∃ q, Hid (D.out.length = q) := ⟨_, hid rfl⟩
  have m1 : ll ≤ maxLen := by have := hll.out; have := hf.out.line; unfold maxLen; omega
  have m2 : lr ≤ maxLen := by have := hlr.out; have := hf.out.raw; unfold maxLen; omega
  have m3 : lo ≤ maxLen := by have := hlo.out; have := hf.out.out; unfold maxLen; omega
  have s1 : Hid ((Tryz.prog.info? 79).map (·.size) = some (tmV D.t (fRest D h1)).size) := hid (by rw [tmV_size ht]; exact size79)
  have s2 : Hid ((Tryz.prog.info? 79).map (·.size) = some (tmV D.t (fRest D h2)).size) := hid (by rw [tmV_size ht]; exact size79)
  have F1 : Hid (∀ (j : Nat) (v : Value), ([.slice h1.lA ll h1.lc, .bool D.nx, .slice none 0 0, .slice h1.rA lr h1.rc, .bool D.s, .bool D.h, .slice h1.oA lo h1.oc, .int .i64 D.col, .int .i64 D.fr, .int .i64 D.idle] : List Value)[j]? = some v → (tmV D.t (fRest D h1))[24 + j]? = some v) := hid (fun j v h => tmV_back ht (by rw [← h, ← hll.out, ← hlr.out, ← hlo.out]; rfl))
  have F2 : Hid (∀ (j : Nat) (v : Value), ([.slice h2.lA ll h2.lc, .bool D.nx, .slice none 0 0, .slice h2.rA lr h2.rc, .bool D.s, .bool D.h, .slice h2.oA lo h2.oc, .int .i64 D.col, .int .i64 D.fr, .int .i64 D.idle] : List Value)[j]? = some v → (tmV D.t (fRest D h2))[24 + j]? = some v) := hid (fun j v h => tmV_back ht (by rw [← h, ← hll.out, ← hlr.out, ← hlo.out]; rfl))
  have E1 : Hid (∀ (j : Nat) (v : Value), D.t.cl[j]? = some v → (tmV D.t (fRest D h1))[j]? = some v) := hid (tmV_front _)
  have E2 : Hid (∀ (j : Nat) (v : Value), D.t.cl[j]? = some v → (tmV D.t (fRest D h2))[j]? = some v) := hid (tmV_front _)
  generalize tmV D.t (fRest D h1) = V1 at s1 F1 E1 ⊢
  generalize tmV D.t (fRest D h2) = V2 at s2 F2 E2 ⊢
  have B1x0 : Hid (Box ((w.alloc (.cells V1 79)).alloc (.cells V2 79)) w.heap.size 79 V1) := hid (box_al (box_nw rfl))
  have B2x0 : Hid (Box ((w.alloc (.cells V1 79)).alloc (.cells V2 79)) (w.heap.size + 1) 79 V2) := hid (box_nw (by simp))
  have K0 : Hid (Below w.heap.size w ((w.alloc (.cells V1 79)).alloc (.cells V2 79))) := hid (((Below.refl _ w).alloc (Nat.le_refl _) _).alloc (by simp) _)
  have G0 := hid (X1.out.grow K0.out)
  have H0 := hid (X2.out.grow K0.out)
  have c1a0 : World.cell? ((w.alloc (.cells V1 79)).alloc (.cells V2 79)) ⟨w.heap.size, 24, none⟩ = some (.slice h1.lA ll h1.lc) := (B1x0.out.cell 24).trans (F1.out 0 _ rfl)
  have c1b0 : World.cell? ((w.alloc (.cells V1 79)).alloc (.cells V2 79)) ⟨w.heap.size, 25, none⟩ = some (.bool D.nx) := (B1x0.out.cell 25).trans (F1.out 1 _ rfl)
  have c1c0 : World.cell? ((w.alloc (.cells V1 79)).alloc (.cells V2 79)) ⟨w.heap.size, 26, none⟩ = some (.slice none 0 0) := (B1x0.out.cell 26).trans (F1.out 2 _ rfl)
  have c1d0 : World.cell? ((w.alloc (.cells V1 79)).alloc (.cells V2 79)) ⟨w.heap.size, 27, none⟩ = some (.slice h1.rA lr h1.rc) := (B1x0.out.cell 27).trans (F1.out 3 _ rfl)
  have c1e0 : World.cell? ((w.alloc (.cells V1 79)).alloc (.cells V2 79)) ⟨w.heap.size, 28, none⟩ = some (.bool D.s) := (B1x0.out.cell 28).trans (F1.out 4 _ rfl)
  have c1f0 : World.cell? ((w.alloc (.cells V1 79)).alloc (.cells V2 79)) ⟨w.heap.size, 29, none⟩ = some (.bool D.h) := (B1x0.out.cell 29).trans (F1.out 5 _ rfl)
  have c1g0 : World.cell? ((w.alloc (.cells V1 79)).alloc (.cells V2 79)) ⟨w.heap.size, 30, none⟩ = some (.slice h1.oA lo h1.oc) := (B1x0.out.cell 30).trans (F1.out 6 _ rfl)
  have c1h0 : World.cell? ((w.alloc (.cells V1 79)).alloc (.cells V2 79)) ⟨w.heap.size, 31, none⟩ = some (.int .i64 D.col) := (B1x0.out.cell 31).trans (F1.out 7 _ rfl)
  have c1i0 : World.cell? ((w.alloc (.cells V1 79)).alloc (.cells V2 79)) ⟨w.heap.size, 32, none⟩ = some (.int .i64 D.fr) := (B1x0.out.cell 32).trans (F1.out 8 _ rfl)
  have c1j0 : World.cell? ((w.alloc (.cells V1 79)).alloc (.cells V2 79)) ⟨w.heap.size, 33, none⟩ = some (.int .i64 D.idle) := (B1x0.out.cell 33).trans (F1.out 9 _ rfl)
  have c2a0 : World.cell? ((w.alloc (.cells V1 79)).alloc (.cells V2 79)) ⟨w.heap.size + 1, 24, none⟩ = some (.slice h2.lA ll h2.lc) := (B2x0.out.cell 24).trans (F2.out 0 _ rfl)
  have c2b0 : World.cell? ((w.alloc (.cells V1 79)).alloc (.cells V2 79)) ⟨w.heap.size + 1, 25, none⟩ = some (.bool D.nx) := (B2x0.out.cell 25).trans (F2.out 1 _ rfl)
  have c2c0 : World.cell? ((w.alloc (.cells V1 79)).alloc (.cells V2 79)) ⟨w.heap.size + 1, 26, none⟩ = some (.slice none 0 0) := (B2x0.out.cell 26).trans (F2.out 2 _ rfl)
  have c2d0 : World.cell? ((w.alloc (.cells V1 79)).alloc (.cells V2 79)) ⟨w.heap.size + 1, 27, none⟩ = some (.slice h2.rA lr h2.rc) := (B2x0.out.cell 27).trans (F2.out 3 _ rfl)
  have c2e0 : World.cell? ((w.alloc (.cells V1 79)).alloc (.cells V2 79)) ⟨w.heap.size + 1, 28, none⟩ = some (.bool D.s) := (B2x0.out.cell 28).trans (F2.out 4 _ rfl)
  have c2f0 : World.cell? ((w.alloc (.cells V1 79)).alloc (.cells V2 79)) ⟨w.heap.size + 1, 29, none⟩ = some (.bool D.h) := (B2x0.out.cell 29).trans (F2.out 5 _ rfl)
  have c2g0 : World.cell? ((w.alloc (.cells V1 79)).alloc (.cells V2 79)) ⟨w.heap.size + 1, 30, none⟩ = some (.slice h2.oA lo h2.oc) := (B2x0.out.cell 30).trans (F2.out 6 _ rfl)
  have c2h0 : World.cell? ((w.alloc (.cells V1 79)).alloc (.cells V2 79)) ⟨w.heap.size + 1, 31, none⟩ = some (.int .i64 D.col) := (B2x0.out.cell 31).trans (F2.out 7 _ rfl)
  have c2i0 : World.cell? ((w.alloc (.cells V1 79)).alloc (.cells V2 79)) ⟨w.heap.size + 1, 32, none⟩ = some (.int .i64 D.fr) := (B2x0.out.cell 32).trans (F2.out 8 _ rfl)
  have c2j0 : World.cell? ((w.alloc (.cells V1 79)).alloc (.cells V2 79)) ⟨w.heap.size + 1, 33, none⟩ = some (.int .i64 D.idle) := (B2x0.out.cell 33).trans (F2.out 9 _ rfl)
  obtain ⟨q1, q2⟩ := front_R hl B1x0.out E1.out
  obtain ⟨q3, q4⟩ := front_R hl B2x0.out E2.out
  have qT := isT_cs hl
  have qE := eqV_of hl hl (eqT_id D.t)
  go_enter Tryz.func34, Tryz.ntmps34
  go_wp2_with (first
    | (refine bxT (by rfl) 79 _ (by rfl) V1 (by rfl) s1.out ?_)
    | (refine bxT (by rfl) 79 _ (by rfl) V2 (by rfl) s2.out ?_)
    | (go_at_call 22
       (first
         | ((with_reducible refine (bytes_two ((w.alloc (.cells V1 79)).alloc (.cells V2 79)) h1.lA h2.lA h1.lc h2.lc ll ll D.line D.line hll.out hll.out rfl (hid G0.out.line) (hid H0.out.line) m1).mono ?_)
            rintro e u1 ⟨rfl, k1⟩
            have B1x1 := hid (box_below B1x0.out k1.out)
            have B2x1 := hid (box_below B2x0.out k1.out)
            have K1 := bel_t K0 k1.out
            have G1 := hid (G0.out.grow k1.out)
            have H1 := hid (H0.out.grow k1.out)
            clear c1a0 c1b0 c1c0 c1d0 c1e0 c1f0 c1g0 c1h0 c1i0 c1j0 c2a0 c2b0 c2c0 c2d0 c2e0 c2f0 c2g0 c2h0 c2i0 c2j0
            have c1a1 : World.cell? u1 ⟨w.heap.size, 24, none⟩ = some (.slice h1.lA ll h1.lc) := (B1x1.out.cell 24).trans (F1.out 0 _ rfl)
            have c1b1 : World.cell? u1 ⟨w.heap.size, 25, none⟩ = some (.bool D.nx) := (B1x1.out.cell 25).trans (F1.out 1 _ rfl)
            have c1c1 : World.cell? u1 ⟨w.heap.size, 26, none⟩ = some (.slice none 0 0) := (B1x1.out.cell 26).trans (F1.out 2 _ rfl)
            have c1d1 : World.cell? u1 ⟨w.heap.size, 27, none⟩ = some (.slice h1.rA lr h1.rc) := (B1x1.out.cell 27).trans (F1.out 3 _ rfl)
            have c1e1 : World.cell? u1 ⟨w.heap.size, 28, none⟩ = some (.bool D.s) := (B1x1.out.cell 28).trans (F1.out 4 _ rfl)
            have c1f1 : World.cell? u1 ⟨w.heap.size, 29, none⟩ = some (.bool D.h) := (B1x1.out.cell 29).trans (F1.out 5 _ rfl)
            have c1g1 : World.cell? u1 ⟨w.heap.size, 30, none⟩ = some (.slice h1.oA lo h1.oc) := (B1x1.out.cell 30).trans (F1.out 6 _ rfl)
            have c1h1 : World.cell? u1 ⟨w.heap.size, 31, none⟩ = some (.int .i64 D.col) := (B1x1.out.cell 31).trans (F1.out 7 _ rfl)
            have c1i1 : World.cell? u1 ⟨w.heap.size, 32, none⟩ = some (.int .i64 D.fr) := (B1x1.out.cell 32).trans (F1.out 8 _ rfl)
            have c1j1 : World.cell? u1 ⟨w.heap.size, 33, none⟩ = some (.int .i64 D.idle) := (B1x1.out.cell 33).trans (F1.out 9 _ rfl)
            have c2a1 : World.cell? u1 ⟨w.heap.size + 1, 24, none⟩ = some (.slice h2.lA ll h2.lc) := (B2x1.out.cell 24).trans (F2.out 0 _ rfl)
            have c2b1 : World.cell? u1 ⟨w.heap.size + 1, 25, none⟩ = some (.bool D.nx) := (B2x1.out.cell 25).trans (F2.out 1 _ rfl)
            have c2c1 : World.cell? u1 ⟨w.heap.size + 1, 26, none⟩ = some (.slice none 0 0) := (B2x1.out.cell 26).trans (F2.out 2 _ rfl)
            have c2d1 : World.cell? u1 ⟨w.heap.size + 1, 27, none⟩ = some (.slice h2.rA lr h2.rc) := (B2x1.out.cell 27).trans (F2.out 3 _ rfl)
            have c2e1 : World.cell? u1 ⟨w.heap.size + 1, 28, none⟩ = some (.bool D.s) := (B2x1.out.cell 28).trans (F2.out 4 _ rfl)
            have c2f1 : World.cell? u1 ⟨w.heap.size + 1, 29, none⟩ = some (.bool D.h) := (B2x1.out.cell 29).trans (F2.out 5 _ rfl)
            have c2g1 : World.cell? u1 ⟨w.heap.size + 1, 30, none⟩ = some (.slice h2.oA lo h2.oc) := (B2x1.out.cell 30).trans (F2.out 6 _ rfl)
            have c2h1 : World.cell? u1 ⟨w.heap.size + 1, 31, none⟩ = some (.int .i64 D.col) := (B2x1.out.cell 31).trans (F2.out 7 _ rfl)
            have c2i1 : World.cell? u1 ⟨w.heap.size + 1, 32, none⟩ = some (.int .i64 D.fr) := (B2x1.out.cell 32).trans (F2.out 8 _ rfl)
            have c2j1 : World.cell? u1 ⟨w.heap.size + 1, 33, none⟩ = some (.int .i64 D.idle) := (B2x1.out.cell 33).trans (F2.out 9 _ rfl))
         | ((with_reducible refine (bytes_two u2 h1.rA h2.rA h1.rc h2.rc lr lr D.raw D.raw hlr.out hlr.out rfl (hid G2.out.raw) (hid H2.out.raw) m2).mono ?_)
            rintro e u3 ⟨rfl, k3⟩
            have B1x3 := hid (box_below B1x2.out k3.out)
            have B2x3 := hid (box_below B2x2.out k3.out)
            have K3 := bel_t K2 k3.out
            have G3 := hid (G2.out.grow k3.out)
            have H3 := hid (H2.out.grow k3.out)
            clear c1a2 c1b2 c1c2 c1d2 c1e2 c1f2 c1g2 c1h2 c1i2 c1j2 c2a2 c2b2 c2c2 c2d2 c2e2 c2f2 c2g2 c2h2 c2i2 c2j2
            have c1a3 : World.cell? u3 ⟨w.heap.size, 24, none⟩ = some (.slice h1.lA ll h1.lc) := (B1x3.out.cell 24).trans (F1.out 0 _ rfl)
            have c1b3 : World.cell? u3 ⟨w.heap.size, 25, none⟩ = some (.bool D.nx) := (B1x3.out.cell 25).trans (F1.out 1 _ rfl)
            have c1c3 : World.cell? u3 ⟨w.heap.size, 26, none⟩ = some (.slice none 0 0) := (B1x3.out.cell 26).trans (F1.out 2 _ rfl)
            have c1d3 : World.cell? u3 ⟨w.heap.size, 27, none⟩ = some (.slice h1.rA lr h1.rc) := (B1x3.out.cell 27).trans (F1.out 3 _ rfl)
            have c1e3 : World.cell? u3 ⟨w.heap.size, 28, none⟩ = some (.bool D.s) := (B1x3.out.cell 28).trans (F1.out 4 _ rfl)
            have c1f3 : World.cell? u3 ⟨w.heap.size, 29, none⟩ = some (.bool D.h) := (B1x3.out.cell 29).trans (F1.out 5 _ rfl)
            have c1g3 : World.cell? u3 ⟨w.heap.size, 30, none⟩ = some (.slice h1.oA lo h1.oc) := (B1x3.out.cell 30).trans (F1.out 6 _ rfl)
            have c1h3 : World.cell? u3 ⟨w.heap.size, 31, none⟩ = some (.int .i64 D.col) := (B1x3.out.cell 31).trans (F1.out 7 _ rfl)
            have c1i3 : World.cell? u3 ⟨w.heap.size, 32, none⟩ = some (.int .i64 D.fr) := (B1x3.out.cell 32).trans (F1.out 8 _ rfl)
            have c1j3 : World.cell? u3 ⟨w.heap.size, 33, none⟩ = some (.int .i64 D.idle) := (B1x3.out.cell 33).trans (F1.out 9 _ rfl)
            have c2a3 : World.cell? u3 ⟨w.heap.size + 1, 24, none⟩ = some (.slice h2.lA ll h2.lc) := (B2x3.out.cell 24).trans (F2.out 0 _ rfl)
            have c2b3 : World.cell? u3 ⟨w.heap.size + 1, 25, none⟩ = some (.bool D.nx) := (B2x3.out.cell 25).trans (F2.out 1 _ rfl)
            have c2c3 : World.cell? u3 ⟨w.heap.size + 1, 26, none⟩ = some (.slice none 0 0) := (B2x3.out.cell 26).trans (F2.out 2 _ rfl)
            have c2d3 : World.cell? u3 ⟨w.heap.size + 1, 27, none⟩ = some (.slice h2.rA lr h2.rc) := (B2x3.out.cell 27).trans (F2.out 3 _ rfl)
            have c2e3 : World.cell? u3 ⟨w.heap.size + 1, 28, none⟩ = some (.bool D.s) := (B2x3.out.cell 28).trans (F2.out 4 _ rfl)
            have c2f3 : World.cell? u3 ⟨w.heap.size + 1, 29, none⟩ = some (.bool D.h) := (B2x3.out.cell 29).trans (F2.out 5 _ rfl)
            have c2g3 : World.cell? u3 ⟨w.heap.size + 1, 30, none⟩ = some (.slice h2.oA lo h2.oc) := (B2x3.out.cell 30).trans (F2.out 6 _ rfl)
            have c2h3 : World.cell? u3 ⟨w.heap.size + 1, 31, none⟩ = some (.int .i64 D.col) := (B2x3.out.cell 31).trans (F2.out 7 _ rfl)
            have c2i3 : World.cell? u3 ⟨w.heap.size + 1, 32, none⟩ = some (.int .i64 D.fr) := (B2x3.out.cell 32).trans (F2.out 8 _ rfl)
            have c2j3 : World.cell? u3 ⟨w.heap.size + 1, 33, none⟩ = some (.int .i64 D.idle) := (B2x3.out.cell 33).trans (F2.out 9 _ rfl))
         | ((with_reducible refine (bytes_two u3 h1.oA h2.oA h1.oc h2.oc lo lo D.out D.out hlo.out hlo.out rfl (hid G3.out.out) (hid H3.out.out) m3).mono ?_)
            rintro e u4 ⟨rfl, k4⟩
            have B1x4 := hid (box_below B1x3.out k4.out)
            have B2x4 := hid (box_below B2x3.out k4.out)
            have K4 := bel_t K3 k4.out
            have G4 := hid (G3.out.grow k4.out)
            have H4 := hid (H3.out.grow k4.out)
            clear c1a3 c1b3 c1c3 c1d3 c1e3 c1f3 c1g3 c1h3 c1i3 c1j3 c2a3 c2b3 c2c3 c2d3 c2e3 c2f3 c2g3 c2h3 c2i3 c2j3
            have c1a4 : World.cell? u4 ⟨w.heap.size, 24, none⟩ = some (.slice h1.lA ll h1.lc) := (B1x4.out.cell 24).trans (F1.out 0 _ rfl)
            have c1b4 : World.cell? u4 ⟨w.heap.size, 25, none⟩ = some (.bool D.nx) := (B1x4.out.cell 25).trans (F1.out 1 _ rfl)
            have c1c4 : World.cell? u4 ⟨w.heap.size, 26, none⟩ = some (.slice none 0 0) := (B1x4.out.cell 26).trans (F1.out 2 _ rfl)
            have c1d4 : World.cell? u4 ⟨w.heap.size, 27, none⟩ = some (.slice h1.rA lr h1.rc) := (B1x4.out.cell 27).trans (F1.out 3 _ rfl)
            have c1e4 : World.cell? u4 ⟨w.heap.size, 28, none⟩ = some (.bool D.s) := (B1x4.out.cell 28).trans (F1.out 4 _ rfl)
            have c1f4 : World.cell? u4 ⟨w.heap.size, 29, none⟩ = some (.bool D.h) := (B1x4.out.cell 29).trans (F1.out 5 _ rfl)
            have c1g4 : World.cell? u4 ⟨w.heap.size, 30, none⟩ = some (.slice h1.oA lo h1.oc) := (B1x4.out.cell 30).trans (F1.out 6 _ rfl)
            have c1h4 : World.cell? u4 ⟨w.heap.size, 31, none⟩ = some (.int .i64 D.col) := (B1x4.out.cell 31).trans (F1.out 7 _ rfl)
            have c1i4 : World.cell? u4 ⟨w.heap.size, 32, none⟩ = some (.int .i64 D.fr) := (B1x4.out.cell 32).trans (F1.out 8 _ rfl)
            have c1j4 : World.cell? u4 ⟨w.heap.size, 33, none⟩ = some (.int .i64 D.idle) := (B1x4.out.cell 33).trans (F1.out 9 _ rfl)
            have c2a4 : World.cell? u4 ⟨w.heap.size + 1, 24, none⟩ = some (.slice h2.lA ll h2.lc) := (B2x4.out.cell 24).trans (F2.out 0 _ rfl)
            have c2b4 : World.cell? u4 ⟨w.heap.size + 1, 25, none⟩ = some (.bool D.nx) := (B2x4.out.cell 25).trans (F2.out 1 _ rfl)
            have c2c4 : World.cell? u4 ⟨w.heap.size + 1, 26, none⟩ = some (.slice none 0 0) := (B2x4.out.cell 26).trans (F2.out 2 _ rfl)
            have c2d4 : World.cell? u4 ⟨w.heap.size + 1, 27, none⟩ = some (.slice h2.rA lr h2.rc) := (B2x4.out.cell 27).trans (F2.out 3 _ rfl)
            have c2e4 : World.cell? u4 ⟨w.heap.size + 1, 28, none⟩ = some (.bool D.s) := (B2x4.out.cell 28).trans (F2.out 4 _ rfl)
            have c2f4 : World.cell? u4 ⟨w.heap.size + 1, 29, none⟩ = some (.bool D.h) := (B2x4.out.cell 29).trans (F2.out 5 _ rfl)
            have c2g4 : World.cell? u4 ⟨w.heap.size + 1, 30, none⟩ = some (.slice h2.oA lo h2.oc) := (B2x4.out.cell 30).trans (F2.out 6 _ rfl)
            have c2h4 : World.cell? u4 ⟨w.heap.size + 1, 31, none⟩ = some (.int .i64 D.col) := (B2x4.out.cell 31).trans (F2.out 7 _ rfl)
            have c2i4 : World.cell? u4 ⟨w.heap.size + 1, 32, none⟩ = some (.int .i64 D.fr) := (B2x4.out.cell 32).trans (F2.out 8 _ rfl)
            have c2j4 : World.cell? u4 ⟨w.heap.size + 1, 33, none⟩ = some (.int .i64 D.idle) := (B2x4.out.cell 33).trans (F2.out 9 _ rfl))))
    | (go_at_call 74
       (with_reducible refine (same13_nil u1).mono ?_)
       rintro e u2 ⟨rfl, k2⟩
       have B1x2 := hid (box_below B1x1.out k2.out)
       have B2x2 := hid (box_below B2x1.out k2.out)
       have K2 := bel_t K1 k2.out
       have G2 := hid (G1.out.grow k2.out)
       have H2 := hid (H1.out.grow k2.out)
       clear c1a1 c1b1 c1c1 c1d1 c1e1 c1f1 c1g1 c1h1 c1i1 c1j1 c2a1 c2b1 c2c1 c2d1 c2e1 c2f1 c2g1 c2h1 c2i1 c2j1
       have c1a2 : World.cell? u2 ⟨w.heap.size, 24, none⟩ = some (.slice h1.lA ll h1.lc) := (B1x2.out.cell 24).trans (F1.out 0 _ rfl)
       have c1b2 : World.cell? u2 ⟨w.heap.size, 25, none⟩ = some (.bool D.nx) := (B1x2.out.cell 25).trans (F1.out 1 _ rfl)
       have c1c2 : World.cell? u2 ⟨w.heap.size, 26, none⟩ = some (.slice none 0 0) := (B1x2.out.cell 26).trans (F1.out 2 _ rfl)
       have c1d2 : World.cell? u2 ⟨w.heap.size, 27, none⟩ = some (.slice h1.rA lr h1.rc) := (B1x2.out.cell 27).trans (F1.out 3 _ rfl)
       have c1e2 : World.cell? u2 ⟨w.heap.size, 28, none⟩ = some (.bool D.s) := (B1x2.out.cell 28).trans (F1.out 4 _ rfl)
       have c1f2 : World.cell? u2 ⟨w.heap.size, 29, none⟩ = some (.bool D.h) := (B1x2.out.cell 29).trans (F1.out 5 _ rfl)
       have c1g2 : World.cell? u2 ⟨w.heap.size, 30, none⟩ = some (.slice h1.oA lo h1.oc) := (B1x2.out.cell 30).trans (F1.out 6 _ rfl)
       have c1h2 : World.cell? u2 ⟨w.heap.size, 31, none⟩ = some (.int .i64 D.col) := (B1x2.out.cell 31).trans (F1.out 7 _ rfl)
       have c1i2 : World.cell? u2 ⟨w.heap.size, 32, none⟩ = some (.int .i64 D.fr) := (B1x2.out.cell 32).trans (F1.out 8 _ rfl)
       have c1j2 : World.cell? u2 ⟨w.heap.size, 33, none⟩ = some (.int .i64 D.idle) := (B1x2.out.cell 33).trans (F1.out 9 _ rfl)
       have c2a2 : World.cell? u2 ⟨w.heap.size + 1, 24, none⟩ = some (.slice h2.lA ll h2.lc) := (B2x2.out.cell 24).trans (F2.out 0 _ rfl)
       have c2b2 : World.cell? u2 ⟨w.heap.size + 1, 25, none⟩ = some (.bool D.nx) := (B2x2.out.cell 25).trans (F2.out 1 _ rfl)
       have c2c2 : World.cell? u2 ⟨w.heap.size + 1, 26, none⟩ = some (.slice none 0 0) := (B2x2.out.cell 26).trans (F2.out 2 _ rfl)
       have c2d2 : World.cell? u2 ⟨w.heap.size + 1, 27, none⟩ = some (.slice h2.rA lr h2.rc) := (B2x2.out.cell 27).trans (F2.out 3 _ rfl)
       have c2e2 : World.cell? u2 ⟨w.heap.size + 1, 28, none⟩ = some (.bool D.s) := (B2x2.out.cell 28).trans (F2.out 4 _ rfl)
       have c2f2 : World.cell? u2 ⟨w.heap.size + 1, 29, none⟩ = some (.bool D.h) := (B2x2.out.cell 29).trans (F2.out 5 _ rfl)
       have c2g2 : World.cell? u2 ⟨w.heap.size + 1, 30, none⟩ = some (.slice h2.oA lo h2.oc) := (B2x2.out.cell 30).trans (F2.out 6 _ rfl)
       have c2h2 : World.cell? u2 ⟨w.heap.size + 1, 31, none⟩ = some (.int .i64 D.col) := (B2x2.out.cell 31).trans (F2.out 7 _ rfl)
       have c2i2 : World.cell? u2 ⟨w.heap.size + 1, 32, none⟩ = some (.int .i64 D.fr) := (B2x2.out.cell 32).trans (F2.out 8 _ rfl)
       have c2j2 : World.cell? u2 ⟨w.heap.size + 1, 33, none⟩ = some (.int .i64 D.idle) := (B2x2.out.cell 33).trans (F2.out 9 _ rfl)))
  go_ret
  exact ⟨rfl, K4⟩
end Go.Proofs.YtggcampdkgfmgaaGreat
namespace Go.Proofs.YtggcampdkgfmgaaGreat
open Go.RowKit
/-- Cells of a discipline of the document's, built. -/
def bldR (v1 v2 v3 v4 v5 v6 v7 v8 : Value) : List Value := [v1, v2, .slice none 0 0, v3] ++ (aggV v4).toList ++ [v5, v6, v7, v8]
def bldD (v0 v1 v2 v3 v4 v5 v6 v7 v8 : Value) : Array Value := ((aggV v0).toList ++ bldR v1 v2 v3 v4 v5 v6 v7 v8).toArray
def OkD (v0 v1 v2 v3 v4 v5 v6 v7 v8 : Value) : Prop := ∃ (cs : List Value) (A1 A3 A5 : Option Addr) (n1 c1 n3 c3 n5 c5 : Nat) (b2 b4 b4' : Bool) (i6 i7 i8 : Int), cs.length = 24 ∧ v0 = .agg cs.toArray ∧ v1 = .slice A1 n1 c1 ∧ v2 = .bool b2 ∧ v3 = .slice A3 n3 c3 ∧ v4 = .agg #[.bool b4, .bool b4'] ∧ v5 = .slice A5 n5 c5 ∧ v6 = .int .i64 i6 ∧ v7 = .int .i64 i7 ∧ v8 = .int .i64 i8
theorem built79 {cs : List Value} (h : cs.length = 24) (A1 A3 A5 : Option Addr) (n1 c1 n3 c3 n5 c5 : Nat) (b2 b4 b4' : Bool) (i6 i7 i8 : Int) :
    Tryz.prog.built 79 [(0, .agg cs.toArray), (1, .slice A1 n1 c1), (2, .bool b2), (4, .slice A3 n3 c3), (5, .agg #[.bool b4, .bool b4']), (6, .slice A5 n5 c5), (7, .int .i64 i6), (8, .int .i64 i7), (9, .int .i64 i8)]
      = some (cs ++ ([.slice A1 n1 c1, .bool b2, .slice none 0 0, .slice A3 n3 c3, .bool b4, .bool b4', .slice A5 n5 c5, .int .i64 i6, .int .i64 i7, .int .i64 i8] : List Value)).toArray := by
  obtain ⟨a, b, c, d, e, f, g, i, j, k, m, n2, o, p, q, r, s, t, u, v, w, x, y, z, rfl⟩ := L12.list24 h
  kernel_rfl
theorem ex_bD {ev : Operand → Value} {w : World} {dst : Option Tmp} {x0 x1 x2 x3 x4 x5 x6 x7 x8 : Operand} {ty : TypeId} {pos : String} {after : Array Edge} {gd : Option (Nat × Bool)} (h : OkD (ev x0) (ev x1) (ev x2) (ev x3) (ev x4) (ev x5) (ev x6) (ev x7) (ev x8)) :
    (execOp ev { dst, op := .build 79 #[(0, x0), (1, x1), (2, x2), (4, x3), (5, x4), (6, x5), (7, x6), (8, x7), (9, x8)], type := ty, pos, after, guard := gd }).run Tryz.prog w = .ok (.value (.agg (bldD (ev x0) (ev x1) (ev x2) (ev x3) (ev x4) (ev x5) (ev x6) (ev x7) (ev x8)))) w := by
  obtain ⟨cs, A1, A3, A5, n1, c1, n3, c3, n5, c5, b2, b4, b4', i6, i7, i8, hcs, e0, e1, e2, e3, e4, e5, e6, e7, e8⟩ := h
  have h4 := run_build (P := Tryz.prog) w 79 #[(0, .agg cs.toArray), (1, .slice A1 n1 c1), (2, .bool b2), (4, .slice A3 n3 c3), (5, .agg #[.bool b4, .bool b4']), (6, .slice A5 n5 c5), (7, .int .i64 i6), (8, .int .i64 i7), (9, .int .i64 i8)] _ (built79 hcs A1 A3 A5 n1 c1 n3 c3 n5 c5 b2 b4 b4' i6 i7 i8)
  unfold execOp bldD bldR
  simp only [List.map_toArray, List.map_cons, List.map_nil, Sem.run_bind, e0, e1, e2, e3, e4, e5, e6, e7, e8]
  rw [h4]
  rfl
theorem wp_bD {dst : Option Tmp} {x0 x1 x2 x3 x4 x5 x6 x7 x8 : Operand} {ty : TypeId} {pos : String} {after : Array Edge} {gd : Option (Nat × Bool)} {a : Act} {w : World} {K : Act → World → Prop} {Q : Exit → Act → World → Prop} (h : OkD (a.eval x0) (a.eval x1) (a.eval x2) (a.eval x3) (a.eval x4) (a.eval x5) (a.eval x6) (a.eval x7) (a.eval x8)) :
    Oper.wp Tryz.prog { dst, op := .build 79 #[(0, x0), (1, x1), (2, x2), (4, x3), (5, x4), (6, x5), (7, x6), (8, x7), (9, x8)], type := ty, pos, after, guard := gd } a w K Q = K (a.put dst (.agg (bldD (a.eval x0) (a.eval x1) (a.eval x2) (a.eval x3) (a.eval x4) (a.eval x5) (a.eval x6) (a.eval x7) (a.eval x8)))) w := by
  unfold Oper.wp
  rw [ex_bD h]
  rfl
/-- A row of that struct, with room for a whole one. -/
def isD (w : World) (g : Nat) : Bool := match w.heap[g]? with
  | some (.cells cs t fr) => decide (t = 79) && decide (fr = (0, 0)) && decide (cs.size = 34)
  | _ => false
theorem isD_box {w : World} {g : Nat} (h : isD w g = true) : ∃ cs, Box w g 79 cs ∧ cs.size = 34 := by
  unfold isD at h
  unfold Box
  split at h
  · rename_i cs t fr he
    simp only [Bool.and_eq_true, decide_eq_true_eq] at h
    obtain ⟨⟨rfl, rfl⟩, h3⟩ := h
    exact ⟨cs, he, h3⟩
  · cases h
theorem isD_mk {w : World} {g : Nat} {cs : Array Value} (h : Box w g 79 cs) (hs : cs.size = 34) : isD w g = true := by
  unfold Box at h
  unfold isD
  rw [h]
  simp [hs]
def OkV (v : Value) : Prop := ∃ cs : Array Value, v = .agg cs ∧ cs.size = 34 ∧ cs.all (·.oneCell') = true
theorem okV_eq {v : Value} (h : OkV v) : v = .agg (aggV v) ∧ (aggV v).size = 34 ∧ (aggV v).all (·.oneCell') = true := by
  obtain ⟨cs, rfl, h1, h2⟩ := h
  exact ⟨rfl, h1, h2⟩
theorem wp_stD {dst : Option Tmp} {x y : Operand} {ty : TypeId} {pos : String} {after : Array Edge} {gd : Option (Nat × Bool)} {a : Act} {w : World} {K : Act → World → Prop} {Q : Exit → Act → World → Prop} (h1 : isP (a.eval x) = true) (h2 : isD w (blkV (a.eval x)) = true) (h3 : OkV (a.eval y)) :
    Oper.wp Tryz.prog { dst, op := .store 79 x y, type := ty, pos, after, guard := gd } a w K Q = K (a.put dst undef) (w.setRow (blkV (a.eval x)) (aggV (a.eval y))) := by
  obtain ⟨old, hb, hs⟩ := isD_box h2
  have hx := isP_eq h1
  obtain ⟨hy, h5, h6⟩ := okV_eq h3
  generalize blkV (a.eval x) = g at *
  generalize aggV (a.eval y) = cs at *
  unfold Oper.wp execOp
  simp only [hx, hy, Instr.storeAt, Instr.sureAddr, Sem.run_bind, Sem.run_pure, Result.andThen_ok, run_storeVar_row (P := Tryz.prog) w g 79 79 _ cs hb (by rw [h5]; exact size79) (by rw [hs, h5]) h6]
  rfl
/-- What is built of a discipline's fields. -/
theorem bld_ok {t : Tm} (ht : t.c.length = 19) (D : Ds) (h : Ph) (e : D.t = t) {ll lr lo : Nat} (hl : D.line.length = ll) (hr : D.raw.length = lr) (ho : D.out.length = lo) :
    OkD (.agg t.cs) (.slice h.lA ll h.lc) (.bool D.nx) (.slice h.rA lr h.rc) (.agg #[.bool D.s, .bool D.h]) (.slice h.oA lo h.oc) (.int .i64 D.col) (.int .i64 D.fr) (.int .i64 D.idle)
    ∧ bldD (.agg t.cs) (.slice h.lA ll h.lc) (.bool D.nx) (.slice h.rA lr h.rc) (.agg #[.bool D.s, .bool D.h]) (.slice h.oA lo h.oc) (.int .i64 D.col) (.int .i64 D.fr) (.int .i64 D.idle) = tmV t (fRest D h) := by
  subst e; subst hl; subst hr; subst ho
  refine ⟨⟨D.t.cl, _, _, _, _, _, _, _, _, _, _, _, _, _, _, _, cl_len ht, rfl, rfl, rfl, rfl, rfl, rfl, rfl, rfl, rfl⟩, ?_⟩
  simp [bldD, bldR, tmV, fRest, aggV, Tm.cs]
theorem okV_f {D : Ds} (ht : D.t.Ok) (h : Ph) : OkV (.agg (tmV D.t (fRest D h))) := by
  refine ⟨_, rfl, tmV_size ht _, ?_⟩
  rw [Array.all_eq_true_iff_forall_mem]
  intro v hv
  simp only [tmV, List.mem_toArray, List.mem_append, fRest, Tm.cl, bv, List.mem_map, List.mem_cons, List.not_mem_nil, or_false] at hv
  rcases hv with (⟨b, _, rfl⟩ | rfl | rfl | rfl | rfl | rfl) | rfl | rfl | rfl | rfl | rfl | rfl | rfl | rfl | rfl | rfl <;> rfl
end Go.Proofs.YtggcampdkgfmgaaGreat
namespace Go.Proofs.YtggcampdkgfmgaaGreat
open Go.RowKit

/-! The law's From, where no lines wait. -/
theorem bel_rowG {u W : World} (h : Below u.heap.size u W) (cs : Array Value) : Below u.heap.size u (W.setRow u.heap.size cs) := h.trans ((Turn.setRow W u.heap.size cs).below (Nat.le_refl _))
theorem bel_rowG' {w W : World} (h : Below w.heap.size w W) (cs : Array Value) : Below w.heap.size w (W.setRow w.heap.size cs) := h.trans ((Turn.setRow W w.heap.size cs).below (Nat.le_refl _))
attribute [local go_sem ↓] wp_ldR ex_ldR wp_bD ex_bD wp_stD
attribute [local go_sem] isP_v blkV_v aggV_v
set_option maxRecDepth 100000 in
set_option maxHeartbeats 4000000 in
theorem from16_walk (w : World) (p : Nat) (S : Nat → Prop) (D : Ds) (h : Ph) (H : Hid (Wy w p S w S D h)) (ht : Hid D.t.Ok) (hls : Hid (D.ls = [])) : Calls Tryz.prog 35 #[(.pointer (some ⟨p, 0, none⟩))] w fun e w' => e = .returned (.agg (tmV D.t (fRest D h))) ∧ Hid (Below w.heap.size w w') := by
  have hl := ht.out.len
  obtain ⟨ll, hll⟩ : ∃ q, Hid (D.line.length = q) := ⟨_, hid rfl⟩
  obtain ⟨lr, hlr⟩ : ∃ q, Hid (D.raw.length = q) := ⟨_, hid rfl⟩
  obtain ⟨lo, hlo⟩ : ∃ q, Hid (D.out.length = q) := ⟨_, hid rfl⟩
  obtain ⟨q1, q2⟩ := bld_ok hl D h rfl hll.out hlr.out hlo.out
  have q3 := okV_f ht.out h
  have RS : Hid ((tmV D.t (fRest D h)).size = 34) := hid (tmV_size ht.out _)
  have bz : ∀ W, Below w.heap.size w W → isR W (.pointer (some ⟨p, 0, none⟩)) = true ∧ csR W (.pointer (some ⟨p, 0, none⟩)) = D.t.cs ∧ World.cell? W ⟨p, 24, none⟩ = some (.slice h.lA ll h.lc) ∧ World.cell? W ⟨p, 25, none⟩ = some (.bool D.nx) ∧ World.cell? W ⟨p, 27, none⟩ = some (.slice h.rA lr h.rc) ∧ World.cell? W ⟨p, 28, none⟩ = some (.bool D.s) ∧ World.cell? W ⟨p, 29, none⟩ = some (.bool D.h) ∧ World.cell? W ⟨p, 30, none⟩ = some (.slice h.oA lo h.oc) ∧ World.cell? W ⟨p, 31, none⟩ = some (.int .i64 D.col) ∧ World.cell? W ⟨p, 32, none⟩ = some (.int .i64 D.fr) ∧ World.cell? W ⟨p, 33, none⟩ = some (.int .i64 D.idle) ∧ World.cell? W ⟨p, 26, none⟩ = some (.slice h.nA 0 h.nc) := by
    intro W k
    have a0 := Wy.tm H ht.out W k
    have c0 := Wy.cellW H ht.out 0 rfl W k
    have c2 := Wy.cellW H ht.out 2 rfl W k
    have c3 := Wy.cellW H ht.out 3 rfl W k
    have c6 := Wy.cellW H ht.out 6 rfl W k
    rw [hll.out] at c0
    rw [hls.out] at c2
    rw [hlr.out] at c3
    rw [hlo.out] at c6
    exact ⟨a0.1, a0.2, c0, Wy.cellW H ht.out 1 rfl W k, c3, Wy.cellW H ht.out 4 rfl W k, Wy.cellW H ht.out 5 rfl W k, c6, Wy.cellW H ht.out 7 rfl W k, Wy.cellW H ht.out 8 rfl W k, Wy.cellW H ht.out 9 rfl W k, c2⟩
  generalize tmV D.t (fRest D h) = R at q2 q3 RS ⊢
  go_enter Tryz.func35, Tryz.ntmps35
  go_wp2_with fail
  have K0 : Below w.heap.size w (w.alloc (.cells #[.int .u8 0, .int .u8 0, .int .u8 0, .int .u8 0, .int .u8 0, .int .u8 0, .int .u8 0, .int .u8 0, .int .u8 0, .int .u8 0, .int .u8 0, .int .u8 0, .int .u8 0, .int .u8 0, .int .u8 0, .int .u8 0, .int .u8 0, .int .u8 0, .int .u8 0, .int .u64 0, .int .u32 0, .int .u32 0, .int .i64 0, .int .i64 0, .slice none 0 0, .bool false, .slice none 0 0, .slice none 0 0, .bool false, .bool false, .slice none 0 0, .int .i64 0, .int .i64 0, .int .i64 0] 79)) := (Below.refl _ w).alloc (Nat.le_refl _) _
  have BZ : Hid (Box (w.alloc (.cells #[.int .u8 0, .int .u8 0, .int .u8 0, .int .u8 0, .int .u8 0, .int .u8 0, .int .u8 0, .int .u8 0, .int .u8 0, .int .u8 0, .int .u8 0, .int .u8 0, .int .u8 0, .int .u8 0, .int .u8 0, .int .u8 0, .int .u8 0, .int .u8 0, .int .u8 0, .int .u64 0, .int .u32 0, .int .u32 0, .int .i64 0, .int .i64 0, .slice none 0 0, .bool false, .slice none 0 0, .slice none 0 0, .bool false, .bool false, .slice none 0 0, .int .i64 0, .int .i64 0, .int .i64 0] 79)) w.heap.size 79 #[.int .u8 0, .int .u8 0, .int .u8 0, .int .u8 0, .int .u8 0, .int .u8 0, .int .u8 0, .int .u8 0, .int .u8 0, .int .u8 0, .int .u8 0, .int .u8 0, .int .u8 0, .int .u8 0, .int .u8 0, .int .u8 0, .int .u8 0, .int .u8 0, .int .u8 0, .int .u64 0, .int .u32 0, .int .u32 0, .int .i64 0, .int .i64 0, .slice none 0 0, .bool false, .slice none 0 0, .slice none 0 0, .bool false, .bool false, .slice none 0 0, .int .i64 0, .int .i64 0, .int .i64 0]) := hid (box_nw rfl)
  generalize World.alloc w (.cells #[.int .u8 0, .int .u8 0, .int .u8 0, .int .u8 0, .int .u8 0, .int .u8 0, .int .u8 0, .int .u8 0, .int .u8 0, .int .u8 0, .int .u8 0, .int .u8 0, .int .u8 0, .int .u8 0, .int .u8 0, .int .u8 0, .int .u8 0, .int .u8 0, .int .u8 0, .int .u64 0, .int .u32 0, .int .u32 0, .int .i64 0, .int .i64 0, .slice none 0 0, .bool false, .slice none 0 0, .slice none 0 0, .bool false, .bool false, .slice none 0 0, .int .i64 0, .int .i64 0, .int .i64 0] 79) = u at K0 BZ ⊢
  have bzu : ∀ W, Below u.heap.size u W → isR W (.pointer (some ⟨p, 0, none⟩)) = true ∧ csR W (.pointer (some ⟨p, 0, none⟩)) = D.t.cs ∧ World.cell? W ⟨p, 24, none⟩ = some (.slice h.lA ll h.lc) ∧ World.cell? W ⟨p, 25, none⟩ = some (.bool D.nx) ∧ World.cell? W ⟨p, 27, none⟩ = some (.slice h.rA lr h.rc) ∧ World.cell? W ⟨p, 28, none⟩ = some (.bool D.s) ∧ World.cell? W ⟨p, 29, none⟩ = some (.bool D.h) ∧ World.cell? W ⟨p, 30, none⟩ = some (.slice h.oA lo h.oc) ∧ World.cell? W ⟨p, 31, none⟩ = some (.int .i64 D.col) ∧ World.cell? W ⟨p, 32, none⟩ = some (.int .i64 D.fr) ∧ World.cell? W ⟨p, 33, none⟩ = some (.int .i64 D.idle) := fun W k => by
    obtain ⟨a1, a2, a3, a4, a5, a6, a7, a8, a9, a10, a11, _⟩ := bz W (K0.trans (k.mono K0.size))
    exact ⟨a1, a2, a3, a4, a5, a6, a7, a8, a9, a10, a11⟩
  have hD1 : isD (u.drew.alloc (.cells #[.int .u8 0, .int .u8 0, .int .u8 0, .int .u8 0, .int .u8 0, .int .u8 0, .int .u8 0, .int .u8 0, .int .u8 0, .int .u8 0, .int .u8 0, .int .u8 0, .int .u8 0, .int .u8 0, .int .u8 0, .int .u8 0, .int .u8 0, .int .u8 0, .int .u8 0, .int .u64 0, .int .u32 0, .int .u32 0, .int .i64 0, .int .i64 0, .slice none 0 0, .bool false, .slice none 0 0, .slice none 0 0, .bool false, .bool false, .slice none 0 0, .int .i64 0, .int .i64 0, .int .i64 0] 79)) u.heap.size = true := isD_mk (box_nw rfl) rfl
  have hD2 : isD ((u.alloc (.cells #[.int .u8 0, .int .u8 0, .int .u8 0, .int .u8 0, .int .u8 0, .int .u8 0, .int .u8 0, .int .u8 0, .int .u8 0, .int .u8 0, .int .u8 0, .int .u8 0, .int .u8 0, .int .u8 0, .int .u8 0, .int .u8 0, .int .u8 0, .int .u8 0, .int .u8 0, .int .u64 0, .int .u32 0, .int .u32 0, .int .i64 0, .int .i64 0, .slice none 0 0, .bool false, .slice none 0 0, .slice none 0 0, .bool false, .bool false, .slice none 0 0, .int .i64 0, .int .i64 0, .int .i64 0] 79)).drew) u.heap.size = true := isD_mk (box_dr (box_nw rfl)) rfl
  go_cut [3] (fun a wx => ∃ g, a = .pointer (some ⟨g, 0, none⟩) ∧ Hid (Box wx g 79 R) ∧ Hid (Below u.heap.size u wx))
  case first =>
    go_region_held3 (fun W => isR W (.pointer (some ⟨p, 0, none⟩)) = true ∧ csR W (.pointer (some ⟨p, 0, none⟩)) = D.t.cs ∧ World.cell? W ⟨p, 24, none⟩ = some (.slice h.lA ll h.lc) ∧ World.cell? W ⟨p, 25, none⟩ = some (.bool D.nx) ∧ World.cell? W ⟨p, 27, none⟩ = some (.slice h.rA lr h.rc) ∧ World.cell? W ⟨p, 28, none⟩ = some (.bool D.s) ∧ World.cell? W ⟨p, 29, none⟩ = some (.bool D.h) ∧ World.cell? W ⟨p, 30, none⟩ = some (.slice h.oA lo h.oc) ∧ World.cell? W ⟨p, 31, none⟩ = some (.int .i64 D.col) ∧ World.cell? W ⟨p, 32, none⟩ = some (.int .i64 D.fr) ∧ World.cell? W ⟨p, 33, none⟩ = some (.int .i64 D.idle)) (exact bzu _ (by repeat (first | exact Below.refl _ _ | with_reducible apply bel_dr | with_reducible apply bel_al | with_reducible apply bel_rowG))) (fail)
    all_goals
      go_wp2_with fail
      go_meet
      exact ⟨u.heap.size, rfl, hid (setRow_heap _ u.heap.size _ _ 79 _ (box_dr (box_nw rfl))), hid (bel_rowG (bel_dr (bel_al (Below.refl _ _))) R)⟩
  case rest =>
  obtain ⟨g, rfl, X, K⟩ := hcut
  have HS : Hid ((Tryz.prog.info? 79).map (·.size) = some R.size) := hid (by rw [RS.out]; exact size79)
  have K1 : Hid (Below w.heap.size w wc) := hid (K0.trans (K.out.mono K0.size))
  have c26 := (bz wc K1.out).2.2.2.2.2.2.2.2.2.2.2
  have Z1 := hid (box_below BZ.out K.out)
  clear bz bzu q1 q2 hD1 hD2
  go_wp2_with fail
  go_loopw [48] (fun i wr => i = .int .i64 0 ∧ Hid (Box wr g 79 R) ∧ Hid (Box wr w.heap.size 79 #[.int .u8 0, .int .u8 0, .int .u8 0, .int .u8 0, .int .u8 0, .int .u8 0, .int .u8 0, .int .u8 0, .int .u8 0, .int .u8 0, .int .u8 0, .int .u8 0, .int .u8 0, .int .u8 0, .int .u8 0, .int .u8 0, .int .u8 0, .int .u8 0, .int .u8 0, .int .u64 0, .int .u32 0, .int .u32 0, .int .i64 0, .int .i64 0, .slice none 0 0, .bool false, .slice none 0 0, .slice none 0 0, .bool false, .bool false, .slice none 0 0, .int .i64 0, .int .i64 0, .int .i64 0]) ∧ Hid (Below w.heap.size w wr)) (fun _ _ => 0)
  case atStart => exact ⟨rfl, X, Z1, K1⟩
  case round =>
    obtain ⟨rfl, X2, Z2, K2⟩ := hrel
    have hD3 : isD wr w.heap.size = true := isD_mk Z2.out rfl
    go_wp2_with (first
      | (refine ldX (by rfl) 79 Tryz.underlying79 _ (by rfl) g (by rfl) X2 HS ?_))
    refine bodyPost_ret (results_cell_row rfl _ _ w.heap.size 79 R (0, 0) _ rfl (setRow_heap wr w.heap.size _ R 79 _ Z2.out) Tryz.underlying79 rfl HS.out) rfl ?_
    exact ⟨rfl, hid (bel_rowG' K2.out R)⟩
theorem from16_any (w : World) (p : Nat) (S : Nat → Prop) (D : Ds) (hD : Hid (DAt w p S D)) (ht : Hid D.t.Ok) (hls : Hid (D.ls = [])) : Calls Tryz.prog 35 #[(.pointer (some ⟨p, 0, none⟩))] w fun e w' => ∃ h, e = .returned (.agg (tmV D.t (fRest D h))) ∧ Hid (FIn w' D h) ∧ Hid (Below w.heap.size w w') := by
  obtain ⟨h, H⟩ := Wy.of hD
  refine (from16_walk w p S D h H ht hls).mono ?_
  rintro e w' ⟨rfl, k⟩
  exact ⟨h, rfl, hid (FIn.grow ⟨ht.out, (Wy.lineS H).out, (Wy.rawS H).out, (Wy.outS H).out⟩ k.out), k⟩
end Go.Proofs.YtggcampdkgfmgaaGreat
