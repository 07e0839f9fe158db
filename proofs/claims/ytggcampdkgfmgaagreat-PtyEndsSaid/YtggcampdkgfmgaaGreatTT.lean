import Derived.Test.YtggcampdkgfmgaaGreatTS
namespace Go.Proofs.YtggcampdkgfmgaaGreat
open Go.RowKit

/-! Layer 17: the document's Same, of a discipline whose lines wait. -/
theorem same13l (w : World) (A A2 : Option Addr) (n c c2 : Nat) (D : Ds) (h1 : Hid (∃ qs, L13.LnV w w.heap.size A c qs ∧ L13.lnR qs = D.ls)) (h2 : Hid (∃ qs, L13.LnV w w.heap.size A2 c2 qs ∧ L13.lnR qs = D.ls)) (hn : Hid (D.ls.length = n)) :
    Calls Tryz.prog 74 #[.slice A n c, .slice A2 n c2] w fun e w' => e = .returned (.bool true) ∧ Hid (Below w.heap.size w w') := by
  obtain ⟨q1, a1, a2⟩ := h1.out
  obtain ⟨q2, b1, b2⟩ := h2.out
  refine L13.same_eq w A A2 n n c c2 q1 q2 (hid a1) (hid b1) (hid (a2.trans b2.symm)) ?_ ?_
  · rw [← hn.out, ← a2]; simp [L13.lnR]
  · rw [← hn.out, ← b2]; simp [L13.lnR]
attribute [local go_sem ↓] wp_ldR wp_eq26 Go.wp_at_zero Go.wp_at_succ
attribute [local go_sem] isP_v blkV_v aggV_v
set_option maxRecDepth 100000 in
set_option maxHeartbeats 8000000 in
theorem same16l_any (w : World) (D : Ds) (h1 h2 : Ph) (N1 N2 : Option Addr) (C1 C2 : Nat) (X1 : Hid (GIn w D h1 N1 C1)) (X2 : Hid (GIn w D h2 N2 C2)) (hf : Hid (Fit D)) : Calls Tryz.prog 34 #[.agg (tmV D.t (gRest D h1 N1 D.ls.length C1)), .agg (tmV D.t (gRest D h2 N2 D.ls.length C2))] w fun e w' => e = .returned (.bool true) ∧ Hid (Below w.heap.size w w') := by
  have ht := X1.out.f.t
  have hl := ht.len
  obtain ⟨ls, hls⟩ : ∃ q, Hid (D.ls.length = q) := ⟨_, hid rfl⟩
  obtain ⟨ll, hll⟩ : ∃ q, Hid (D.line.length = q) := ⟨_, hid rfl⟩
  obtain ⟨lr, hlr⟩ : ∃ q, Hid (D.raw.length = q) := ⟨_, hid rfl⟩
  obtain ⟨lo, hlo⟩ : ∃ q, Hid (D.out.length = q) := ⟨_, hid rfl⟩
  have m1 : ll ≤ maxLen := by have := hll.out; have := hf.out.line; unfold maxLen; omega
  have m2 : lr ≤ maxLen := by have := hlr.out; have := hf.out.raw; unfold maxLen; omega
  have m3 : lo ≤ maxLen := by have := hlo.out; have := hf.out.out; unfold maxLen; omega
  have s1 : Hid ((Tryz.prog.info? 79).map (·.size) = some (tmV D.t (gRest D h1 N1 D.ls.length C1)).size) := hid (by rw [tmV_size ht]; exact size79)
  have s2 : Hid ((Tryz.prog.info? 79).map (·.size) = some (tmV D.t (gRest D h2 N2 D.ls.length C2)).size) := hid (by rw [tmV_size ht]; exact size79)
  have F1 : Hid (∀ (j : Nat) (v : Value), ([.slice h1.lA ll h1.lc, .bool D.nx, .slice N1 ls C1, .slice h1.rA lr h1.rc, .bool D.s, .bool D.h, .slice h1.oA lo h1.oc, .int .i64 D.col, .int .i64 D.fr, .int .i64 D.idle] : List Value)[j]? = some v → (tmV D.t (gRest D h1 N1 D.ls.length C1))[24 + j]? = some v) := hid (fun j v h => tmV_back ht (by rw [← h, ← hll.out, ← hlr.out, ← hlo.out, ← hls.out]; rfl))
  have F2 : Hid (∀ (j : Nat) (v : Value), ([.slice h2.lA ll h2.lc, .bool D.nx, .slice N2 ls C2, .slice h2.rA lr h2.rc, .bool D.s, .bool D.h, .slice h2.oA lo h2.oc, .int .i64 D.col, .int .i64 D.fr, .int .i64 D.idle] : List Value)[j]? = some v → (tmV D.t (gRest D h2 N2 D.ls.length C2))[24 + j]? = some v) := hid (fun j v h => tmV_back ht (by rw [← h, ← hll.out, ← hlr.out, ← hlo.out, ← hls.out]; rfl))
  have E1 : Hid (∀ (j : Nat) (v : Value), D.t.cl[j]? = some v → (tmV D.t (gRest D h1 N1 D.ls.length C1))[j]? = some v) := hid (tmV_front _)
  have E2 : Hid (∀ (j : Nat) (v : Value), D.t.cl[j]? = some v → (tmV D.t (gRest D h2 N2 D.ls.length C2))[j]? = some v) := hid (tmV_front _)
  generalize tmV D.t (gRest D h1 N1 D.ls.length C1) = V1 at s1 F1 E1 ⊢
  generalize tmV D.t (gRest D h2 N2 D.ls.length C2) = V2 at s2 F2 E2 ⊢
  have B1x0 : Hid (Box ((w.alloc (.cells V1 79)).alloc (.cells V2 79)) w.heap.size 79 V1) := hid (box_al (box_nw rfl))
  have B2x0 : Hid (Box ((w.alloc (.cells V1 79)).alloc (.cells V2 79)) (w.heap.size + 1) 79 V2) := hid (box_nw (by simp))
  have K0 : Hid (Below w.heap.size w ((w.alloc (.cells V1 79)).alloc (.cells V2 79))) := hid (((Below.refl _ w).alloc (Nat.le_refl _) _).alloc (by simp) _)
  have G0 := hid (X1.out.grow K0.out)
  have H0 := hid (X2.out.grow K0.out)
  have c1a0 : World.cell? ((w.alloc (.cells V1 79)).alloc (.cells V2 79)) ⟨w.heap.size, 24, none⟩ = some (.slice h1.lA ll h1.lc) := (B1x0.out.cell 24).trans (F1.out 0 _ rfl)
  have c1b0 : World.cell? ((w.alloc (.cells V1 79)).alloc (.cells V2 79)) ⟨w.heap.size, 25, none⟩ = some (.bool D.nx) := (B1x0.out.cell 25).trans (F1.out 1 _ rfl)
  have c1c0 : World.cell? ((w.alloc (.cells V1 79)).alloc (.cells V2 79)) ⟨w.heap.size, 26, none⟩ = some (.slice N1 ls C1) := (B1x0.out.cell 26).trans (F1.out 2 _ rfl)
  have c1d0 : World.cell? ((w.alloc (.cells V1 79)).alloc (.cells V2 79)) ⟨w.heap.size, 27, none⟩ = some (.slice h1.rA lr h1.rc) := (B1x0.out.cell 27).trans (F1.out 3 _ rfl)
  have c1e0 : World.cell? ((w.alloc (.cells V1 79)).alloc (.cells V2 79)) ⟨w.heap.size, 28, none⟩ = some (.bool D.s) := (B1x0.out.cell 28).trans (F1.out 4 _ rfl)
  have c1f0 : World.cell? ((w.alloc (.cells V1 79)).alloc (.cells V2 79)) ⟨w.heap.size, 29, none⟩ = some (.bool D.h) := (B1x0.out.cell 29).trans (F1.out 5 _ rfl)
  have c1g0 : World.cell? ((w.alloc (.cells V1 79)).alloc (.cells V2 79)) ⟨w.heap.size, 30, none⟩ = some (.slice h1.oA lo h1.oc) := (B1x0.out.cell 30).trans (F1.out 6 _ rfl)
  have c1h0 : World.cell? ((w.alloc (.cells V1 79)).alloc (.cells V2 79)) ⟨w.heap.size, 31, none⟩ = some (.int .i64 D.col) := (B1x0.out.cell 31).trans (F1.out 7 _ rfl)
  have c1i0 : World.cell? ((w.alloc (.cells V1 79)).alloc (.cells V2 79)) ⟨w.heap.size, 32, none⟩ = some (.int .i64 D.fr) := (B1x0.out.cell 32).trans (F1.out 8 _ rfl)
  have c1j0 : World.cell? ((w.alloc (.cells V1 79)).alloc (.cells V2 79)) ⟨w.heap.size, 33, none⟩ = some (.int .i64 D.idle) := (B1x0.out.cell 33).trans (F1.out 9 _ rfl)
  have c2a0 : World.cell? ((w.alloc (.cells V1 79)).alloc (.cells V2 79)) ⟨w.heap.size + 1, 24, none⟩ = some (.slice h2.lA ll h2.lc) := (B2x0.out.cell 24).trans (F2.out 0 _ rfl)
  have c2b0 : World.cell? ((w.alloc (.cells V1 79)).alloc (.cells V2 79)) ⟨w.heap.size + 1, 25, none⟩ = some (.bool D.nx) := (B2x0.out.cell 25).trans (F2.out 1 _ rfl)
  have c2c0 : World.cell? ((w.alloc (.cells V1 79)).alloc (.cells V2 79)) ⟨w.heap.size + 1, 26, none⟩ = some (.slice N2 ls C2) := (B2x0.out.cell 26).trans (F2.out 2 _ rfl)
  have c2d0 : World.cell? ((w.alloc (.cells V1 79)).alloc (.cells V2 79)) ⟨w.heap.size + 1, 27, none⟩ = some (.slice h2.rA lr h2.rc) := (B2x0.out.cell 27).trans (F2.out 3 _ rfl)
  have c2e0 : World.cell? ((w.alloc (.cells V1 79)).alloc (.cells V2 79)) ⟨w.heap.size + 1, 28, none⟩ = some (.bool D.s) := (B2x0.out.cell 28).trans (F2.out 4 _ rfl)
  have c2f0 : World.cell? ((w.alloc (.cells V1 79)).alloc (.cells V2 79)) ⟨w.heap.size + 1, 29, none⟩ = some (.bool D.h) := (B2x0.out.cell 29).trans (F2.out 5 _ rfl)
  have c2g0 : World.cell? ((w.alloc (.cells V1 79)).alloc (.cells V2 79)) ⟨w.heap.size + 1, 30, none⟩ = some (.slice h2.oA lo h2.oc) := (B2x0.out.cell 30).trans (F2.out 6 _ rfl)
  have c2h0 : World.cell? ((w.alloc (.cells V1 79)).alloc (.cells V2 79)) ⟨w.heap.size + 1, 31, none⟩ = some (.int .i64 D.col) := (B2x0.out.cell 31).trans (F2.out 7 _ rfl)
  have c2i0 : World.cell? ((w.alloc (.cells V1 79)).alloc (.cells V2 79)) ⟨w.heap.size + 1, 32, none⟩ = some (.int .i64 D.fr) := (B2x0.out.cell 32).trans (F2.out 8 _ rfl)
  have c2j0 : World.cell? ((w.alloc (.cells V1 79)).alloc (.cells V2 79)) ⟨w.heap.size + 1, 33, none⟩ = some (.int .i64 D.idle) := (B2x0.out.cell 33).trans (F2.out 9 _ rfl)
  obtain ⟨q1, q2⟩ := front_R hl B1x0.out E1.out
  obtain ⟨q3, q4⟩ := front_R hl B2x0.out E2.out
  have qT := isT_cs hl
  have qE := eqV_of hl hl (eqT_id D.t)
  go_enter Tryz.func34, Tryz.ntmps34
  go_wp2_with (first
    | (refine bxT (by rfl) 79 _ (by rfl) V1 (by rfl) s1.out ?_)
    | (refine bxT (by rfl) 79 _ (by rfl) V2 (by rfl) s2.out ?_)
    | (go_at_call 22
       (first
         | ((with_reducible refine (bytes_two ((w.alloc (.cells V1 79)).alloc (.cells V2 79)) h1.lA h2.lA h1.lc h2.lc ll ll D.line D.line hll.out hll.out rfl (hid G0.out.f.line) (hid H0.out.f.line) m1).mono ?_)
            rintro e u1 ⟨rfl, k1⟩
            have B1x1 := hid (box_below B1x0.out k1.out)
            have B2x1 := hid (box_below B2x0.out k1.out)
            have K1 := bel_t K0 k1.out
            have G1 := hid (G0.out.grow k1.out)
            have H1 := hid (H0.out.grow k1.out)
            clear c1a0 c1b0 c1c0 c1d0 c1e0 c1f0 c1g0 c1h0 c1i0 c1j0 c2a0 c2b0 c2c0 c2d0 c2e0 c2f0 c2g0 c2h0 c2i0 c2j0
            have c1a1 : World.cell? u1 ⟨w.heap.size, 24, none⟩ = some (.slice h1.lA ll h1.lc) := (B1x1.out.cell 24).trans (F1.out 0 _ rfl)
            have c1b1 : World.cell? u1 ⟨w.heap.size, 25, none⟩ = some (.bool D.nx) := (B1x1.out.cell 25).trans (F1.out 1 _ rfl)
            have c1c1 : World.cell? u1 ⟨w.heap.size, 26, none⟩ = some (.slice N1 ls C1) := (B1x1.out.cell 26).trans (F1.out 2 _ rfl)
            have c1d1 : World.cell? u1 ⟨w.heap.size, 27, none⟩ = some (.slice h1.rA lr h1.rc) := (B1x1.out.cell 27).trans (F1.out 3 _ rfl)
            have c1e1 : World.cell? u1 ⟨w.heap.size, 28, none⟩ = some (.bool D.s) := (B1x1.out.cell 28).trans (F1.out 4 _ rfl)
            have c1f1 : World.cell? u1 ⟨w.heap.size, 29, none⟩ = some (.bool D.h) := (B1x1.out.cell 29).trans (F1.out 5 _ rfl)
            have c1g1 : World.cell? u1 ⟨w.heap.size, 30, none⟩ = some (.slice h1.oA lo h1.oc) := (B1x1.out.cell 30).trans (F1.out 6 _ rfl)
            have c1h1 : World.cell? u1 ⟨w.heap.size, 31, none⟩ = some (.int .i64 D.col) := (B1x1.out.cell 31).trans (F1.out 7 _ rfl)
            have c1i1 : World.cell? u1 ⟨w.heap.size, 32, none⟩ = some (.int .i64 D.fr) := (B1x1.out.cell 32).trans (F1.out 8 _ rfl)
            have c1j1 : World.cell? u1 ⟨w.heap.size, 33, none⟩ = some (.int .i64 D.idle) := (B1x1.out.cell 33).trans (F1.out 9 _ rfl)
            have c2a1 : World.cell? u1 ⟨w.heap.size + 1, 24, none⟩ = some (.slice h2.lA ll h2.lc) := (B2x1.out.cell 24).trans (F2.out 0 _ rfl)
            have c2b1 : World.cell? u1 ⟨w.heap.size + 1, 25, none⟩ = some (.bool D.nx) := (B2x1.out.cell 25).trans (F2.out 1 _ rfl)
            have c2c1 : World.cell? u1 ⟨w.heap.size + 1, 26, none⟩ = some (.slice N2 ls C2) := (B2x1.out.cell 26).trans (F2.out 2 _ rfl)
            have c2d1 : World.cell? u1 ⟨w.heap.size + 1, 27, none⟩ = some (.slice h2.rA lr h2.rc) := (B2x1.out.cell 27).trans (F2.out 3 _ rfl)
            have c2e1 : World.cell? u1 ⟨w.heap.size + 1, 28, none⟩ = some (.bool D.s) := (B2x1.out.cell 28).trans (F2.out 4 _ rfl)
            have c2f1 : World.cell? u1 ⟨w.heap.size + 1, 29, none⟩ = some (.bool D.h) := (B2x1.out.cell 29).trans (F2.out 5 _ rfl)
            have c2g1 : World.cell? u1 ⟨w.heap.size + 1, 30, none⟩ = some (.slice h2.oA lo h2.oc) := (B2x1.out.cell 30).trans (F2.out 6 _ rfl)
            have c2h1 : World.cell? u1 ⟨w.heap.size + 1, 31, none⟩ = some (.int .i64 D.col) := (B2x1.out.cell 31).trans (F2.out 7 _ rfl)
            have c2i1 : World.cell? u1 ⟨w.heap.size + 1, 32, none⟩ = some (.int .i64 D.fr) := (B2x1.out.cell 32).trans (F2.out 8 _ rfl)
            have c2j1 : World.cell? u1 ⟨w.heap.size + 1, 33, none⟩ = some (.int .i64 D.idle) := (B2x1.out.cell 33).trans (F2.out 9 _ rfl))
         | ((with_reducible refine (bytes_two u2 h1.rA h2.rA h1.rc h2.rc lr lr D.raw D.raw hlr.out hlr.out rfl (hid G2.out.f.raw) (hid H2.out.f.raw) m2).mono ?_)
            rintro e u3 ⟨rfl, k3⟩
            have B1x3 := hid (box_below B1x2.out k3.out)
            have B2x3 := hid (box_below B2x2.out k3.out)
            have K3 := bel_t K2 k3.out
            have G3 := hid (G2.out.grow k3.out)
            have H3 := hid (H2.out.grow k3.out)
            clear c1a2 c1b2 c1c2 c1d2 c1e2 c1f2 c1g2 c1h2 c1i2 c1j2 c2a2 c2b2 c2c2 c2d2 c2e2 c2f2 c2g2 c2h2 c2i2 c2j2
            have c1a3 : World.cell? u3 ⟨w.heap.size, 24, none⟩ = some (.slice h1.lA ll h1.lc) := (B1x3.out.cell 24).trans (F1.out 0 _ rfl)
            have c1b3 : World.cell? u3 ⟨w.heap.size, 25, none⟩ = some (.bool D.nx) := (B1x3.out.cell 25).trans (F1.out 1 _ rfl)
            have c1c3 : World.cell? u3 ⟨w.heap.size, 26, none⟩ = some (.slice N1 ls C1) := (B1x3.out.cell 26).trans (F1.out 2 _ rfl)
            have c1d3 : World.cell? u3 ⟨w.heap.size, 27, none⟩ = some (.slice h1.rA lr h1.rc) := (B1x3.out.cell 27).trans (F1.out 3 _ rfl)
            have c1e3 : World.cell? u3 ⟨w.heap.size, 28, none⟩ = some (.bool D.s) := (B1x3.out.cell 28).trans (F1.out 4 _ rfl)
            have c1f3 : World.cell? u3 ⟨w.heap.size, 29, none⟩ = some (.bool D.h) := (B1x3.out.cell 29).trans (F1.out 5 _ rfl)
            have c1g3 : World.cell? u3 ⟨w.heap.size, 30, none⟩ = some (.slice h1.oA lo h1.oc) := (B1x3.out.cell 30).trans (F1.out 6 _ rfl)
            have c1h3 : World.cell? u3 ⟨w.heap.size, 31, none⟩ = some (.int .i64 D.col) := (B1x3.out.cell 31).trans (F1.out 7 _ rfl)
            have c1i3 : World.cell? u3 ⟨w.heap.size, 32, none⟩ = some (.int .i64 D.fr) := (B1x3.out.cell 32).trans (F1.out 8 _ rfl)
            have c1j3 : World.cell? u3 ⟨w.heap.size, 33, none⟩ = some (.int .i64 D.idle) := (B1x3.out.cell 33).trans (F1.out 9 _ rfl)
            have c2a3 : World.cell? u3 ⟨w.heap.size + 1, 24, none⟩ = some (.slice h2.lA ll h2.lc) := (B2x3.out.cell 24).trans (F2.out 0 _ rfl)
            have c2b3 : World.cell? u3 ⟨w.heap.size + 1, 25, none⟩ = some (.bool D.nx) := (B2x3.out.cell 25).trans (F2.out 1 _ rfl)
            have c2c3 : World.cell? u3 ⟨w.heap.size + 1, 26, none⟩ = some (.slice N2 ls C2) := (B2x3.out.cell 26).trans (F2.out 2 _ rfl)
            have c2d3 : World.cell? u3 ⟨w.heap.size + 1, 27, none⟩ = some (.slice h2.rA lr h2.rc) := (B2x3.out.cell 27).trans (F2.out 3 _ rfl)
            have c2e3 : World.cell? u3 ⟨w.heap.size + 1, 28, none⟩ = some (.bool D.s) := (B2x3.out.cell 28).trans (F2.out 4 _ rfl)
            have c2f3 : World.cell? u3 ⟨w.heap.size + 1, 29, none⟩ = some (.bool D.h) := (B2x3.out.cell 29).trans (F2.out 5 _ rfl)
            have c2g3 : World.cell? u3 ⟨w.heap.size + 1, 30, none⟩ = some (.slice h2.oA lo h2.oc) := (B2x3.out.cell 30).trans (F2.out 6 _ rfl)
            have c2h3 : World.cell? u3 ⟨w.heap.size + 1, 31, none⟩ = some (.int .i64 D.col) := (B2x3.out.cell 31).trans (F2.out 7 _ rfl)
            have c2i3 : World.cell? u3 ⟨w.heap.size + 1, 32, none⟩ = some (.int .i64 D.fr) := (B2x3.out.cell 32).trans (F2.out 8 _ rfl)
            have c2j3 : World.cell? u3 ⟨w.heap.size + 1, 33, none⟩ = some (.int .i64 D.idle) := (B2x3.out.cell 33).trans (F2.out 9 _ rfl))
         | ((with_reducible refine (bytes_two u3 h1.oA h2.oA h1.oc h2.oc lo lo D.out D.out hlo.out hlo.out rfl (hid G3.out.f.out) (hid H3.out.f.out) m3).mono ?_)
            rintro e u4 ⟨rfl, k4⟩
            have B1x4 := hid (box_below B1x3.out k4.out)
            have B2x4 := hid (box_below B2x3.out k4.out)
            have K4 := bel_t K3 k4.out
            have G4 := hid (G3.out.grow k4.out)
            have H4 := hid (H3.out.grow k4.out)
            clear c1a3 c1b3 c1c3 c1d3 c1e3 c1f3 c1g3 c1h3 c1i3 c1j3 c2a3 c2b3 c2c3 c2d3 c2e3 c2f3 c2g3 c2h3 c2i3 c2j3
            have c1a4 : World.cell? u4 ⟨w.heap.size, 24, none⟩ = some (.slice h1.lA ll h1.lc) := (B1x4.out.cell 24).trans (F1.out 0 _ rfl)
            have c1b4 : World.cell? u4 ⟨w.heap.size, 25, none⟩ = some (.bool D.nx) := (B1x4.out.cell 25).trans (F1.out 1 _ rfl)
            have c1c4 : World.cell? u4 ⟨w.heap.size, 26, none⟩ = some (.slice N1 ls C1) := (B1x4.out.cell 26).trans (F1.out 2 _ rfl)
            have c1d4 : World.cell? u4 ⟨w.heap.size, 27, none⟩ = some (.slice h1.rA lr h1.rc) := (B1x4.out.cell 27).trans (F1.out 3 _ rfl)
            have c1e4 : World.cell? u4 ⟨w.heap.size, 28, none⟩ = some (.bool D.s) := (B1x4.out.cell 28).trans (F1.out 4 _ rfl)
            have c1f4 : World.cell? u4 ⟨w.heap.size, 29, none⟩ = some (.bool D.h) := (B1x4.out.cell 29).trans (F1.out 5 _ rfl)
            have c1g4 : World.cell? u4 ⟨w.heap.size, 30, none⟩ = some (.slice h1.oA lo h1.oc) := (B1x4.out.cell 30).trans (F1.out 6 _ rfl)
            have c1h4 : World.cell? u4 ⟨w.heap.size, 31, none⟩ = some (.int .i64 D.col) := (B1x4.out.cell 31).trans (F1.out 7 _ rfl)
            have c1i4 : World.cell? u4 ⟨w.heap.size, 32, none⟩ = some (.int .i64 D.fr) := (B1x4.out.cell 32).trans (F1.out 8 _ rfl)
            have c1j4 : World.cell? u4 ⟨w.heap.size, 33, none⟩ = some (.int .i64 D.idle) := (B1x4.out.cell 33).trans (F1.out 9 _ rfl)
            have c2a4 : World.cell? u4 ⟨w.heap.size + 1, 24, none⟩ = some (.slice h2.lA ll h2.lc) := (B2x4.out.cell 24).trans (F2.out 0 _ rfl)
            have c2b4 : World.cell? u4 ⟨w.heap.size + 1, 25, none⟩ = some (.bool D.nx) := (B2x4.out.cell 25).trans (F2.out 1 _ rfl)
            have c2c4 : World.cell? u4 ⟨w.heap.size + 1, 26, none⟩ = some (.slice N2 ls C2) := (B2x4.out.cell 26).trans (F2.out 2 _ rfl)
            have c2d4 : World.cell? u4 ⟨w.heap.size + 1, 27, none⟩ = some (.slice h2.rA lr h2.rc) := (B2x4.out.cell 27).trans (F2.out 3 _ rfl)
            have c2e4 : World.cell? u4 ⟨w.heap.size + 1, 28, none⟩ = some (.bool D.s) := (B2x4.out.cell 28).trans (F2.out 4 _ rfl)
            have c2f4 : World.cell? u4 ⟨w.heap.size + 1, 29, none⟩ = some (.bool D.h) := (B2x4.out.cell 29).trans (F2.out 5 _ rfl)
            have c2g4 : World.cell? u4 ⟨w.heap.size + 1, 30, none⟩ = some (.slice h2.oA lo h2.oc) := (B2x4.out.cell 30).trans (F2.out 6 _ rfl)
            have c2h4 : World.cell? u4 ⟨w.heap.size + 1, 31, none⟩ = some (.int .i64 D.col) := (B2x4.out.cell 31).trans (F2.out 7 _ rfl)
            have c2i4 : World.cell? u4 ⟨w.heap.size + 1, 32, none⟩ = some (.int .i64 D.fr) := (B2x4.out.cell 32).trans (F2.out 8 _ rfl)
            have c2j4 : World.cell? u4 ⟨w.heap.size + 1, 33, none⟩ = some (.int .i64 D.idle) := (B2x4.out.cell 33).trans (F2.out 9 _ rfl))))
    | (go_at_call 74
       (with_reducible refine (same13l u1 N1 N2 ls C1 C2 D (hid G1.out.ln) (hid H1.out.ln) hls).mono ?_)
       rintro e u2 ⟨rfl, k2⟩
       have B1x2 := hid (box_below B1x1.out k2.out)
       have B2x2 := hid (box_below B2x1.out k2.out)
       have K2 := bel_t K1 k2.out
       have G2 := hid (G1.out.grow k2.out)
       have H2 := hid (H1.out.grow k2.out)
       clear c1a1 c1b1 c1c1 c1d1 c1e1 c1f1 c1g1 c1h1 c1i1 c1j1 c2a1 c2b1 c2c1 c2d1 c2e1 c2f1 c2g1 c2h1 c2i1 c2j1
       have c1a2 : World.cell? u2 ⟨w.heap.size, 24, none⟩ = some (.slice h1.lA ll h1.lc) := (B1x2.out.cell 24).trans (F1.out 0 _ rfl)
       have c1b2 : World.cell? u2 ⟨w.heap.size, 25, none⟩ = some (.bool D.nx) := (B1x2.out.cell 25).trans (F1.out 1 _ rfl)
       have c1c2 : World.cell? u2 ⟨w.heap.size, 26, none⟩ = some (.slice N1 ls C1) := (B1x2.out.cell 26).trans (F1.out 2 _ rfl)
       have c1d2 : World.cell? u2 ⟨w.heap.size, 27, none⟩ = some (.slice h1.rA lr h1.rc) := (B1x2.out.cell 27).trans (F1.out 3 _ rfl)
       have c1e2 : World.cell? u2 ⟨w.heap.size, 28, none⟩ = some (.bool D.s) := (B1x2.out.cell 28).trans (F1.out 4 _ rfl)
       have c1f2 : World.cell? u2 ⟨w.heap.size, 29, none⟩ = some (.bool D.h) := (B1x2.out.cell 29).trans (F1.out 5 _ rfl)
       have c1g2 : World.cell? u2 ⟨w.heap.size, 30, none⟩ = some (.slice h1.oA lo h1.oc) := (B1x2.out.cell 30).trans (F1.out 6 _ rfl)
       have c1h2 : World.cell? u2 ⟨w.heap.size, 31, none⟩ = some (.int .i64 D.col) := (B1x2.out.cell 31).trans (F1.out 7 _ rfl)
       have c1i2 : World.cell? u2 ⟨w.heap.size, 32, none⟩ = some (.int .i64 D.fr) := (B1x2.out.cell 32).trans (F1.out 8 _ rfl)
       have c1j2 : World.cell? u2 ⟨w.heap.size, 33, none⟩ = some (.int .i64 D.idle) := (B1x2.out.cell 33).trans (F1.out 9 _ rfl)
       have c2a2 : World.cell? u2 ⟨w.heap.size + 1, 24, none⟩ = some (.slice h2.lA ll h2.lc) := (B2x2.out.cell 24).trans (F2.out 0 _ rfl)
       have c2b2 : World.cell? u2 ⟨w.heap.size + 1, 25, none⟩ = some (.bool D.nx) := (B2x2.out.cell 25).trans (F2.out 1 _ rfl)
       have c2c2 : World.cell? u2 ⟨w.heap.size + 1, 26, none⟩ = some (.slice N2 ls C2) := (B2x2.out.cell 26).trans (F2.out 2 _ rfl)
       have c2d2 : World.cell? u2 ⟨w.heap.size + 1, 27, none⟩ = some (.slice h2.rA lr h2.rc) := (B2x2.out.cell 27).trans (F2.out 3 _ rfl)
       have c2e2 : World.cell? u2 ⟨w.heap.size + 1, 28, none⟩ = some (.bool D.s) := (B2x2.out.cell 28).trans (F2.out 4 _ rfl)
       have c2f2 : World.cell? u2 ⟨w.heap.size + 1, 29, none⟩ = some (.bool D.h) := (B2x2.out.cell 29).trans (F2.out 5 _ rfl)
       have c2g2 : World.cell? u2 ⟨w.heap.size + 1, 30, none⟩ = some (.slice h2.oA lo h2.oc) := (B2x2.out.cell 30).trans (F2.out 6 _ rfl)
       have c2h2 : World.cell? u2 ⟨w.heap.size + 1, 31, none⟩ = some (.int .i64 D.col) := (B2x2.out.cell 31).trans (F2.out 7 _ rfl)
       have c2i2 : World.cell? u2 ⟨w.heap.size + 1, 32, none⟩ = some (.int .i64 D.fr) := (B2x2.out.cell 32).trans (F2.out 8 _ rfl)
       have c2j2 : World.cell? u2 ⟨w.heap.size + 1, 33, none⟩ = some (.int .i64 D.idle) := (B2x2.out.cell 33).trans (F2.out 9 _ rfl)))
  go_ret
  exact ⟨rfl, K4⟩
end Go.Proofs.YtggcampdkgfmgaaGreat
