import Derived.Test.YtggcampdkgfmgaaGreatQP
import Derived.Test.YtggcampdkgfmgaaGreatQV
namespace Go.Proofs.YtggcampdkgfmgaaGreat
open Go.ChangeShapes Go.WideShapes Go.ChangeAt Go.RowKit Go.Deep

/-! Layer 16: steps that came in. -/
theorem cellsOq : Tryz.prog.cellsOf 65 = 28 := by kernel_rfl
section
variable {H : Type} {enc : TypeId × Value → H} {w : World} {base : Nat} {held : Bool}
set_option maxRecDepth 100000 in
theorem op16_cells {fuel : Nat} {cs : List Value} {x : DataW H × List MemPlace} (h : DataW.trod enc Tryz.prog w base (fun _ => true) held fuel 65 cs = some x) (hlen : cs.length = 28) (hw : ∀ k ∈ x.1.weights Tryz.prog 65, k ≤ reachBytes) :
    ∃ o : Op16, cs = opC o ∧ OpOk w o := by
  obtain ⟨xs, n, _, hx, _, hxl, hff⟩ := DataW.trod_struct Tryz.underlying65 h
  subst hx
  simp only [DataW.weights, Tryz.underlying65] at hw
  have hx : ∀ i, i < 5 → ∃ y, xs[i]? = some y := fun i hi => ⟨xs[i]'(by simpa [hxl] using hi), List.getElem?_eq_getElem _⟩
  obtain ⟨z0, e0⟩ := hx 0 (by omega)
  obtain ⟨z1, e1⟩ := hx 1 (by omega)
  obtain ⟨z2, e2⟩ := hx 2 (by omega)
  obtain ⟨z3, e3⟩ := hx 3 (by omega)
  obtain ⟨z4, e4⟩ := hx 4 (by omega)
  have h0 : DataW.trod enc Tryz.prog w base (fun _ => true) held n 3 ((cs.drop 0).take (Tryz.prog.cellsOf 3)) = xs[0]? := hff 0 _ rfl
  rw [show Tryz.prog.cellsOf 3 = 1 by kernel_rfl, e0] at h0
  have h1 : DataW.trod enc Tryz.prog w base (fun _ => true) held n 3 ((cs.drop 1).take (Tryz.prog.cellsOf 3)) = xs[1]? := hff 1 _ rfl
  rw [show Tryz.prog.cellsOf 3 = 1 by kernel_rfl, e1] at h1
  have h2 : DataW.trod enc Tryz.prog w base (fun _ => true) held n 3 ((cs.drop 2).take (Tryz.prog.cellsOf 3)) = xs[2]? := hff 2 _ rfl
  rw [show Tryz.prog.cellsOf 3 = 1 by kernel_rfl, e2] at h2
  have h3 : DataW.trod enc Tryz.prog w base (fun _ => true) held n 27 ((cs.drop 3).take (Tryz.prog.cellsOf 27)) = xs[3]? := hff 3 _ rfl
  rw [show Tryz.prog.cellsOf 27 = 1 by kernel_rfl, e3] at h3
  have h4 : DataW.trod enc Tryz.prog w base (fun _ => true) held n 26 ((cs.drop 4).take (Tryz.prog.cellsOf 26)) = xs[4]? := hff 4 _ rfl
  rw [show Tryz.prog.cellsOf 26 = 24 by kernel_rfl, e4] at h4
  obtain ⟨x0, o0, i0⟩ := col16 h0
  obtain ⟨x1, o1, i1⟩ := col16 h1
  obtain ⟨x2, o2, i2⟩ := col16 h2
  obtain ⟨A3, c3, b3, o3, s3⟩ := bytes_open h3
  have w3 := bytes_weight (by rw [o3] at h3; exact h3) (w16_mem (t := 27) e3 rfl hw)
  rw [reach16] at w3
  obtain ⟨t, t1, ht⟩ := tm_cells h4
  refine ⟨⟨x0, x1, x2, A3, c3, b3, t⟩, ?_, ht, i1, i2, s3, w3⟩
  match cs, hlen with
  | v0 :: v1 :: v2 :: v3 :: r, hl =>
    have hr : r.length = 24 := by simpa using hl
    simp only [List.drop_succ_cons, List.drop_zero, List.take_succ_cons, List.take_zero, List.cons.injEq, and_true] at o0 o1 o2 o3 t1
    rw [List.take_of_length_le (by omega)] at t1
    subst o0; subst o1; subst o2; subst o3; subst t1
    rfl
theorem opC_flat {ops : List Op16} (hok : ∀ o ∈ ops, o.t.Ok) : (ops.map opC).flatten.length = ops.length * 28 := by
  induction ops with
  | nil => rfl
  | cons x r ih =>
    rw [List.map_cons, List.flatten_cons, List.length_append, opC_len (hok x List.mem_cons_self), ih (fun o ho => hok o (List.mem_cons_of_mem _ ho)), List.length_cons]
    omega
set_option maxRecDepth 100000 in
theorem ops16_open {v : Value} {d : DataW H} {p : List MemPlace} (h : DataW.Trod enc Tryz.prog w base (fun _ => true) held 62 v d p) (hv : ∃ a n c, v = .slice a n c) (hw : ∀ k ∈ d.weights Tryz.prog 62, k ≤ reachBytes) :
    ∃ A c ops, v = .slice A ops.length c ∧ OpsIn w A c ops := by
  obtain ⟨fuel, hf⟩ := h
  obtain ⟨A0, n0, c0, rfl⟩ := hv
  rcases open_slice Tryz.underlying62 hf with ⟨hcs, _⟩ | ⟨a, len, cap, m, n, D, Pl, hcs, _, hl, hm, hmm, hx, hi⟩
  · simp only [Value.cells, List.cons.injEq, and_true] at hcs
    injection hcs with e1 e2 e3
    subst e1; subst e2; subst e3
    exact ⟨none, 0, [], rfl, Nat.le_refl _, Nat.zero_le _, fun _ => rfl, fun h => absurd rfl h, fun r hr => by cases hr⟩
  · have hcs' : Value.slice A0 n0 c0 = .slice (some a) len cap := by simpa [Value.cells] using hcs
    injection hcs' with e1 e2 e3
    subst e1; subst e2; subst e3
    simp only [if_true] at hmm
    subst hmm
    injection hx with hd _
    subst hd
    simp only [DataW.weights, Tryz.underlying62] at hw
    have each : ∀ i, i < n0 → ∃ o : Op16, (∀ (j : Nat) (u : Value), (opC o)[j]? = some u → w.cell? ((a.add (i * 28)).add j) = some u) ∧ OpOk w o := by
      intro i hin
      obtain ⟨cs', hc, ht⟩ := hi i (by omega)
      rw [cellsOq] at hc
      obtain ⟨_, hlen, hat⟩ := World.cells?_some hc
      obtain ⟨o, rfl, ho⟩ := op16_cells ht hlen (fun k hk => hw k (by
        rw [List.mem_cons, List.mem_append]
        exact .inr (.inl (weights16_all (d := D i) (List.mem_map.2 ⟨i, List.mem_range.2 (by omega), rfl⟩) k hk))))
      exact ⟨o, fun j u hu => (hat j (by have := (List.getElem?_eq_some_iff.1 hu).1; omega)).trans hu, ho⟩
    have pick : ∀ m, m ≤ n0 → ∃ l : List Op16, l.length = m ∧ ∀ i (h : i < l.length), (∀ (j : Nat) (u : Value), (opC l[i])[j]? = some u → w.cell? ((a.add (i * 28)).add j) = some u) ∧ OpOk w l[i] := by
      intro m
      induction m with
      | zero => exact fun _ => ⟨[], rfl, fun i h => by simp at h⟩
      | succ m ih =>
        intro hm'
        obtain ⟨l, hll, hl'⟩ := ih (by omega)
        obtain ⟨f, hf'⟩ := each m (by omega)
        refine ⟨l ++ [f], by simp [hll], fun i hil => ?_⟩
        by_cases him : i < l.length
        · rw [List.getElem_append_left him]
          exact hl' i him
        · have hil' : i = m := by simp at hil; omega
          subst hil'
          rw [List.getElem_append_right (by omega)]
          simpa [hll] using hf'
    obtain ⟨l, hll, hl'⟩ := pick n0 (Nat.le_refl _)
    subst hll
    have hok : ∀ o ∈ l, OpOk w o := fun o ho => by
      obtain ⟨i, hi2, rfl⟩ := List.mem_iff_getElem.1 ho
      exact (hl' i hi2).2
    refine ⟨some a, _, l, rfl, hl, hm, (fun e => by cases e), fun hne => ?_, hok⟩
    have h0 : 0 < l.length := by
      rcases Nat.eq_zero_or_pos l.length with h | h
      · rw [List.eq_nil_of_length_eq_zero h] at hne
        exact absurd rfl hne
      · exact h
    obtain ⟨b, o, s⟩ := a
    have hc0 := (hl' 0 h0).1 0 _ rfl
    have hs : s = none := by simpa [Addr.add] using World.cell?_spot hc0
    subst hs
    refine ⟨b, o, rfl, by simpa [Addr.add] using World.block_lt_of_cell? w _ hc0, fun j u hj => ?_⟩
    have hjl : j < l.length * 28 := by
      have := (List.getElem?_eq_some_iff.1 hj).1
      rwa [opC_flat (fun o ho => (hok o ho).t)] at this
    obtain ⟨i, k, rfl, hk⟩ : ∃ i k, j = i * 28 + k ∧ k < 28 := ⟨j / 28, j % 28, by omega, by omega⟩
    have hil : i < l.length := by omega
    have hx : l[i]? = some l[i] := List.getElem?_eq_getElem hil
    have hkl : k < (opC l[i]).length := by rw [opC_len (hok _ (List.getElem_mem hil)).t]; exact hk
    have g := ops_at (fun o ho => (hok o ho).t) hx k _ (List.getElem?_eq_getElem hkl)
    rw [g] at hj
    injection hj with hj
    subst hj
    have := (hl' i hil).1 k _ (List.getElem?_eq_getElem hkl)
    rwa [Addr.add_lit, Addr.add_lit, Nat.add_assoc] at this
end
end Go.Proofs.YtggcampdkgfmgaaGreat
