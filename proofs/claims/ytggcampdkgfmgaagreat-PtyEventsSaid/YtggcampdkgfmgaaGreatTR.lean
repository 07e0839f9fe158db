import Derived.Test.YtggcampdkgfmgaaGreatQP
import Derived.Test.YtggcampdkgfmgaaGreatTL
namespace Go.Proofs.YtggcampdkgfmgaaGreat
open Go.ChangeShapes Go.WideShapes Go.ChangeAt Go.RowKit Go.Deep

/-! Layer 17: what came in. -/
/-- A pair whose cells are all nought. -/
def pty0 : Array Value := #[.int .u8 0, .int .u8 0, .int .u8 0, .int .u8 0, .int .u8 0, .int .u8 0, .int .u8 0, .int .u8 0, .int .u8 0, .int .u8 0, .int .u8 0, .int .u8 0, .int .u8 0, .int .u8 0, .int .u8 0, .int .u8 0, .int .u8 0, .int .u8 0, .int .u8 0, .int .u64 0, .int .u32 0, .int .u32 0, .int .i64 0, .int .i64 0, .slice none 0 0, .bool false, .slice none 0 0, .slice none 0 0, .bool false, .bool false, .slice none 0 0, .int .i64 0, .int .i64 0, .int .i64 0, .int .u32 0, .int .u32 0, .int .u32 0, .int .u32 0, .int .i64 0, .int .i64 0, .int .i64 0, .bool false]
theorem cellsP17 : Tryz.prog.cellsOf 105 = 42 := by kernel_rfl
theorem cellsD16 : Tryz.prog.cellsOf 54 = 34 := by kernel_rfl
theorem cellsZ4 : Tryz.prog.cellsOf 90 = 4 := by kernel_rfl
theorem cellsU32 : Tryz.prog.cellsOf 24 = 1 := by kernel_rfl
theorem cellsOq17 : Tryz.prog.cellsOf 111 = 32 := by kernel_rfl
section
variable {H : Type} {enc : TypeId × Value → H} {w : World} {base : Nat} {held : Bool}
theorem u32_cell {spare : Nat → Bool} {fuel : Nat} {l : List Value} {y : DataW H × List MemPlace} (h : DataW.trod enc Tryz.prog w base spare held fuel 24 l = some y) : ∃ a : Nat, l = [.int .u32 (a : Int)] := by
  obtain ⟨a, e, _, hw⟩ := DataW.trod_int Tryz.underlying24 h
  have b := bounds_u32 hw
  refine ⟨a.toNat, ?_⟩
  rw [e, Int.toNat_of_nonneg b.1]
set_option maxRecDepth 100000 in
theorem sz_cells {spare : Nat → Bool} {fuel : Nat} {cs : List Value} {x : DataW H × List MemPlace} (h : DataW.trod enc Tryz.prog w base spare held fuel 90 cs = some x) (hlen : cs.length = 4) : ∃ z : Sz, cs = z.cl := by
  obtain ⟨xs, n, _, hx, _, hxl, hff⟩ := DataW.trod_struct Tryz.underlying90 h
  have hx : ∀ i, i < 4 → ∃ y, xs[i]? = some y := fun i hi => ⟨xs[i]'(by simpa [hxl] using hi), List.getElem?_eq_getElem _⟩
  match cs, hlen with
  | [c0, c1, c2, c3], _ =>
    obtain ⟨z0, e0⟩ := hx 0 (by omega)
    obtain ⟨z1, e1⟩ := hx 1 (by omega)
    obtain ⟨z2, e2⟩ := hx 2 (by omega)
    obtain ⟨z3, e3⟩ := hx 3 (by omega)
    have h0 : DataW.trod enc Tryz.prog w base spare held n 24 (([c0, c1, c2, c3].drop 0).take (Tryz.prog.cellsOf 24)) = xs[0]? := hff 0 _ rfl
    have h1 : DataW.trod enc Tryz.prog w base spare held n 24 (([c0, c1, c2, c3].drop 1).take (Tryz.prog.cellsOf 24)) = xs[1]? := hff 1 _ rfl
    have h2 : DataW.trod enc Tryz.prog w base spare held n 24 (([c0, c1, c2, c3].drop 2).take (Tryz.prog.cellsOf 24)) = xs[2]? := hff 2 _ rfl
    have h3 : DataW.trod enc Tryz.prog w base spare held n 24 (([c0, c1, c2, c3].drop 3).take (Tryz.prog.cellsOf 24)) = xs[3]? := hff 3 _ rfl
    rw [cellsU32, e0] at h0
    rw [cellsU32, e1] at h1
    rw [cellsU32, e2] at h2
    rw [cellsU32, e3] at h3
    have h0 : DataW.trod enc Tryz.prog w base spare held n 24 [c0] = some z0 := h0
    have h1 : DataW.trod enc Tryz.prog w base spare held n 24 [c1] = some z1 := h1
    have h2 : DataW.trod enc Tryz.prog w base spare held n 24 [c2] = some z2 := h2
    have h3 : DataW.trod enc Tryz.prog w base spare held n 24 [c3] = some z3 := h3
    obtain ⟨a, o0⟩ := u32_cell h0
    obtain ⟨b, o1⟩ := u32_cell h1
    obtain ⟨c, o2⟩ := u32_cell h2
    obtain ⟨e, o3⟩ := u32_cell h3
    simp only [List.cons.injEq, and_true] at o0 o1 o2 o3
    subst o0; subst o1; subst o2; subst o3
    exact ⟨⟨a, b, c, e⟩, rfl⟩
set_option maxRecDepth 100000 in
theorem pty_open {v : Value} {d : DataW H} {p : List MemPlace} (h : DataW.Trod enc Tryz.prog w base (fun _ => true) held 105 v d p) (hv : ∃ cs : Array Value, v = .agg cs ∧ cs.size = Tryz.prog.cellsOf 105) (hw : ∀ k ∈ d.weights Tryz.prog 105, k ≤ reachBytes) :
    ∃ (D : Ds) (f : Ph) (z : Sz) (ss gp sl : Int) (hu : Bool), v = .agg (ptV D f z ss gp sl hu) ∧ XIn w D f := by
  obtain ⟨fuel, hf⟩ := h
  obtain ⟨cs0, rfl, hsz⟩ := hv
  obtain ⟨xs, n, _, hxx, hlen, hxl, hff⟩ := DataW.trod_struct Tryz.underlying105 hf
  have hcs : (Value.agg cs0).cells.toList = cs0.toList := rfl
  rw [hcs] at hff hlen
  rw [cellsP17] at hlen
  injection hxx with hd _
  subst hd
  simp only [DataW.weights, Tryz.underlying105] at hw
  have hx : ∀ i, i < 6 → ∃ y, xs[i]? = some y := fun i hi => ⟨xs[i]'(by simpa [hxl] using hi), List.getElem?_eq_getElem _⟩
  obtain ⟨z0, e0⟩ := hx 0 (by omega)
  obtain ⟨z1, e1⟩ := hx 1 (by omega)
  obtain ⟨z2, e2⟩ := hx 2 (by omega)
  obtain ⟨z3, e3⟩ := hx 3 (by omega)
  obtain ⟨z4, e4⟩ := hx 4 (by omega)
  obtain ⟨z5, e5⟩ := hx 5 (by omega)
  have h0 : DataW.trod enc Tryz.prog w base (fun _ => true) held n 54 ((cs0.toList.drop 0).take (Tryz.prog.cellsOf 54)) = xs[0]? := hff 0 _ rfl
  have h1 : DataW.trod enc Tryz.prog w base (fun _ => true) held n 90 ((cs0.toList.drop 34).take (Tryz.prog.cellsOf 90)) = xs[1]? := hff 1 _ rfl
  have h2 : DataW.trod enc Tryz.prog w base (fun _ => true) held n 3 ((cs0.toList.drop 38).take (Tryz.prog.cellsOf 3)) = xs[2]? := hff 2 _ rfl
  have h3 : DataW.trod enc Tryz.prog w base (fun _ => true) held n 3 ((cs0.toList.drop 39).take (Tryz.prog.cellsOf 3)) = xs[3]? := hff 3 _ rfl
  have h4 : DataW.trod enc Tryz.prog w base (fun _ => true) held n 3 ((cs0.toList.drop 40).take (Tryz.prog.cellsOf 3)) = xs[4]? := hff 4 _ rfl
  have h5 : DataW.trod enc Tryz.prog w base (fun _ => true) held n 4 ((cs0.toList.drop 41).take (Tryz.prog.cellsOf 4)) = xs[5]? := hff 5 _ rfl
  rw [cellsD16, e0] at h0
  rw [cellsZ4, e1] at h1
  rw [show Tryz.prog.cellsOf 3 = 1 by kernel_rfl, e2] at h2
  rw [show Tryz.prog.cellsOf 3 = 1 by kernel_rfl, e3] at h3
  rw [show Tryz.prog.cellsOf 3 = 1 by kernel_rfl, e4] at h4
  rw [show Tryz.prog.cellsOf 4 = 1 by kernel_rfl, e5] at h5
  obtain ⟨D, f, hD, X⟩ := disc_open (v := .agg ((cs0.toList.drop 0).take 34).toArray) (d := z0.1) (p := z0.2) ⟨n, by
    show DataW.trod enc Tryz.prog w base (fun _ => true) held n 54 ((cs0.toList.drop 0).take 34).toArray.toList = some (z0.1, z0.2)
    rw [List.toList_toArray]
    exact h0⟩ ⟨_, rfl, by rw [cellsD16]; simp [hlen]⟩ (w16_mem (t := 54) e0 rfl hw)
  obtain ⟨z, o1⟩ := sz_cells h1 (by simp [hlen])
  obtain ⟨ss, o2, _⟩ := col16 h2
  obtain ⟨gp, o3, _⟩ := col16 h3
  obtain ⟨sl, o4, _⟩ := col16 h4
  obtain ⟨hu, o5, _⟩ := DataW.trod_bool Tryz.underlying4 h5
  refine ⟨D, f, z, ss, gp, sl, hu, ?_, X⟩
  congr 1
  rw [← Array.toList_inj]
  have hD2 : (cs0.toList.drop 0).take 34 = D.t.cl ++ dRest D f := by
    have h6 : ((cs0.toList.drop 0).take 34).toArray = tmV D.t (dRest D f) := by injection hD
    have h7 := congrArg Array.toList h6
    simpa [tmV] using h7
  have e : cs0.toList = (cs0.toList.drop 0).take 34 ++ ((cs0.toList.drop 34).take 4 ++ ((cs0.toList.drop 38).take 1 ++ ((cs0.toList.drop 39).take 1 ++ ((cs0.toList.drop 40).take 1 ++ (cs0.toList.drop 41).take 1)))) := by
    generalize cs0.toList = L at hlen
    rw [List.take_of_length_le (l := L.drop 41) (by rw [List.length_drop]; omega)]
    have sp : ∀ k m, L.drop k = (L.drop k).take m ++ L.drop (k + m) := fun k m => by rw [← List.drop_drop]; exact (List.take_append_drop m _).symm
    have s41 := sp 40 1
    have s40 := sp 39 1
    have s39 := sp 38 1
    have s38 := sp 34 4
    rw [← s41, ← s40, ← s39, ← s38, List.drop_zero, List.take_append_drop]
  rw [e, hD2, o1, o2, o3, o4, o5]
  simp [ptV, tmV, pRest, Sz.cl]
end
section
variable {H : Type} {enc : TypeId × Value → H} {w : World} {base : Nat} {held : Bool}
set_option maxRecDepth 100000 in
theorem op17_cells {fuel : Nat} {cs : List Value} {x : DataW H × List MemPlace} (h : DataW.trod enc Tryz.prog w base (fun _ => true) held fuel 111 cs = some x) (hlen : cs.length = 32) (hw : ∀ k ∈ x.1.weights Tryz.prog 111, k ≤ reachBytes) :
    ∃ o : Op17, cs = opC17 o ∧ OpOk17 w o := by
  obtain ⟨xs, n, _, hx, _, hxl, hff⟩ := DataW.trod_struct Tryz.underlying111 h
  subst hx
  simp only [DataW.weights, Tryz.underlying111] at hw
  have hx : ∀ i, i < 6 → ∃ y, xs[i]? = some y := fun i hi => ⟨xs[i]'(by simpa [hxl] using hi), List.getElem?_eq_getElem _⟩
  obtain ⟨z0, e0⟩ := hx 0 (by omega)
  obtain ⟨z1, e1⟩ := hx 1 (by omega)
  obtain ⟨z2, e2⟩ := hx 2 (by omega)
  obtain ⟨z3, e3⟩ := hx 3 (by omega)
  obtain ⟨z4, e4⟩ := hx 4 (by omega)
  obtain ⟨z5, e5⟩ := hx 5 (by omega)
  have h0 : DataW.trod enc Tryz.prog w base (fun _ => true) held n 3 ((cs.drop 0).take (Tryz.prog.cellsOf 3)) = xs[0]? := hff 0 _ rfl
  rw [show Tryz.prog.cellsOf 3 = 1 by kernel_rfl, e0] at h0
  have h1 : DataW.trod enc Tryz.prog w base (fun _ => true) held n 3 ((cs.drop 1).take (Tryz.prog.cellsOf 3)) = xs[1]? := hff 1 _ rfl
  rw [show Tryz.prog.cellsOf 3 = 1 by kernel_rfl, e1] at h1
  have h2 : DataW.trod enc Tryz.prog w base (fun _ => true) held n 3 ((cs.drop 2).take (Tryz.prog.cellsOf 3)) = xs[2]? := hff 2 _ rfl
  rw [show Tryz.prog.cellsOf 3 = 1 by kernel_rfl, e2] at h2
  have h3 : DataW.trod enc Tryz.prog w base (fun _ => true) held n 27 ((cs.drop 3).take (Tryz.prog.cellsOf 27)) = xs[3]? := hff 3 _ rfl
  rw [show Tryz.prog.cellsOf 27 = 1 by kernel_rfl, e3] at h3
  have h4 : DataW.trod enc Tryz.prog w base (fun _ => true) held n 26 ((cs.drop 4).take (Tryz.prog.cellsOf 26)) = xs[4]? := hff 4 _ rfl
  rw [show Tryz.prog.cellsOf 26 = 24 by kernel_rfl, e4] at h4
  have h5 : DataW.trod enc Tryz.prog w base (fun _ => true) held n 90 ((cs.drop 28).take (Tryz.prog.cellsOf 90)) = xs[5]? := hff 5 _ rfl
  rw [cellsZ4, e5] at h5
  obtain ⟨x0, o0, i0⟩ := col16 h0
  obtain ⟨x1, o1, i1⟩ := col16 h1
  obtain ⟨x2, o2, i2⟩ := col16 h2
  obtain ⟨A3, c3, b3, o3, s3⟩ := bytes_open h3
  have w3 := bytes_weight (by rw [o3] at h3; exact h3) (w16_mem (t := 27) e3 rfl hw)
  rw [reach16] at w3
  obtain ⟨t, t1, ht⟩ := tm_cells h4
  obtain ⟨z, o5⟩ := sz_cells h5 (by rw [List.length_take, List.length_drop, hlen]; rfl)
  refine ⟨⟨x0, x1, x2, A3, c3, b3, t, z⟩, ?_, ht, i1, i2, s3, w3⟩
  match cs, hlen with
  | v0 :: v1 :: v2 :: v3 :: r, hl =>
    have hr : r.length = 28 := by simpa using hl
    simp only [List.drop_succ_cons, List.drop_zero, List.take_succ_cons, List.take_zero, List.cons.injEq, and_true] at o0 o1 o2 o3 t1 o5
    subst o0; subst o1; subst o2; subst o3
    have e : r = r.take 24 ++ r.drop 24 := (List.take_append_drop 24 r).symm
    rw [List.take_of_length_le (l := r.drop 24) (by rw [List.length_drop]; omega)] at o5
    rw [e, t1, o5]
    simp [opC17]
theorem opC17_flat {ops : List Op17} (hok : ∀ o ∈ ops, o.t.Ok) : (ops.map opC17).flatten.length = ops.length * 32 := by
  induction ops with
  | nil => rfl
  | cons x r ih =>
    rw [List.map_cons, List.flatten_cons, List.length_append, opC17_len (hok x List.mem_cons_self), ih (fun o ho => hok o (List.mem_cons_of_mem _ ho)), List.length_cons]
    omega
set_option maxRecDepth 100000 in
theorem ops17_open {v : Value} {d : DataW H} {p : List MemPlace} (h : DataW.Trod enc Tryz.prog w base (fun _ => true) held 106 v d p) (hv : ∃ a n c, v = .slice a n c) (hw : ∀ k ∈ d.weights Tryz.prog 106, k ≤ reachBytes) :
    ∃ A c ops, v = .slice A ops.length c ∧ OpsIn17 w A c ops := by
  obtain ⟨fuel, hf⟩ := h
  obtain ⟨A0, n0, c0, rfl⟩ := hv
  rcases open_slice Tryz.underlying106 hf with ⟨hcs, _⟩ | ⟨a, len, cap, m, n, D, Pl, hcs, _, hl, hm, hmm, hx, hi⟩
  · simp only [Value.cells, List.cons.injEq, and_true] at hcs
    injection hcs with e1 e2 e3
    subst e1; subst e2; subst e3
    exact ⟨none, 0, [], rfl, Nat.le_refl _, Nat.zero_le _, fun _ => rfl, fun h => absurd rfl h, fun r hr => by cases hr⟩
  · have hcs' : Value.slice A0 n0 c0 = .slice (some a) len cap := by simpa [Value.cells] using hcs
    injection hcs' with e1 e2 e3
    subst e1; subst e2; subst e3
    simp only [if_true] at hmm
    subst hmm
    injection hx with hd _
    subst hd
    simp only [DataW.weights, Tryz.underlying106] at hw
    have each : ∀ i, i < n0 → ∃ o : Op17, (∀ (j : Nat) (u : Value), (opC17 o)[j]? = some u → w.cell? ((a.add (i * 32)).add j) = some u) ∧ OpOk17 w o := by
      intro i hin
      obtain ⟨cs', hc, ht⟩ := hi i (by omega)
      rw [cellsOq17] at hc
      obtain ⟨_, hlen, hat⟩ := World.cells?_some hc
      obtain ⟨o, rfl, ho⟩ := op17_cells ht hlen (fun k hk => hw k (by
        rw [List.mem_cons, List.mem_append]
        exact .inr (.inl (weights16_all (d := D i) (List.mem_map.2 ⟨i, List.mem_range.2 (by omega), rfl⟩) k hk))))
      exact ⟨o, fun j u hu => (hat j (by have := (List.getElem?_eq_some_iff.1 hu).1; omega)).trans hu, ho⟩
    have pick : ∀ m, m ≤ n0 → ∃ l : List Op17, l.length = m ∧ ∀ i (h : i < l.length), (∀ (j : Nat) (u : Value), (opC17 l[i])[j]? = some u → w.cell? ((a.add (i * 32)).add j) = some u) ∧ OpOk17 w l[i] := by
      intro m
      induction m with
      | zero => exact fun _ => ⟨[], rfl, fun i h => by simp at h⟩
      | succ m ih =>
        intro hm'
        obtain ⟨l, hll, hl'⟩ := ih (by omega)
        obtain ⟨f, hf'⟩ := each m (by omega)
        refine ⟨l ++ [f], by simp [hll], fun i hil => ?_⟩
        by_cases him : i < l.length
        · rw [List.getElem_append_left him]
          exact hl' i him
        · have hil' : i = m := by simp at hil; omega
          subst hil'
          rw [List.getElem_append_right (by omega)]
          simpa [hll] using hf'
    obtain ⟨l, hll, hl'⟩ := pick n0 (Nat.le_refl _)
    subst hll
    have hok : ∀ o ∈ l, OpOk17 w o := fun o ho => by
      obtain ⟨i, hi2, rfl⟩ := List.mem_iff_getElem.1 ho
      exact (hl' i hi2).2
    refine ⟨some a, _, l, rfl, hl, hm, (fun e => by cases e), fun hne => ?_, hok⟩
    have h0 : 0 < l.length := by
      rcases Nat.eq_zero_or_pos l.length with h | h
      · rw [List.eq_nil_of_length_eq_zero h] at hne
        exact absurd rfl hne
      · exact h
    obtain ⟨b, o, s⟩ := a
    have hc0 := (hl' 0 h0).1 0 _ rfl
    have hs : s = none := by simpa [Addr.add] using World.cell?_spot hc0
    subst hs
    refine ⟨b, o, rfl, by simpa [Addr.add] using World.block_lt_of_cell? w _ hc0, fun j u hj => ?_⟩
    have hjl : j < l.length * 32 := by
      have := (List.getElem?_eq_some_iff.1 hj).1
      rwa [opC17_flat (fun o ho => (hok o ho).t)] at this
    obtain ⟨i, k, rfl, hk⟩ : ∃ i k, j = i * 32 + k ∧ k < 32 := ⟨j / 32, j % 32, by omega, by omega⟩
    have hil : i < l.length := by omega
    have hx : l[i]? = some l[i] := List.getElem?_eq_getElem hil
    have hkl : k < (opC17 l[i]).length := by rw [opC17_len (hok _ (List.getElem_mem hil)).t]; exact hk
    have g := ops17_at (fun o ho => (hok o ho).t) hx k _ (List.getElem?_eq_getElem hkl)
    rw [g] at hj
    injection hj with hj
    subst hj
    have := (hl' i hil).1 k _ (List.getElem?_eq_getElem hkl)
    rwa [Addr.add_lit, Addr.add_lit, Nat.add_assoc] at this
end
section
variable {H : Type} {enc : TypeId × Value → H} {w : World} {base : Nat} {held : Bool}
set_option maxRecDepth 100000 in
theorem sizes_open {v : Value} {d : DataW H} {p : List MemPlace} (h : DataW.Trod enc Tryz.prog w base (fun _ => true) held 118 v d p) (hv : ∃ a n c, v = .slice a n c) :
    ∃ A c l, v = .slice A l.length c ∧ SzL w w.heap.size A c l := by
  obtain ⟨fuel, hf⟩ := h
  obtain ⟨A0, n0, c0, rfl⟩ := hv
  rcases open_slice Tryz.underlying118 hf with ⟨hcs, _⟩ | ⟨a, len, cap, m, n, D, Pl, hcs, _, hl, hm, hmm, hx, hi⟩
  · simp only [Value.cells, List.cons.injEq, and_true] at hcs
    injection hcs with e1 e2 e3
    subst e1; subst e2; subst e3
    exact ⟨none, 0, [], rfl, Nat.le_refl _, Nat.zero_le _, fun _ => rfl, fun h => absurd rfl h⟩
  · have hcs' : Value.slice A0 n0 c0 = .slice (some a) len cap := by simpa [Value.cells] using hcs
    injection hcs' with e1 e2 e3
    subst e1; subst e2; subst e3
    simp only [if_true] at hmm
    subst hmm
    have each : ∀ i, i < n0 → ∃ z : Sz, (∀ (j : Nat) (u : Value), z.cl[j]? = some u → w.cell? ((a.add (i * 4)).add j) = some u) := by
      intro i hin
      obtain ⟨cs', hc, ht⟩ := hi i (by omega)
      rw [cellsZ4] at hc
      obtain ⟨_, hlen, hat⟩ := World.cells?_some hc
      obtain ⟨z, rfl⟩ := sz_cells ht hlen
      exact ⟨z, fun j u hu => (hat j (by have := (List.getElem?_eq_some_iff.1 hu).1; rwa [hlen] at this)).trans hu⟩
    have pick : ∀ m, m ≤ n0 → ∃ l : List Sz, l.length = m ∧ ∀ i (h : i < l.length), (∀ (j : Nat) (u : Value), l[i].cl[j]? = some u → w.cell? ((a.add (i * 4)).add j) = some u) := by
      intro m
      induction m with
      | zero => exact fun _ => ⟨[], rfl, fun i h => by simp at h⟩
      | succ m ih =>
        intro hm'
        obtain ⟨l, hll, hl'⟩ := ih (by omega)
        obtain ⟨f, hf'⟩ := each m (by omega)
        refine ⟨l ++ [f], by simp [hll], fun i hil => ?_⟩
        by_cases him : i < l.length
        · rw [List.getElem_append_left him]
          exact hl' i him
        · have hil' : i = m := by simp at hil; omega
          subst hil'
          rw [List.getElem_append_right (by omega)]
          simpa [hll] using hf'
    obtain ⟨l, hll, hl'⟩ := pick n0 (Nat.le_refl _)
    subst hll
    refine ⟨some a, _, l, rfl, hl, hm, (fun e => by cases e), fun hne => ?_⟩
    have h0 : 0 < l.length := by
      rcases Nat.eq_zero_or_pos l.length with h | h
      · rw [List.eq_nil_of_length_eq_zero h] at hne
        exact absurd rfl hne
      · exact h
    obtain ⟨b, o, s⟩ := a
    have hc0 := hl' 0 h0 0 _ rfl
    have hs : s = none := by simpa [Addr.add] using World.cell?_spot hc0
    subst hs
    refine ⟨b, o, rfl, by simpa [Addr.add] using World.block_lt_of_cell? w _ hc0, fun j u hj => ?_⟩
    have hjl : j < l.length * 4 := by
      have h1 := (List.getElem?_eq_some_iff.1 hj).1
      have h2 : (szV l).length = l.length * 4 := by
        clear hl' hj h1 hne h0 hc0 hl hm hi hf hx each pick hcs
        induction l with
        | nil => rfl
        | cons x r ih =>
          have e : szV (x :: r) = x.cl ++ szV r := rfl
          have e2 : x.cl.length = 4 := rfl
          rw [e, List.length_append, ih, e2, List.length_cons]
          omega
      omega
    obtain ⟨i, k, rfl, hk⟩ : ∃ i k, j = i * 4 + k ∧ k < 4 := ⟨j / 4, j % 4, by omega, by omega⟩
    have hil : i < l.length := by omega
    have hx : l[i]? = some l[i] := List.getElem?_eq_getElem hil
    have hkl : k < l[i].cl.length := hk
    have g := szV_at hx k _ (List.getElem?_eq_getElem hkl)
    rw [g] at hj
    injection hj with hj
    subst hj
    have := hl' i hil k _ (List.getElem?_eq_getElem hkl)
    rwa [Addr.add_lit, Addr.add_lit, Nat.add_assoc] at this
end
end Go.Proofs.YtggcampdkgfmgaaGreat
