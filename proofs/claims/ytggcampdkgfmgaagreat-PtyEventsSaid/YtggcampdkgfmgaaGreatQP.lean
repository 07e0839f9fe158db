import Derived.Test.YtggcampdkgfmgaaGreatQS
import Derived.SizedLaws
namespace Go.Proofs.YtggcampdkgfmgaaGreat
open Go.ChangeShapes Go.WideShapes Go.ChangeAt Go.RowKit Go.Deep

/-! Layer 16: a discipline that came in. -/
theorem cells25q : Tryz.prog.cellsOf 131 = 2 := by kernel_rfl
theorem cells23q : Tryz.prog.cellsOf 27 = 1 := by kernel_rfl
theorem bytes25q : Tryz.prog.bytesOf 131 = 32 := by kernel_rfl
theorem weights16_all {H : Type} {P : Program} {t : TypeId} : ∀ {ds : List (DataW H)} {d : DataW H}, d ∈ ds → ∀ n ∈ d.weights P t, n ∈ DataW.weightsAll P t ds
  | [], _, h, _, _ => by cases h
  | x :: r, d, h, n, hn => by
    rw [DataW.weightsAll, List.mem_append]
    rcases List.mem_cons.1 h with rfl | h
    · exact .inl hn
    · exact .inr (weights16_all h n hn)
section
variable {H : Type} {enc : TypeId × Value → H} {w : World} {base : Nat} {held : Bool}
set_option maxRecDepth 100000 in
theorem rec16_cells {spare : Nat → Bool} {fuel : Nat} {cs : List Value} {x : DataW H × List MemPlace} (h : DataW.trod enc Tryz.prog w base spare held fuel 131 cs = some x) (hlen : cs.length = 2) (hw : ∀ k ∈ x.1.weights Tryz.prog 131, k ≤ reachBytes) :
    ∃ A c bs e, cs = [.slice A bs.length c, .bool e] ∧ SlB w w.heap.size A c bs ∧ bs.length ≤ reachBytes := by
  obtain ⟨xs, n, _, hx, _, hxl, hf⟩ := DataW.trod_struct Tryz.underlying131 h
  match cs, hlen with
  | [v0, v1], _ =>
    have h0 : DataW.trod enc Tryz.prog w base spare held n 27 (([v0, v1].drop 0).take (Tryz.prog.cellsOf 27)) = xs[0]? := hf 0 _ rfl
    have h1 : DataW.trod enc Tryz.prog w base spare held n 4 (([v0, v1].drop 1).take (Tryz.prog.cellsOf 4)) = xs[1]? := hf 1 _ rfl
    rw [cells23q] at h0
    rw [cells4] at h1
    match xs, hxl with
    | [y0, y1], _ =>
      have h0 : DataW.trod enc Tryz.prog w base spare held n 27 [v0] = some y0 := h0
      have h1 : DataW.trod enc Tryz.prog w base spare held n 4 [v1] = some y1 := h1
      obtain ⟨A, c, bs, e0, hs⟩ := bytes_open h0
      obtain ⟨e, e1, _⟩ := DataW.trod_bool Tryz.underlying4 h1
      simp only [List.cons.injEq, and_true] at e0 e1
      subst e0; subst e1
      refine ⟨A, c, bs, e, rfl, hs, ?_⟩
      subst hx
      simp only [DataW.weights, Tryz.underlying131] at hw
      exact bytes_weight h0 fun k hk => hw k (DataW.weights_mem_each (j := 0) (t := 27) rfl rfl k hk)
set_option maxRecDepth 100000 in
theorem lns16_cells {fuel : Nat} {cs : List Value} {x : DataW H × List MemPlace} (hf : DataW.trod enc Tryz.prog w base (fun _ => true) held fuel 52 cs = some x) (hw : ∀ k ∈ x.1.weights Tryz.prog 52, k ≤ reachBytes) :
    ∃ A c rs, cs = [.slice A rs.length c] ∧ L13.LnV w w.heap.size A c rs ∧ rs.length * 32 ≤ reachBytes ∧ ∀ r ∈ rs, r.bs.length ≤ reachBytes := by
  rcases open_slice Tryz.underlying52 hf with ⟨hcs, _⟩ | ⟨a, n0, c0, m, n, D, Pl, hcs, _, hl, hm, hmm, hx, hi⟩
  · exact ⟨none, 0, [], hcs, ⟨Nat.le_refl _, Nat.zero_le _, fun _ => rfl, fun h => absurd rfl h, fun r hr => by cases hr⟩, Nat.zero_le _, fun r hr => by cases hr⟩
  · subst hcs
    simp only [if_true] at hmm
    subst hmm
    subst hx
    simp only [DataW.weights, Tryz.underlying52] at hw
    have each : ∀ i, i < n0 → ∃ r : L13.Rc, w.cell? ((a.add (i * 2)).add 0) = some (.slice r.A r.bs.length r.c) ∧ w.cell? ((a.add (i * 2)).add 1) = some (.bool r.e) ∧ SlB w w.heap.size r.A r.c r.bs ∧ r.bs.length ≤ reachBytes := by
      intro i hin
      obtain ⟨cs', hc, ht⟩ := hi i (by omega)
      rw [cells25q] at hc
      obtain ⟨_, hlen, hat⟩ := World.cells?_some hc
      obtain ⟨A, c, bs, e, rfl, hs, hb⟩ := rec16_cells ht hlen (fun k hk => hw k (by
        rw [List.mem_cons, List.mem_append]
        exact .inr (.inl (weights16_all (d := D i) (List.mem_map.2 ⟨i, List.mem_range.2 (by omega), rfl⟩) k hk))))
      exact ⟨⟨A, c, bs, e⟩, by rw [hat 0 (by omega)]; rfl, by rw [hat 1 (by omega)]; rfl, hs, hb⟩
    have pick : ∀ m, m ≤ n0 → ∃ l : List L13.Rc, l.length = m ∧ ∀ i (h : i < l.length), w.cell? ((a.add (i * 2)).add 0) = some (.slice l[i].A l[i].bs.length l[i].c) ∧ w.cell? ((a.add (i * 2)).add 1) = some (.bool l[i].e) ∧ SlB w w.heap.size l[i].A l[i].c l[i].bs ∧ l[i].bs.length ≤ reachBytes := by
      intro m
      induction m with
      | zero => exact fun _ => ⟨[], rfl, fun i h => by simp at h⟩
      | succ m ih =>
        intro hm'
        obtain ⟨l, hll, hl'⟩ := ih (by omega)
        obtain ⟨f, hf'⟩ := each m (by omega)
        refine ⟨l ++ [f], by simp [hll], fun i hil => ?_⟩
        by_cases him : i < l.length
        · rw [List.getElem_append_left him]
          exact hl' i him
        · have hil' : i = m := by simp at hil; omega
          subst hil'
          rw [List.getElem_append_right (by omega)]
          simpa [hll] using hf'
    obtain ⟨l, hll, hl'⟩ := pick n0 (Nat.le_refl _)
    subst hll
    refine ⟨some a, _, l, rfl, ⟨hl, hm, (fun e => by cases e), fun hne => ?_, fun r hr => ?_⟩, ?_, fun r hr => ?_⟩
    · have h0 : 0 < l.length := by
        rcases Nat.eq_zero_or_pos l.length with h | h
        · rw [List.eq_nil_of_length_eq_zero h] at hne
          exact absurd rfl hne
        · exact h
      obtain ⟨b, o, s⟩ := a
      obtain ⟨hc0, _⟩ := hl' 0 h0
      have hs : s = none := by simpa [Addr.add] using World.cell?_spot hc0
      subst hs
      refine ⟨b, o, rfl, by simpa [Addr.add] using World.block_lt_of_cell? w _ hc0, fun j u hj => ?_⟩
      have hjl : j < l.length * 2 := by
        have := (List.getElem?_eq_some_iff.1 hj).1
        rwa [L13.rcV_len] at this
      obtain ⟨i, hij⟩ : ∃ i, j = i * 2 ∨ j = i * 2 + 1 := ⟨j / 2, by omega⟩
      have hil : i < l.length := by omega
      have hr : l[i]? = some l[i] := List.getElem?_eq_getElem hil
      obtain ⟨r1, r2⟩ := L13.rcV_at hr
      obtain ⟨c1, c2, _⟩ := hl' i hil
      rw [Addr.add_lit, Addr.add_lit] at c1 c2
      rcases hij with e | e
      · subst e
        rw [r1] at hj
        injection hj with hj
        subst hj
        exact c1
      · subst e
        rw [r2] at hj
        injection hj with hj
        subst hj
        exact c2
    · obtain ⟨i, hi2, rfl⟩ := List.mem_iff_getElem.1 hr
      exact (hl' i hi2).2.2.1
    · have := hw _ List.mem_cons_self
      rw [bytes25q] at this
      simp only [List.length_map, List.length_range] at this
      omega
    · obtain ⟨i, hi2, rfl⟩ := List.mem_iff_getElem.1 hr
      exact (hl' i hi2).2.2.2
theorem reach16 : reachBytes = 140737488351232 := by decide
theorem w16_mem {xs : List (DataW H × List MemPlace)} {ts : List TypeId} {i : Nat} {y : DataW H × List MemPlace} {t : TypeId} (e : xs[i]? = some y) (ht : ts[i]? = some t) (hw : ∀ k ∈ DataW.weightsEach Tryz.prog ts (xs.map (·.1)), k ≤ reachBytes) : ∀ k ∈ y.1.weights Tryz.prog t, k ≤ reachBytes :=
  fun k hk => hw k (DataW.weights_mem_each ht (by rw [List.getElem?_map, e]; rfl) k hk)
theorem col16 {fuel o : Nat} {l : List Value} {y : DataW H × List MemPlace} (h : DataW.trod enc Tryz.prog w base (fun _ => true) held fuel 3 ((l.drop o).take 1) = some y) : ∃ a, (l.drop o).take 1 = [.int .i64 a] ∧ i64ok a := by
  obtain ⟨a, e, _, hw⟩ := DataW.trod_int Tryz.underlying3 h
  exact ⟨a, e, i64_of hw⟩
set_option maxRecDepth 100000 in
theorem disc_open {v : Value} {d : DataW H} {p : List MemPlace} (h : DataW.Trod enc Tryz.prog w base (fun _ => true) held 54 v d p) (hv : ∃ cs : Array Value, v = .agg cs ∧ cs.size = Tryz.prog.cellsOf 54) (hw : ∀ k ∈ d.weights Tryz.prog 54, k ≤ reachBytes) :
    ∃ (D : Ds) (f : Ph), v = .agg (tmV D.t (dRest D f)) ∧ XIn w D f := by
  obtain ⟨fuel, hf⟩ := h
  obtain ⟨cs0, rfl, hsz⟩ := hv
  obtain ⟨xs, n, _, hxx, hlen, hxl, hff⟩ := DataW.trod_struct Tryz.underlying54 hf
  have hcs : (Value.agg cs0).cells.toList = cs0.toList := rfl
  rw [hcs] at hff hlen
  rw [show Tryz.prog.cellsOf 54 = 34 by kernel_rfl] at hlen
  injection hxx with hd _
  subst hd
  simp only [DataW.weights, Tryz.underlying54] at hw
  have hx : ∀ i, i < 11 → ∃ y, xs[i]? = some y := fun i hi => ⟨xs[i]'(by simpa [hxl] using hi), List.getElem?_eq_getElem _⟩
  obtain ⟨z0, e0⟩ := hx 0 (by omega)
  obtain ⟨z1, e1⟩ := hx 1 (by omega)
  obtain ⟨z2, e2⟩ := hx 2 (by omega)
  obtain ⟨z3, e3⟩ := hx 3 (by omega)
  obtain ⟨z4, e4⟩ := hx 4 (by omega)
  obtain ⟨z5, e5⟩ := hx 5 (by omega)
  obtain ⟨z6, e6⟩ := hx 6 (by omega)
  obtain ⟨z7, e7⟩ := hx 7 (by omega)
  obtain ⟨z8, e8⟩ := hx 8 (by omega)
  obtain ⟨z9, e9⟩ := hx 9 (by omega)
  obtain ⟨z10, e10⟩ := hx 10 (by omega)
  have h0 : DataW.trod enc Tryz.prog w base (fun _ => true) held n 26 ((cs0.toList.drop 0).take (Tryz.prog.cellsOf 26)) = xs[0]? := hff 0 _ rfl
  rw [show Tryz.prog.cellsOf 26 = 24 by kernel_rfl, e0] at h0
  have h1 : DataW.trod enc Tryz.prog w base (fun _ => true) held n 27 ((cs0.toList.drop 24).take (Tryz.prog.cellsOf 27)) = xs[1]? := hff 1 _ rfl
  rw [show Tryz.prog.cellsOf 27 = 1 by kernel_rfl, e1] at h1
  have h2 : DataW.trod enc Tryz.prog w base (fun _ => true) held n 4 ((cs0.toList.drop 25).take (Tryz.prog.cellsOf 4)) = xs[2]? := hff 2 _ rfl
  rw [show Tryz.prog.cellsOf 4 = 1 by kernel_rfl, e2] at h2
  have h3 : DataW.trod enc Tryz.prog w base (fun _ => true) held n 52 ((cs0.toList.drop 26).take (Tryz.prog.cellsOf 52)) = xs[3]? := hff 3 _ rfl
  rw [show Tryz.prog.cellsOf 52 = 1 by kernel_rfl, e3] at h3
  have h4 : DataW.trod enc Tryz.prog w base (fun _ => true) held n 27 ((cs0.toList.drop 27).take (Tryz.prog.cellsOf 27)) = xs[4]? := hff 4 _ rfl
  rw [show Tryz.prog.cellsOf 27 = 1 by kernel_rfl, e4] at h4
  have h5 : DataW.trod enc Tryz.prog w base (fun _ => true) held n 4 ((cs0.toList.drop 28).take (Tryz.prog.cellsOf 4)) = xs[5]? := hff 5 _ rfl
  rw [show Tryz.prog.cellsOf 4 = 1 by kernel_rfl, e5] at h5
  have h6 : DataW.trod enc Tryz.prog w base (fun _ => true) held n 4 ((cs0.toList.drop 29).take (Tryz.prog.cellsOf 4)) = xs[6]? := hff 6 _ rfl
  rw [show Tryz.prog.cellsOf 4 = 1 by kernel_rfl, e6] at h6
  have h7 : DataW.trod enc Tryz.prog w base (fun _ => true) held n 27 ((cs0.toList.drop 30).take (Tryz.prog.cellsOf 27)) = xs[7]? := hff 7 _ rfl
  rw [show Tryz.prog.cellsOf 27 = 1 by kernel_rfl, e7] at h7
  have h8 : DataW.trod enc Tryz.prog w base (fun _ => true) held n 3 ((cs0.toList.drop 31).take (Tryz.prog.cellsOf 3)) = xs[8]? := hff 8 _ rfl
  rw [show Tryz.prog.cellsOf 3 = 1 by kernel_rfl, e8] at h8
  have h9 : DataW.trod enc Tryz.prog w base (fun _ => true) held n 3 ((cs0.toList.drop 32).take (Tryz.prog.cellsOf 3)) = xs[9]? := hff 9 _ rfl
  rw [show Tryz.prog.cellsOf 3 = 1 by kernel_rfl, e9] at h9
  have h10 : DataW.trod enc Tryz.prog w base (fun _ => true) held n 3 ((cs0.toList.drop 33).take (Tryz.prog.cellsOf 3)) = xs[10]? := hff 10 _ rfl
  rw [show Tryz.prog.cellsOf 3 = 1 by kernel_rfl, e10] at h10
  obtain ⟨t, t1, ht⟩ := tm_cells h0
  obtain ⟨A1, c1, b1, o1, s1⟩ := bytes_open h1
  have w1 := bytes_weight (by rw [o1] at h1; exact h1) (w16_mem (t := 27) e1 rfl hw)
  obtain ⟨b2, o2, _⟩ := DataW.trod_bool Tryz.underlying4 h2
  obtain ⟨A3, c3, rs, o3, s3, _, w3⟩ := lns16_cells h3 (w16_mem (t := 52) e3 rfl hw)
  obtain ⟨A4, c4, b4, o4, s4⟩ := bytes_open h4
  have w4 := bytes_weight (by rw [o4] at h4; exact h4) (w16_mem (t := 27) e4 rfl hw)
  obtain ⟨b5, o5, _⟩ := DataW.trod_bool Tryz.underlying4 h5
  obtain ⟨b6, o6, _⟩ := DataW.trod_bool Tryz.underlying4 h6
  obtain ⟨A7, c7, b7, o7, s7⟩ := bytes_open h7
  have w7 := bytes_weight (by rw [o7] at h7; exact h7) (w16_mem (t := 27) e7 rfl hw)
  obtain ⟨x8, o8, i8⟩ := col16 h8
  obtain ⟨x9, o9, i9⟩ := col16 h9
  obtain ⟨x10, o10, i10⟩ := col16 h10
  rw [reach16] at w1 w4 w7
  have w3' : ∀ r ∈ rs, r.bs.length ≤ 140737488351232 := fun r hr => by have := w3 r hr; rwa [reach16] at this
  refine ⟨⟨t, b1, b2, L13.lnR rs, b4, b5, b6, b7, x8, x9, x10⟩, ⟨A1, c1, A3, c3, rs, A4, c4, A7, c7⟩, ?_, ht, s1, s4, s7, s3, rfl, w1, w4, w7, w3', i8, i9, i10⟩
  congr 1
  rw [← Array.toList_inj]
  have hn : (L13.lnR rs).length = rs.length := by simp [L13.lnR]
  refine cells_app (cl_len ht.len) hlen t1 (fun j hj => ?_)
  match j, hj with
  | 0, _ => exact one_at o1
  | 1, _ => exact one_at o2
  | 2, _ => exact (one_at o3).trans (by rw [← hn]; rfl)
  | 3, _ => exact one_at o4
  | 4, _ => exact one_at o5
  | 5, _ => exact one_at o6
  | 6, _ => exact one_at o7
  | 7, _ => exact one_at o8
  | 8, _ => exact one_at o9
  | 9, _ => exact one_at o10
end
/-- The empty one (for the row). -/
def disc0 : Array Value := #[.int .u8 0, .int .u8 0, .int .u8 0, .int .u8 0, .int .u8 0, .int .u8 0, .int .u8 0, .int .u8 0, .int .u8 0, .int .u8 0, .int .u8 0, .int .u8 0, .int .u8 0, .int .u8 0, .int .u8 0, .int .u8 0, .int .u8 0, .int .u8 0, .int .u8 0, .int .u64 0, .int .u32 0, .int .u32 0, .int .i64 0, .int .i64 0, .slice none 0 0, .bool false, .slice none 0 0, .slice none 0 0, .bool false, .bool false, .slice none 0 0, .int .i64 0, .int .i64 0, .int .i64 0]
end Go.Proofs.YtggcampdkgfmgaaGreat
