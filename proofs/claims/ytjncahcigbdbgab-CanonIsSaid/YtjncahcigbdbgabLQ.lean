import Derived.Test.YtjncahcigbdbgabLO
import Derived.SizedLaws
namespace Go.Proofs.Ytjncahcigbdbgab
open Go.ChangeShapes Go.WideShapes Go.ChangeAt Go.RowKit Go.Deep

/-! Layer 13: lines that came in. -/
theorem cells25 : Try.prog.cellsOf 25 = 2 := by kernel_rfl
theorem cells23 : Try.prog.cellsOf 23 = 1 := by kernel_rfl
theorem bytes25 : Try.prog.bytesOf 25 = 32 := by kernel_rfl
theorem weights_all {H : Type} {P : Program} {t : TypeId} : ∀ {ds : List (DataW H)} {d : DataW H}, d ∈ ds → ∀ n ∈ d.weights P t, n ∈ DataW.weightsAll P t ds
  | [], _, h, _, _ => by cases h
  | x :: r, d, h, n, hn => by
    rw [DataW.weightsAll, List.mem_append]
    rcases List.mem_cons.1 h with rfl | h
    · exact .inl hn
    · exact .inr (weights_all h n hn)
section
variable {H : Type} {enc : TypeId × Value → H} {w : World} {base : Nat} {held : Bool}
theorem rec_cells {spare : Nat → Bool} {fuel : Nat} {cs : List Value} {x : DataW H × List MemPlace} (h : DataW.trod enc Try.prog w base spare held fuel 25 cs = some x) (hlen : cs.length = 2) (hw : ∀ k ∈ x.1.weights Try.prog 25, k ≤ reachBytes) :
    ∃ A c bs e, cs = [.slice A bs.length c, .bool e] ∧ SlB w w.heap.size A c bs ∧ bs.length ≤ reachBytes := by
  obtain ⟨xs, n, _, hx, _, hxl, hf⟩ := DataW.trod_struct Try.underlying25 h
  match cs, hlen with
  | [v0, v1], _ =>
    have h0 : DataW.trod enc Try.prog w base spare held n 23 (([v0, v1].drop 0).take (Try.prog.cellsOf 23)) = xs[0]? := hf 0 _ rfl
    have h1 : DataW.trod enc Try.prog w base spare held n 4 (([v0, v1].drop 1).take (Try.prog.cellsOf 4)) = xs[1]? := hf 1 _ rfl
    rw [cells23] at h0
    rw [cells4] at h1
    match xs, hxl with
    | [y0, y1], _ =>
      have h0 : DataW.trod enc Try.prog w base spare held n 23 [v0] = some y0 := h0
      have h1 : DataW.trod enc Try.prog w base spare held n 4 [v1] = some y1 := h1
      obtain ⟨A, c, bs, e0, hs⟩ := bytes_open h0
      obtain ⟨e, e1, _⟩ := DataW.trod_bool Try.underlying4 h1
      simp only [List.cons.injEq, and_true] at e0 e1
      subst e0; subst e1
      refine ⟨A, c, bs, e, rfl, hs, ?_⟩
      subst hx
      simp only [DataW.weights, Try.underlying25] at hw
      exact bytes_weight h0 fun k hk => hw k (DataW.weights_mem_each (j := 0) (t := 23) rfl rfl k hk)
set_option maxRecDepth 100000 in
theorem lns_open {v : Value} {d : DataW H} {p : List MemPlace} (h : DataW.Trod enc Try.prog w base (fun _ => true) held 22 v d p) (hv : ∃ a n c, v = .slice a n c) (hw : ∀ k ∈ d.weights Try.prog 22, k ≤ reachBytes) :
    ∃ A c rs, v = .slice A rs.length c ∧ LnV w w.heap.size A c rs ∧ rs.length * 32 ≤ reachBytes ∧ ∀ r ∈ rs, r.bs.length ≤ reachBytes := by
  obtain ⟨fuel, hf⟩ := h
  obtain ⟨A0, n0, c0, rfl⟩ := hv
  rcases open_slice Try.underlying22 hf with ⟨hcs, _⟩ | ⟨a, len, cap, m, n, D, Pl, hcs, _, hl, hm, hmm, hx, hi⟩
  · simp only [Value.cells, List.cons.injEq, and_true] at hcs
    injection hcs with e1 e2 e3
    subst e1; subst e2; subst e3
    exact ⟨none, 0, [], rfl, ⟨Nat.le_refl _, Nat.zero_le _, fun _ => rfl, fun h => absurd rfl h, fun r hr => by cases hr⟩, Nat.zero_le _, fun r hr => by cases hr⟩
  · have hcs' : Value.slice A0 n0 c0 = .slice (some a) len cap := by simpa [Value.cells] using hcs
    injection hcs' with e1 e2 e3
    subst e1; subst e2; subst e3
    simp only [if_true] at hmm
    subst hmm
    injection hx with hd _
    subst hd
    simp only [DataW.weights, Try.underlying22] at hw
    have each : ∀ i, i < n0 → ∃ r : Rc, w.cell? ((a.add (i * 2)).add 0) = some (.slice r.A r.bs.length r.c) ∧ w.cell? ((a.add (i * 2)).add 1) = some (.bool r.e) ∧ SlB w w.heap.size r.A r.c r.bs ∧ r.bs.length ≤ reachBytes := by
      intro i hin
      obtain ⟨cs', hc, ht⟩ := hi i (by omega)
      rw [cells25] at hc
      obtain ⟨_, hlen, hat⟩ := World.cells?_some hc
      obtain ⟨A, c, bs, e, rfl, hs, hb⟩ := rec_cells ht hlen (fun k hk => hw k (by
        rw [List.mem_cons, List.mem_append]
        exact .inr (.inl (weights_all (d := D i) (List.mem_map.2 ⟨i, List.mem_range.2 (by omega), rfl⟩) k hk))))
      exact ⟨⟨A, c, bs, e⟩, by rw [hat 0 (by omega)]; rfl, by rw [hat 1 (by omega)]; rfl, hs, hb⟩
    have pick : ∀ m, m ≤ n0 → ∃ l : List Rc, l.length = m ∧ ∀ i (h : i < l.length), w.cell? ((a.add (i * 2)).add 0) = some (.slice l[i].A l[i].bs.length l[i].c) ∧ w.cell? ((a.add (i * 2)).add 1) = some (.bool l[i].e) ∧ SlB w w.heap.size l[i].A l[i].c l[i].bs ∧ l[i].bs.length ≤ reachBytes := by
      intro m
      induction m with
      | zero => exact fun _ => ⟨[], rfl, fun i h => by simp at h⟩
      | succ m ih =>
        intro hm'
        obtain ⟨l, hll, hl'⟩ := ih (by omega)
        obtain ⟨f, hf'⟩ := each m (by omega)
        refine ⟨l ++ [f], by simp [hll], fun i hil => ?_⟩
        by_cases him : i < l.length
        · rw [List.getElem_append_left him]
          exact hl' i him
        · have hil' : i = m := by simp at hil; omega
          subst hil'
          rw [List.getElem_append_right (by omega)]
          simpa [hll] using hf'
    obtain ⟨l, hll, hl'⟩ := pick n0 (Nat.le_refl _)
    subst hll
    refine ⟨some a, _, l, rfl, ⟨hl, hm, (fun e => by cases e), fun hne => ?_, fun r hr => ?_⟩, ?_, fun r hr => ?_⟩
    · have h0 : 0 < l.length := by
        rcases Nat.eq_zero_or_pos l.length with h | h
        · rw [List.eq_nil_of_length_eq_zero h] at hne
          exact absurd rfl hne
        · exact h
      obtain ⟨b, o, s⟩ := a
      obtain ⟨hc0, _⟩ := hl' 0 h0
      have hs : s = none := by simpa [Addr.add] using World.cell?_spot hc0
      subst hs
      refine ⟨b, o, rfl, by simpa [Addr.add] using World.block_lt_of_cell? w _ hc0, fun j u hj => ?_⟩
      have hjl : j < l.length * 2 := by
        have := (List.getElem?_eq_some_iff.1 hj).1
        rwa [rcV_len] at this
      obtain ⟨i, hij⟩ : ∃ i, j = i * 2 ∨ j = i * 2 + 1 := ⟨j / 2, by omega⟩
      have hil : i < l.length := by omega
      have hr : l[i]? = some l[i] := List.getElem?_eq_getElem hil
      obtain ⟨r1, r2⟩ := rcV_at hr
      obtain ⟨c1, c2, _⟩ := hl' i hil
      rw [Addr.add_lit, Addr.add_lit] at c1 c2
      rcases hij with e | e
      · subst e
        rw [r1] at hj
        injection hj with hj
        subst hj
        exact c1
      · subst e
        rw [r2] at hj
        injection hj with hj
        subst hj
        exact c2
    · obtain ⟨i, hi2, rfl⟩ := List.mem_iff_getElem.1 hr
      exact (hl' i hi2).2.2.1
    · have := hw _ List.mem_cons_self
      rw [bytes25] at this
      simp only [List.length_map, List.length_range] at this
      omega
    · obtain ⟨i, hi2, rfl⟩ := List.mem_iff_getElem.1 hr
      exact (hl' i hi2).2.2.2
theorem rec_open {v : Value} {d : DataW H} {p : List MemPlace} (h : DataW.Trod enc Try.prog w base (fun _ => true) held 25 v d p) (hv : ∃ cs : Array Value, v = .agg cs ∧ cs.size = Try.prog.cellsOf 25) (hw : ∀ k ∈ d.weights Try.prog 25, k ≤ reachBytes) :
    ∃ A c bs e, v = .agg #[.slice A bs.length c, .bool e] ∧ SlB w w.heap.size A c bs ∧ bs.length ≤ reachBytes := by
  obtain ⟨fuel, hf⟩ := h
  obtain ⟨cs, rfl, hsz⟩ := hv
  rw [cells25] at hsz
  have hcs : (Value.agg cs).cells.toList = cs.toList := rfl
  rw [hcs] at hf
  obtain ⟨A, c, bs, e, he, hs, hb⟩ := rec_cells hf (by simpa using hsz) hw
  refine ⟨A, c, bs, e, ?_, hs, hb⟩
  congr 1
  rw [← Array.toList_inj, he]
theorem u8_open {v : Value} {d : DataW H} {p : List MemPlace} {spare : Nat → Bool} (h : DataW.Trod enc Try.prog w base spare held 5 v d p) (hv : ∃ z, v = .int .u8 z) : ∃ n : Nat, v = .int .u8 (n : Int) ∧ n < 256 := by
  obtain ⟨fuel, hf⟩ := h
  obtain ⟨z, rfl⟩ := hv
  obtain ⟨k0, e0, _, hw⟩ := DataW.trod_int Try.underlying5 hf
  simp only [Value.cells, List.cons.injEq, and_true] at e0
  injection e0 with _ e0
  subst e0
  have hb := bounds_u8 hw
  refine ⟨z.toNat, ?_, by omega⟩
  rw [show ((z.toNat : Nat) : Int) = z by omega]
end
theorem reach_is : reachBytes = 140737488351232 := by decide
end Go.Proofs.Ytjncahcigbdbgab
