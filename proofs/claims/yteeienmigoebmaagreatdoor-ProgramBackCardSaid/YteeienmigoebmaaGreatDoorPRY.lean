import Derived.Test.YteeienmigoebmaaGreatDoorPRG
import Derived.Test.YteeienmigoebmaaGreatDoorRows
import Derived.ProofKit
import Derived.OpenShut
import Derived.SliceStrings
import Derived.Deep.Slices
import Derived.Deep.Fields
import Derived.Deep.Strs
import Derived.Deep.DeepHandedRow
import Derived.Lib.LaidTab
import Derived.SizedLaws
namespace Go.Proofs.YteeienmigoebmaaGreatDoor
namespace L19
open Go.ChangeShapes Go.WideShapes Go.ChangeAt Go.RowKit Go.Deep L18

/-! Layer 19: programs that came in. -/
theorem cells3 : Tryz.prog.cellsOf 3 = 1 := by kernel_rfl
theorem cells9 : Tryz.prog.cellsOf 9 = 1 := by kernel_rfl
theorem cellsOp : Tryz.prog.cellsOf 53 = 4 := by kernel_rfl
theorem cellsPr : Tryz.prog.cellsOf 51 = 2 := by kernel_rfl
theorem cellsOs : Tryz.prog.cellsOf 49 = 1 := by kernel_rfl
theorem bytesOp : Tryz.prog.bytesOf 53 = 40 := by kernel_rfl
theorem bytesPr : Tryz.prog.bytesOf 51 = 40 := by kernel_rfl
theorem reach_is : reachBytes = 140737488351232 := by decide
theorem weights_all {H : Type} {P : Program} {t : TypeId} : ∀ {ds : List (DataW H)} {d : DataW H}, d ∈ ds → ∀ n ∈ d.weights P t, n ∈ DataW.weightsAll P t ds
  | [], _, h, _, _ => by cases h
  | x :: r, d, h, n, hn => by
    rw [DataW.weightsAll, List.mem_append]
    rcases List.mem_cons.1 h with rfl | h
    · exact .inl hn
    · exact .inr (weights_all h n hn)
theorem pickL {α : Type} {P : Nat → α → Prop} : ∀ n, (∀ i, i < n → ∃ r, P i r) → ∃ l : List α, l.length = n ∧ ∀ i (h : i < l.length), P i l[i]
  | 0, _ => ⟨[], rfl, fun i h => by simp at h⟩
  | n + 1, h => by
    obtain ⟨l, hl, hp⟩ := pickL n fun i hi => h i (by omega)
    obtain ⟨r, hr⟩ := h n (by omega)
    refine ⟨l ++ [r], by simp [hl], fun i hi => ?_⟩
    by_cases e : i < l.length
    · rw [List.getElem_append_left e]
      exact hp i e
    · have e2 : i = n := by simp at hi; omega
      subst e2
      rw [List.getElem_append_right (by omega)]
      simpa [hl] using hr
section
variable {H : Type} {enc : TypeId × Value → H} {w : World} {base : Nat} {held : Bool}
theorem lies_of {α : Type} (f : α → List Value) {s : Nat} (hs : 0 < s) (hf : ∀ x, (f x).length = s) {a : Addr} {l : List α} (h : ∀ i (hi : i < l.length) j, j < s → w.cell? ((a.add (i * s)).add j) = (f l[i])[j]?) : Lies w w.heap.size (some a) (l.flatMap f) := by
  intro hne
  have h0 : 0 < l.length := by
    rcases Nat.eq_zero_or_pos l.length with e | e
    · rw [List.eq_nil_of_length_eq_zero e] at hne
      exact absurd rfl hne
    · exact e
  obtain ⟨b, o, sp⟩ := a
  have hc0 := h 0 h0 0 hs
  obtain ⟨v0, hv0⟩ : ∃ v, (f l[0])[0]? = some v := ⟨_, List.getElem?_eq_getElem (by rw [hf l[0]]; exact hs)⟩
  rw [hv0] at hc0
  have hsp : sp = none := by simpa [Addr.add] using World.cell?_spot hc0
  subst hsp
  refine ⟨b, o, rfl, by simpa [Addr.add] using World.block_lt_of_cell? w _ hc0, fun j u hj => ?_⟩
  have hjl : j < l.length * s := by
    have := (List.getElem?_eq_some_iff.1 hj).1
    rwa [flatU_len f s hf] at this
  have hi : j / s < l.length := Nat.div_lt_of_lt_mul (by rw [Nat.mul_comm]; exact hjl)
  have hr : j % s < s := Nat.mod_lt _ hs
  have e : j / s * s + j % s = j := by rw [Nat.mul_comm]; exact Nat.div_add_mod j s
  have hx := flatU f s hf l (j / s) l[j / s] (List.getElem?_eq_getElem hi) (j % s) hr
  rw [e, hj] at hx
  have hc := h (j / s) hi (j % s) hr
  rw [← hx, Addr.add_lit, Addr.add_lit] at hc
  rw [← hc]
  congr 2
  omega
set_option maxRecDepth 100000 in
theorem op_cells {spare : Nat → Bool} {fuel : Nat} {cs : List Value} {x : DataW H × List MemPlace} (h : DataW.trod enc Tryz.prog w base spare held fuel 53 cs = some x) (hlen : cs.length = 4) : ∃ o : OpV, cs = opC o := by
  obtain ⟨xs, n, _, hx, _, hxl, hf⟩ := DataW.trod_struct Tryz.underlying53 h
  match cs, hlen with
  | [v0, v1, v2, v3], _ =>
    have h0 : DataW.trod enc Tryz.prog w base spare held n 3 (([v0, v1, v2, v3].drop 0).take (Tryz.prog.cellsOf 3)) = xs[0]? := hf 0 _ rfl
    have h1 : DataW.trod enc Tryz.prog w base spare held n 3 (([v0, v1, v2, v3].drop 1).take (Tryz.prog.cellsOf 3)) = xs[1]? := hf 1 _ rfl
    have h2 : DataW.trod enc Tryz.prog w base spare held n 3 (([v0, v1, v2, v3].drop 2).take (Tryz.prog.cellsOf 3)) = xs[2]? := hf 2 _ rfl
    have h3 : DataW.trod enc Tryz.prog w base spare held n 9 (([v0, v1, v2, v3].drop 3).take (Tryz.prog.cellsOf 9)) = xs[3]? := hf 3 _ rfl
    rw [cells3] at h0 h1 h2
    rw [cells9] at h3
    match xs, hxl with
    | [y0, y1, y2, y3], _ =>
      have h0 : DataW.trod enc Tryz.prog w base spare held n 3 [v0] = some y0 := h0
      have h1 : DataW.trod enc Tryz.prog w base spare held n 3 [v1] = some y1 := h1
      have h2 : DataW.trod enc Tryz.prog w base spare held n 3 [v2] = some y2 := h2
      have h3 : DataW.trod enc Tryz.prog w base spare held n 9 [v3] = some y3 := h3
      obtain ⟨k0, e0, _, _⟩ := DataW.trod_int Tryz.underlying3 h0
      obtain ⟨k1, e1, _, _⟩ := DataW.trod_int Tryz.underlying3 h1
      obtain ⟨k2, e2, _, _⟩ := DataW.trod_int Tryz.underlying3 h2
      obtain ⟨s, e3, _, _⟩ := DataW.trod_string Tryz.underlying9 h3
      simp only [List.cons.injEq, and_true] at e0 e1 e2 e3
      subst e0; subst e1; subst e2; subst e3
      exact ⟨(k0, k1, k2, s.data.toList), rfl⟩
theorem ops_cells {fuel : Nat} {cs : List Value} {x : DataW H × List MemPlace} (h : DataW.trod enc Tryz.prog w base (fun _ => true) held fuel 49 cs = some x) (hw : ∀ k ∈ x.1.weights Tryz.prog 49, k ≤ reachBytes) :
    ∃ A c l, cs = [.slice A l.length c] ∧ OpsM w w.heap.size A c l ∧ l.length * 40 ≤ reachBytes := by
  rcases open_slice Tryz.underlying49 h with ⟨hcs, _⟩ | ⟨a, len, cap, m, n, D, Pl, hcs, _, hl, hm, hmm, hx, hi⟩
  · exact ⟨none, 0, [], hcs, ⟨Nat.le_refl _, Nat.zero_le _, fun _ => rfl, Lies.nil_⟩, Nat.zero_le _⟩
  · simp only [if_true] at hmm
    subst hmm
    subst hx
    simp only [DataW.weights, Tryz.underlying49] at hw
    obtain ⟨l, hll, hp⟩ := pickL (P := fun i (o : OpV) => ∀ j, j < 4 → w.cell? ((a.add (i * 4)).add j) = (opC o)[j]?) len (fun i hin => by
      obtain ⟨cs', hc, ht⟩ := hi i (by omega)
      rw [cellsOp] at hc
      obtain ⟨_, hlen, hat⟩ := World.cells?_some hc
      obtain ⟨o, rfl⟩ := op_cells ht hlen
      exact ⟨o, fun j hj => hat j (by omega)⟩)
    subst hll
    refine ⟨some a, _, l, hcs, ⟨hl, hm, (fun e => by cases e), lies_of opC (by decide) (fun _ => rfl) hp⟩, ?_⟩
    have := hw _ List.mem_cons_self
    rw [bytesOp] at this
    simp only [List.length_map, List.length_range] at this
    omega
set_option maxRecDepth 100000 in
theorem prog_cells {fuel : Nat} {cs : List Value} {x : DataW H × List MemPlace} (h : DataW.trod enc Tryz.prog w base (fun _ => true) held fuel 51 cs = some x) (hlen : cs.length = 2) (hw : ∀ k ∈ x.1.weights Tryz.prog 51, k ≤ reachBytes) :
    ∃ y : PgX, cs = pgX y ∧ OpsM w w.heap.size y.2.1 y.2.2 y.1.2 ∧ y.1.2.length * 40 ≤ reachBytes := by
  obtain ⟨xs, n, _, hx, _, hxl, hf⟩ := DataW.trod_struct Tryz.underlying51 h
  match cs, hlen with
  | [v0, v1], _ =>
    have h0 : DataW.trod enc Tryz.prog w base (fun _ => true) held n 9 (([v0, v1].drop 0).take (Tryz.prog.cellsOf 9)) = xs[0]? := hf 0 _ rfl
    have h1 : DataW.trod enc Tryz.prog w base (fun _ => true) held n 49 (([v0, v1].drop 1).take (Tryz.prog.cellsOf 49)) = xs[1]? := hf 1 _ rfl
    rw [cells9] at h0
    rw [cellsOs] at h1
    match xs, hxl with
    | [y0, y1], _ =>
      have h0 : DataW.trod enc Tryz.prog w base (fun _ => true) held n 9 [v0] = some y0 := h0
      have h1 : DataW.trod enc Tryz.prog w base (fun _ => true) held n 49 [v1] = some y1 := h1
      obtain ⟨s, e0, _, _⟩ := DataW.trod_string Tryz.underlying9 h0
      subst hx
      simp only [DataW.weights, Tryz.underlying51] at hw
      obtain ⟨A, c, l, e1, hs, hb⟩ := ops_cells h1 fun k hk => hw k (DataW.weights_mem_each (j := 1) (t := 49) rfl rfl k hk)
      simp only [List.cons.injEq, and_true] at e0 e1
      subst e0; subst e1
      exact ⟨((s.data.toList, l), A, c), rfl, hs, hb⟩
theorem progs_open {v : Value} {d : DataW H} {p : List MemPlace} (h : DataW.Trod enc Tryz.prog w base (fun _ => true) held 22 v d p) (hv : ∃ a n c, v = .slice a n c) (hw : ∀ k ∈ d.weights Tryz.prog 22, k ≤ reachBytes) :
    ∃ A c X, v = .slice A X.length c ∧ Hid (PgM w w.heap.size A c X) ∧ Hid (FitX X) := by
  obtain ⟨fuel, hf⟩ := h
  obtain ⟨A0, n0, c0, rfl⟩ := hv
  rcases open_slice Tryz.underlying22 hf with ⟨hcs, _⟩ | ⟨a, len, cap, m, n, D, Pl, hcs, _, hl, hm, hmm, hx, hi⟩
  · simp only [Value.cells, List.cons.injEq, and_true] at hcs
    injection hcs with e1 e2 e3
    subst e1; subst e2; subst e3
    exact ⟨none, 0, [], rfl, hid ⟨Nat.le_refl _, Nat.zero_le _, fun _ => rfl, Lies.nil_, fun x hx => by cases hx⟩, hid ⟨by simp, fun x hx => by cases hx⟩⟩
  · have hcs' : Value.slice A0 n0 c0 = .slice (some a) len cap := by simpa [Value.cells] using hcs
    injection hcs' with e1 e2 e3
    subst e1; subst e2; subst e3
    simp only [if_true] at hmm
    subst hmm
    injection hx with hd _
    subst hd
    simp only [DataW.weights, Tryz.underlying22] at hw
    obtain ⟨l, hll, hp⟩ := pickL (P := fun i (y : PgX) => (∀ j, j < 2 → w.cell? ((a.add (i * 2)).add j) = (pgX y)[j]?) ∧ OpsM w w.heap.size y.2.1 y.2.2 y.1.2 ∧ y.1.2.length * 40 ≤ reachBytes) n0 (fun i hin => by
      obtain ⟨cs', hc, ht⟩ := hi i (by omega)
      rw [cellsPr] at hc
      obtain ⟨_, hlen, hat⟩ := World.cells?_some hc
      obtain ⟨y, rfl, hs, hb⟩ := prog_cells ht hlen (fun k hk => hw k (by
        rw [List.mem_cons, List.mem_append]
        exact .inr (.inl (weights_all (d := D i) (List.mem_map.2 ⟨i, List.mem_range.2 (by omega), rfl⟩) k hk))))
      exact ⟨y, fun j hj => hat j (by omega), hs, hb⟩)
    subst hll
    refine ⟨some a, _, l, rfl, hid ⟨hl, hm, (fun e => by cases e), lies_of pgX (by decide) (fun _ => rfl) (fun i h => (hp i h).1), fun y hy => ?_⟩, hid ⟨?_, fun y hy => ?_⟩⟩
    · obtain ⟨i, h2, rfl⟩ := List.mem_iff_getElem.1 hy
      exact (hp i h2).2.1
    · have := hw _ List.mem_cons_self
      rw [bytesPr, reach_is] at this
      simp only [List.length_map, List.length_range] at this
      omega
    · obtain ⟨i, h2, rfl⟩ := List.mem_iff_getElem.1 hy
      have := (hp i h2).2.2
      rw [reach_is] at this
      exact this
theorem u8_open {v : Value} {d : DataW H} {p : List MemPlace} {spare : Nat → Bool} (h : DataW.Trod enc Tryz.prog w base spare held 5 v d p) (hv : ∃ z, v = .int .u8 z) : ∃ n : Nat, v = .int .u8 (n : Int) ∧ n < 256 := by
  obtain ⟨fuel, hf⟩ := h
  obtain ⟨z, rfl⟩ := hv
  obtain ⟨k0, e0, _, hw⟩ := DataW.trod_int Tryz.underlying5 hf
  simp only [Value.cells, List.cons.injEq, and_true] at e0
  injection e0 with _ e0
  subst e0
  have hb := bounds_u8 hw
  refine ⟨z.toNat, ?_, by omega⟩
  rw [show ((z.toNat : Nat) : Int) = z by omega]
end
end L19
end Go.Proofs.YteeienmigoebmaaGreatDoor
