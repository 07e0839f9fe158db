import Derived.Test.YtdcohhfbifiemaaKS
import Derived.ProofKit
import Derived.OpenShut
import Derived.SliceStrings
import Derived.Deep.Slices
import Derived.Deep.Fields
import Derived.Deep.DeepHandedRow
import Derived.Lib.LaidTab
import Derived.SizedLaws
namespace Go.Proofs.Ytdcohhfbifiemaa
open Go.ChangeShapes Go.WideShapes Go.ChangeAt Go.RowKit Go.Deep

theorem cells3 : Try.prog.cellsOf 3 = 1 := by kernel_rfl
theorem cells2 : Try.prog.cellsOf 2 = 1 := by kernel_rfl
theorem cells31 : Try.prog.cellsOf 31 = 3 := by kernel_rfl
/-- A step: its kind, its id, its time. -/
abbrev OpV := Int × Int × Int
/-- A slice of steps. -/
def OpsV (w : World) (B : Nat) (A : Option Addr) (l : List OpV) : Prop :=
  l ≠ [] → ∃ b o, A = some ⟨b, o, none⟩ ∧ b < B ∧ ∀ k (h : k < l.length), w.cell? ⟨b, o + k * 3, none⟩ = some (.int .i64 l[k].1) ∧ w.cell? ⟨b, o + k * 3 + 1, none⟩ = some (.int .i64 l[k].2.1) ∧ w.cell? ⟨b, o + k * 3 + 2, none⟩ = some (.int .i64 l[k].2.2)
theorem OpsV.below {w w' : World} {B : Nat} {A : Option Addr} {l : List OpV} (h : OpsV w B A l) (hb : Below B w w') : OpsV w' B A l := fun hn => by
  obtain ⟨b, o, e, hlt, hk⟩ := h hn
  refine ⟨b, o, e, hlt, fun k hkl => ?_⟩
  obtain ⟨h1, h2, h3⟩ := hk k hkl
  exact ⟨(hb.cell (p := ⟨b, _, none⟩) hlt).trans h1, (hb.cell (p := ⟨b, _, none⟩) hlt).trans h2, (hb.cell (p := ⟨b, _, none⟩) hlt).trans h3⟩
def okO (l : List OpV) : Prop := ∀ o ∈ l, okI o.2.1 ∧ okI o.2.2
section
variable {H : Type} {enc : TypeId × Value → H} {w : World} {base : Nat} {spare : Nat → Bool} {held : Bool}
/-- A slice of numbers among what came in (type 37). -/
theorem ints37_open {v : Value} {d : DataW H} {p : List MemPlace} (h : DataW.Trod enc Try.prog w base spare held 37 v d p) (hv : ∃ a n c, v = .slice a n c) :
    ∃ A c l, v = .slice A l.length c ∧ l.length ≤ c ∧ c ≤ maxLen ∧ Lies w w.heap.size A (iv l) ∧ ∀ x ∈ l, okI x := by
  obtain ⟨fuel, hf⟩ := h
  obtain ⟨A0, n0, c0, rfl⟩ := hv
  rcases open_ints Try.underlying37 Try.underlying3 cells3 hf with ⟨hcs, _⟩ | ⟨a, len, cap, zs, hcs, _, hl, hm, hz, _, hcell, hwz⟩
  · simp only [Value.cells, List.cons.injEq, and_true] at hcs
    injection hcs with e1 e2 e3
    subst e1; subst e2; subst e3
    exact ⟨none, 0, [], rfl, Nat.le_refl _, Nat.zero_le _, Lies.nil_, by simp⟩
  · have hcs' : Value.slice A0 n0 c0 = .slice (some a) len cap := by simpa [Value.cells] using hcs
    injection hcs' with e1 e2 e3
    subst e1; subst e2; subst e3
    have hzl : n0 ≤ zs.length := by rw [hz]; split <;> omega
    refine ⟨some a, c0, zs.take n0, ?_, ?_, hm, ?_, fun x hx => hwz x (List.mem_of_mem_take hx)⟩
    · simp [Nat.min_eq_left hzl]
    · simp [Nat.min_eq_left hzl]; exact hl
    · intro hne
      have h0 : 0 < zs.length := by
        rcases Nat.eq_zero_or_pos zs.length with h | h
        · exfalso; apply hne; simp [iv, List.eq_nil_of_length_eq_zero h]
        · exact h
      have hb : a.block < w.heap.size := by
        have := World.block_lt_of_cell? w _ (hcell 0 h0)
        simpa [Addr.add] using this
      refine Lies.of_add hb (fun j u hu => ?_) hne
      have hj : j < n0 ∧ j < zs.length := by
        have := (List.getElem?_eq_some_iff.1 hu).1
        simp [iv] at this; omega
      rw [hcell j hj.2]
      simp only [iv, List.getElem?_map, List.getElem?_take, hj.1, if_true, List.getElem?_eq_getElem hj.2, Option.map_some] at hu
      rw [← hu]
      simp [List.getD, List.getElem?_eq_getElem hj.2]
/-- A slice of numbers among what came in (type 47). -/
theorem ints47_open {v : Value} {d : DataW H} {p : List MemPlace} (h : DataW.Trod enc Try.prog w base spare held 47 v d p) (hv : ∃ a n c, v = .slice a n c) :
    ∃ A c l, v = .slice A l.length c ∧ l.length ≤ c ∧ c ≤ maxLen ∧ Lies w w.heap.size A (iv l) ∧ ∀ x ∈ l, okI x := by
  obtain ⟨fuel, hf⟩ := h
  obtain ⟨A0, n0, c0, rfl⟩ := hv
  rcases open_ints Try.underlying47 Try.underlying2 cells2 hf with ⟨hcs, _⟩ | ⟨a, len, cap, zs, hcs, _, hl, hm, hz, _, hcell, hwz⟩
  · simp only [Value.cells, List.cons.injEq, and_true] at hcs
    injection hcs with e1 e2 e3
    subst e1; subst e2; subst e3
    exact ⟨none, 0, [], rfl, Nat.le_refl _, Nat.zero_le _, Lies.nil_, by simp⟩
  · have hcs' : Value.slice A0 n0 c0 = .slice (some a) len cap := by simpa [Value.cells] using hcs
    injection hcs' with e1 e2 e3
    subst e1; subst e2; subst e3
    have hzl : n0 ≤ zs.length := by rw [hz]; split <;> omega
    refine ⟨some a, c0, zs.take n0, ?_, ?_, hm, ?_, fun x hx => hwz x (List.mem_of_mem_take hx)⟩
    · simp [Nat.min_eq_left hzl]
    · simp [Nat.min_eq_left hzl]; exact hl
    · intro hne
      have h0 : 0 < zs.length := by
        rcases Nat.eq_zero_or_pos zs.length with h | h
        · exfalso; apply hne; simp [iv, List.eq_nil_of_length_eq_zero h]
        · exact h
      have hb : a.block < w.heap.size := by
        have := World.block_lt_of_cell? w _ (hcell 0 h0)
        simpa [Addr.add] using this
      refine Lies.of_add hb (fun j u hu => ?_) hne
      have hj : j < n0 ∧ j < zs.length := by
        have := (List.getElem?_eq_some_iff.1 hu).1
        simp [iv] at this; omega
      rw [hcell j hj.2]
      simp only [iv, List.getElem?_map, List.getElem?_take, hj.1, if_true, List.getElem?_eq_getElem hj.2, Option.map_some] at hu
      rw [← hu]
      simp [List.getD, List.getElem?_eq_getElem hj.2]
theorem int_open {t : TypeId} (ht : Try.prog.underlying t = some (.int .i64)) {v : Value} {d : DataW H} {p : List MemPlace} (h : DataW.Trod enc Try.prog w base spare held t v d p) (hv : ∃ z, v = .int .i64 z) : ∃ a, v = .int .i64 a ∧ okI a := by
  obtain ⟨fuel, hf⟩ := h
  obtain ⟨z, rfl⟩ := hv
  obtain ⟨k0, e0, _, hw⟩ := DataW.trod_int ht hf
  simp only [Value.cells, List.cons.injEq, and_true] at e0
  injection e0 with _ e0
  subst e0
  exact ⟨_, rfl, hw⟩
set_option maxRecDepth 100000 in
theorem op_open {fuel : Nat} {cs : List Value} {x : DataW H × List MemPlace} (h : DataW.trod enc Try.prog w base spare held fuel 31 cs = some x) :
    ∃ (o : OpV), cs = [.int .i64 o.1, .int .i64 o.2.1, .int .i64 o.2.2] ∧ okI o.2.1 ∧ okI o.2.2 := by
  obtain ⟨xs, n, _, _, hlen, hxl, hf⟩ := DataW.trod_struct Try.underlying31 h
  rw [cells31] at hlen
  match cs, hlen with
  | [v0, v1, v2], _ =>
    have h0 : DataW.trod enc Try.prog w base spare held n 3 (([v0, v1, v2].drop 0).take (Try.prog.cellsOf 3)) = xs[0]? := hf 0 _ rfl
    have h1 : DataW.trod enc Try.prog w base spare held n 3 (([v0, v1, v2].drop 1).take (Try.prog.cellsOf 3)) = xs[1]? := hf 1 _ rfl
    have h2 : DataW.trod enc Try.prog w base spare held n 2 (([v0, v1, v2].drop 2).take (Try.prog.cellsOf 2)) = xs[2]? := hf 2 _ rfl
    rw [cells3] at h0 h1
    rw [cells2] at h2
    match xs, hxl with
    | [y0, y1, y2], _ =>
      have h0 : DataW.trod enc Try.prog w base spare held n 3 [v0] = some y0 := h0
      have h1 : DataW.trod enc Try.prog w base spare held n 3 [v1] = some y1 := h1
      have h2 : DataW.trod enc Try.prog w base spare held n 2 [v2] = some y2 := h2
      obtain ⟨k0, e0, _, _⟩ := DataW.trod_int Try.underlying3 h0
      obtain ⟨k1, e1, _, w1⟩ := DataW.trod_int Try.underlying3 h1
      obtain ⟨k2, e2, _, w2⟩ := DataW.trod_int Try.underlying2 h2
      simp only [List.cons.injEq, and_true] at e0 e1 e2
      subst e0; subst e1; subst e2
      exact ⟨(k0, k1, k2), rfl, w1, w2⟩
set_option maxRecDepth 100000 in
/-- A slice of steps that came in. -/
theorem ops_open {v : Value} {d : DataW H} {p : List MemPlace} (h : DataW.Trod enc Try.prog w base (fun _ => true) held 22 v d p) (hv : ∃ a n c, v = .slice a n c) :
    ∃ A c l, v = .slice A l.length c ∧ l.length ≤ c ∧ c ≤ maxLen ∧ OpsV w w.heap.size A l ∧ okO l := by
  obtain ⟨fuel, hf⟩ := h
  obtain ⟨A0, n0, c0, rfl⟩ := hv
  rcases open_slice Try.underlying22 hf with ⟨hcs, _⟩ | ⟨a, len, cap, m, n, D, Pl, hcs, _, hl, hm, hmm, _, hi⟩
  · simp only [Value.cells, List.cons.injEq, and_true] at hcs
    injection hcs with e1 e2 e3
    subst e1; subst e2; subst e3
    exact ⟨none, 0, [], rfl, Nat.le_refl _, Nat.zero_le _, fun h => absurd rfl h, fun o ho => by cases ho⟩
  · have hcs' : Value.slice A0 n0 c0 = .slice (some a) len cap := by simpa [Value.cells] using hcs
    injection hcs' with e1 e2 e3
    subst e1; subst e2; subst e3
    simp only [if_true] at hmm
    subst hmm
    have each : ∀ i, i < n0 → ∃ (f : OpV), (okI f.2.1 ∧ okI f.2.2) ∧ w.cell? (a.add (i * 3)) = some (.int .i64 f.1) ∧ w.cell? ((a.add (i * 3)).add 1) = some (.int .i64 f.2.1) ∧ w.cell? ((a.add (i * 3)).add 2) = some (.int .i64 f.2.2) := by
      intro i hin
      obtain ⟨cs', hc, ht⟩ := hi i (by omega)
      rw [cells31] at hc
      obtain ⟨_, _, hat⟩ := World.cells?_some hc
      obtain ⟨f, rfl, hw1, hw2⟩ := op_open ht
      refine ⟨f, ⟨hw1, hw2⟩, ?_, hat 1 (by omega), hat 2 (by omega)⟩
      have := hat 0 (by omega)
      rwa [show (a.add (i * 3)).add 0 = a.add (i * 3) from by simp [Addr.add]] at this
    have pick : ∀ m, m ≤ n0 → ∃ l : List OpV, l.length = m ∧ okO l ∧ ∀ i (h : i < l.length), w.cell? (a.add (i * 3)) = some (.int .i64 l[i].1) ∧ w.cell? ((a.add (i * 3)).add 1) = some (.int .i64 l[i].2.1) ∧ w.cell? ((a.add (i * 3)).add 2) = some (.int .i64 l[i].2.2) := by
      intro m
      induction m with
      | zero => exact fun _ => ⟨[], rfl, (fun o ho => absurd ho (by simp)), (fun i h => absurd h (by simp))⟩
      | succ m ih =>
        intro hm'
        obtain ⟨l, hll, hok, hl'⟩ := ih (by omega)
        obtain ⟨f, hw, hf'⟩ := each m (by omega)
        refine ⟨l ++ [f], by simp [hll], fun o ho => ?_, fun i hil => ?_⟩
        · rcases List.mem_append.1 ho with h | h
          · exact hok o h
          · simp at h
            subst h
            exact hw
        by_cases him : i < l.length
        · rw [List.getElem_append_left him]
          exact hl' i him
        · have hil' : i = m := by simp at hil; omega
          subst hil'
          rw [List.getElem_append_right (by omega)]
          simpa [hll] using hf'
    obtain ⟨l, hll, hok, hl'⟩ := pick n0 (Nat.le_refl _)
    subst hll
    refine ⟨some a, _, l, rfl, hl, hm, fun hne => ?_, hok⟩
    have h0 : 0 < l.length := List.length_pos_iff.2 hne
    obtain ⟨b, o, s⟩ := a
    obtain ⟨hc0, _⟩ := hl' 0 h0
    have hs : s = none := by simpa [Addr.add] using World.cell?_spot hc0
    subst hs
    have hb : b < w.heap.size := by
      have := World.block_lt_of_cell? w _ hc0
      simpa [Addr.add] using this
    refine ⟨b, o, rfl, hb, fun k hk => ?_⟩
    obtain ⟨q1, q2, q3⟩ := hl' k hk
    simp only [Addr.add_lit] at q1 q2 q3
    exact ⟨q1, q2, q3⟩
end

theorem ownK : ownKnob Try.prog.godebug = none := by kernel_rfl
theorem laidOutK : laidOutB Try.prog = true := by kernel_rfl
/-- What came in reads as it did, where nothing that was there has turned. -/
theorem trodAll_below {H : Type} {enc : TypeId × Value → H} {P : Program} (hl : laidOutB P = true) {W W' : World} (hb : Below W.heap.size W W') : ∀ (ts : List TypeId) (vs : List Value) (ds : List (DataW H)) (ps : List MemPlace),
    (∀ t ∈ ts, P.readableRec t = true ∧ t < P.types.size) → DataW.TrodAll enc P W 0 (fun _ => true) true ts vs ds ps → (∀ x ∈ ps, x.block < W.heap.size) →
    DataW.TrodAll enc P W' 0 (fun b => decide (b < W.heap.size)) true ts vs ds ps
  | [], vs, ds, ps, _, h, _ => by
    obtain ⟨rfl, rfl, rfl⟩ := trodAll_nil h
    exact trodAll_mk0
  | t :: ts, vs, ds, ps, hr, h, hlt => by
    obtain ⟨v0, vs0, d0, ds0, p0, q0, rfl, rfl, rfl, h0, r0⟩ := trodAll_cons h
    obtain ⟨h1, h2⟩ := hr t (by simp)
    exact trodAll_cons_mk (Below.trod hl h1 h2 h0 hb (fun x hx => hlt x (by simp [hx]))) (trodAll_below hl hb ts vs0 ds0 q0 (fun t ht => hr t (by simp [ht])) r0 (fun x hx => hlt x (by simp [hx])))
/-- A law has returned true, and nothing that was there has turned: what its row asks. -/
theorem law_post {H : Type} {enc : TypeId × Value → H} {P : Program} (hl : laidOutB P = true) {fn : Func} {s : ChangeSpec} {W W' : World} {args : Array Value} {ds : List (DataW H)} {p : List MemPlace}
    (h4 : P.underlying 4 = some .bool) (hres : fn.resultTypes = #[4]) (hvars : s.vars = []) (hparams : ∀ t ∈ fn.params.toList, P.readableRec t = true ∧ t < P.types.size)
    (hspec : (s.fn H (ds ++ [])).results = [.lit (.bool true)] ∧ (s.fn H (ds ++ [])).args = ds ∧ (s.fn H (ds ++ [])).vars = [])
    (hW : DataW.Whole enc P fn.params.toList s.vars false W args.toList ds [] p) (hA : DataW.TrodAll enc P W 0 (fun _ => true) true fn.params.toList args.toList ds p) (hb : Below W.heap.size W W') :
    s.post enc P fn false true false false W args (.bool true) W' := by
  refine ⟨ds, [], p, [], p, [], hW, ?_, ?_, ?_, hb.frame _, fun h => by cases h⟩
  · rw [hspec.1, hres]
    exact trodAll_mk1 (shut_bool h4 true)
  · rw [hspec.2.1]
    exact trodAll_below hl hb _ _ _ _ hparams hA (fun x hx => hW.lt x hx)
  · rw [hspec.2.2, hvars]
    rfl
noncomputable def startWorld (os : Os) : World := World.holding Try.prog os ⟨#[], #[], []⟩
end Go.Proofs.Ytdcohhfbifiemaa
