import Derived.Test.YtibkbcffoabhfaaKI
import Derived.ProofKit
import Derived.OpenShut
import Derived.SliceStrings
import Derived.Deep.Slices
import Derived.Deep.Fields
import Derived.Deep.Grids
import Derived.Deep.DeepHandedRow
import Derived.Lib.LaidTab
import Derived.SizedLaws
namespace Go.Proofs.Ytibkbcffoabhfaa
open Go.ChangeShapes Go.WideShapes Go.ChangeAt Go.RowKit Go.Deep

theorem cells5 : Try.prog.cellsOf 5 = 1 := by kernel_rfl
theorem cells4 : Try.prog.cellsOf 4 = 1 := by kernel_rfl
theorem cells3 : Try.prog.cellsOf 3 = 1 := by kernel_rfl
theorem cells34 : Try.prog.cellsOf 34 = 1 := by kernel_rfl
theorem cells36 : Try.prog.cellsOf 36 = 2 := by kernel_rfl
theorem cells23 : Try.prog.cellsOf 23 = 4 := by kernel_rfl
theorem bytes5 : Try.prog.bytesOf 5 = 1 := by kernel_rfl
section
variable {H : Type} {enc : TypeId × Value → H} {w : World} {base : Nat} {spare : Nat → Bool} {held : Bool}

/-- A slice of bytes among what came in. -/
theorem bytes_open {fuel : Nat} {cs : List Value} {x : DataW H × List MemPlace} (h : DataW.trod enc Try.prog w base spare held fuel 34 cs = some x) :
    ∃ A c bs, cs = [.slice A bs.length c] ∧ bs.length ≤ c ∧ c ≤ maxLen ∧ (A = none → c = 0) ∧ Lies w w.heap.size A (bv bs) := by
  rcases open_ints Try.underlying34 Try.underlying5 cells5 h with ⟨rfl, _⟩ | ⟨a, len, cap, zs, rfl, _, hl, hm, hz, _, hcell, hwz⟩
  · exact ⟨none, 0, [], rfl, Nat.le_refl _, Nat.zero_le _, fun _ => rfl, Lies.nil_⟩
  · have hzl : len ≤ zs.length := by rw [hz]; split <;> omega
    refine ⟨some a, cap, (zs.take len).map fun z => UInt8.ofNat z.toNat, ?_, ?_, hm, by simp, ?_⟩
    · simp [Nat.min_eq_left hzl]
    · simp [Nat.min_eq_left hzl]; exact hl
    · intro hne
      have h0 : 0 < zs.length := by
        rcases Nat.eq_zero_or_pos zs.length with h | h
        · exfalso; apply hne; simp [bv, List.eq_nil_of_length_eq_zero h]
        · exact h
      have hb : a.block < w.heap.size := by
        have := World.block_lt_of_cell? w _ (hcell 0 h0)
        simpa [Addr.add] using this
      refine Lies.of_add hb (fun j u hu => ?_) hne
      have hj : j < len ∧ j < zs.length := by
        have := (List.getElem?_eq_some_iff.1 hu).1
        simp [bv] at this; omega
      rw [hcell j hj.2]
      have hw := hwz (zs[j]'hj.2) (List.getElem_mem _)
      have hr : 0 ≤ zs[j]'hj.2 ∧ zs[j]'hj.2 ≤ 255 := bounds_u8 hw
      simp only [bv, List.map_map, List.getElem?_map, List.getElem?_take, hj.1, if_true, List.getElem?_eq_getElem hj.2, Option.map_some, Function.comp] at hu
      rw [← hu]
      simp only [List.getD, List.getElem?_eq_getElem hj.2, Option.getD_some]
      congr 2
      simp
      omega
theorem slb_open {fuel : Nat} {cs : List Value} {x : DataW H × List MemPlace} (h : DataW.trod enc Try.prog w base spare held fuel 34 cs = some x) :
    ∃ A c bs, cs = [.slice A bs.length c] ∧ SlB w w.heap.size A c bs := by
  obtain ⟨A, c, bs, e, h1, h2, h3, h4⟩ := bytes_open h
  exact ⟨A, c, bs, e, h1, h2, h3, h4⟩
theorem sl_open {v : Value} {d : DataW H} {p : List MemPlace} (h : DataW.Trod enc Try.prog w base spare held 34 v d p) (hv : ∃ a n c, v = .slice a n c) :
    ∃ A c bs, v = .slice A bs.length c ∧ SlB w w.heap.size A c bs := by
  obtain ⟨fuel, hf⟩ := h
  obtain ⟨a, n, c0, rfl⟩ := hv
  obtain ⟨A, c, bs, e, hs⟩ := slb_open hf
  simp only [Value.cells, List.cons.injEq, and_true] at e
  exact ⟨A, c, bs, e, hs⟩

/-- How a queue is to be, among what came in. -/
theorem conf_open {v : Value} {d : DataW H} {p : List MemPlace} (h : DataW.Trod enc Try.prog w base spare held 23 v d p) (hv : ∃ cs : Array Value, v = .agg cs ∧ cs.size = Try.prog.cellsOf 23) :
    ∃ (b r hi lo : Int), v = .agg #[.int .i64 b, .int .i64 r, .int .i64 hi, .int .i64 lo] := by
  obtain ⟨fuel, hf⟩ := h
  obtain ⟨cs0, rfl, hsz⟩ := hv
  rw [cells23] at hsz
  obtain ⟨xs, n, _, _, hlen, hxl, hff⟩ := DataW.trod_struct Try.underlying23 hf
  obtain ⟨l⟩ := cs0
  match l, hsz with
  | [v0, v1, v2, v3], _ =>
    have h0 : DataW.trod enc Try.prog w base spare held n 3 (([v0, v1, v2, v3].drop 0).take (Try.prog.cellsOf 3)) = xs[0]? := hff 0 _ rfl
    have h1 : DataW.trod enc Try.prog w base spare held n 3 (([v0, v1, v2, v3].drop 1).take (Try.prog.cellsOf 3)) = xs[1]? := hff 1 _ rfl
    have h2 : DataW.trod enc Try.prog w base spare held n 3 (([v0, v1, v2, v3].drop 2).take (Try.prog.cellsOf 3)) = xs[2]? := hff 2 _ rfl
    have h3 : DataW.trod enc Try.prog w base spare held n 3 (([v0, v1, v2, v3].drop 3).take (Try.prog.cellsOf 3)) = xs[3]? := hff 3 _ rfl
    rw [cells3] at h0 h1 h2 h3
    match xs, hxl with
    | [y0, y1, y2, y3], _ =>
      have h0 : DataW.trod enc Try.prog w base spare held n 3 [v0] = some y0 := h0
      have h1 : DataW.trod enc Try.prog w base spare held n 3 [v1] = some y1 := h1
      have h2 : DataW.trod enc Try.prog w base spare held n 3 [v2] = some y2 := h2
      have h3 : DataW.trod enc Try.prog w base spare held n 3 [v3] = some y3 := h3
      obtain ⟨k0, e0, _, _⟩ := DataW.trod_int Try.underlying3 h0
      obtain ⟨k1, e1, _, _⟩ := DataW.trod_int Try.underlying3 h1
      obtain ⟨k2, e2, _, _⟩ := DataW.trod_int Try.underlying3 h2
      obtain ⟨k3, e3, _, _⟩ := DataW.trod_int Try.underlying3 h3
      simp only [List.cons.injEq, and_true] at e0 e1 e2 e3
      subst e0; subst e1; subst e2; subst e3
      exact ⟨k0, k1, k2, k3, rfl⟩

set_option maxRecDepth 100000 in
theorem op_open {fuel : Nat} {cs : List Value} {x : DataW H × List MemPlace} (h : DataW.trod enc Try.prog w base spare held fuel 36 cs = some x) :
    ∃ (o : OpV) (tA : Option Addr) (tc : Nat), cs = [.int .i64 o.1, .slice tA o.2.length tc] ∧ SlB w w.heap.size tA tc o.2 := by
  obtain ⟨xs, n, _, _, hlen, hxl, hf⟩ := DataW.trod_struct Try.underlying36 h
  rw [cells36] at hlen
  match cs, hlen with
  | [v0, v2], _ =>
    have h0 : DataW.trod enc Try.prog w base spare held n 3 (([v0, v2].drop 0).take (Try.prog.cellsOf 3)) = xs[0]? := hf 0 _ rfl
    have h2 : DataW.trod enc Try.prog w base spare held n 34 (([v0, v2].drop 1).take (Try.prog.cellsOf 34)) = xs[1]? := hf 1 _ rfl
    rw [cells3] at h0
    rw [cells34] at h2
    match xs, hxl with
    | [y0, y2], _ =>
      have h0 : DataW.trod enc Try.prog w base spare held n 3 [v0] = some y0 := h0
      have h2 : DataW.trod enc Try.prog w base spare held n 34 [v2] = some y2 := h2
      obtain ⟨k0, e0, _, _⟩ := DataW.trod_int Try.underlying3 h0
      obtain ⟨A, c, bs, e2, hs⟩ := slb_open h2
      simp only [List.cons.injEq, and_true] at e0 e2
      subst e0; subst e2
      exact ⟨(k0, bs), A, c, rfl, hs⟩

set_option maxRecDepth 100000 in
/-- A slice of steps that came in. -/
theorem ops_open {v : Value} {d : DataW H} {p : List MemPlace} (h : DataW.Trod enc Try.prog w base (fun _ => true) held 24 v d p) (hv : ∃ a n c, v = .slice a n c) :
    ∃ A c l, v = .slice A l.length c ∧ l.length ≤ c ∧ c ≤ maxLen ∧ (A = none → c = 0 ∧ l = []) ∧ OpsV w w.heap.size A l := by
  obtain ⟨fuel, hf⟩ := h
  obtain ⟨A0, n0, c0, rfl⟩ := hv
  rcases open_slice Try.underlying24 hf with ⟨hcs, _⟩ | ⟨a, len, cap, m, n, D, Pl, hcs, _, hl, hm, hmm, _, hi⟩
  · simp only [Value.cells, List.cons.injEq, and_true] at hcs
    injection hcs with e1 e2 e3
    subst e1; subst e2; subst e3
    exact ⟨none, 0, [], rfl, Nat.le_refl _, Nat.zero_le _, fun _ => ⟨rfl, rfl⟩, fun h => absurd rfl h⟩
  · have hcs' : Value.slice A0 n0 c0 = .slice (some a) len cap := by simpa [Value.cells] using hcs
    injection hcs' with e1 e2 e3
    subst e1; subst e2; subst e3
    simp only [if_true] at hmm
    subst hmm
    have each : ∀ i, i < n0 → ∃ (f : OpV) (tA : Option Addr) (tc : Nat), SlB w w.heap.size tA tc f.2 ∧
        w.cell? (a.add (i * 2)) = some (.int .i64 f.1) ∧ w.cell? ((a.add (i * 2)).add 1) = some (.slice tA f.2.length tc) := by
      intro i hin
      obtain ⟨cs', hc, ht⟩ := hi i (by omega)
      rw [cells36] at hc
      obtain ⟨_, _, hat⟩ := World.cells?_some hc
      obtain ⟨f, tA, tc, rfl, hfd⟩ := op_open ht
      refine ⟨f, tA, tc, hfd, ?_, hat 1 (by omega)⟩
      have := hat 0 (by omega)
      rwa [show (a.add (i * 2)).add 0 = a.add (i * 2) from by simp [Addr.add]] at this
    have pick : ∀ m, m ≤ n0 → ∃ l : List OpV, l.length = m ∧ ∀ i (h : i < l.length), ∃ (tA : Option Addr) (tc : Nat), SlB w w.heap.size tA tc l[i].2 ∧
        w.cell? (a.add (i * 2)) = some (.int .i64 l[i].1) ∧ w.cell? ((a.add (i * 2)).add 1) = some (.slice tA l[i].2.length tc) := by
      intro m
      induction m with
      | zero => exact fun _ => ⟨[], rfl, fun i h => by simp at h⟩
      | succ m ih =>
        intro hm'
        obtain ⟨l, hll, hl'⟩ := ih (by omega)
        obtain ⟨f, hf'⟩ := each m (by omega)
        refine ⟨l ++ [f], by simp [hll], fun i hil => ?_⟩
        by_cases him : i < l.length
        · rw [List.getElem_append_left him]
          exact hl' i him
        · have hil' : i = m := by simp at hil; omega
          subst hil'
          rw [List.getElem_append_right (by omega)]
          simpa [hll] using hf'
    obtain ⟨l, hll, hl'⟩ := pick n0 (Nat.le_refl _)
    subst hll
    refine ⟨some a, _, l, rfl, hl, hm, by simp, fun hne => ?_⟩
    have h0 : 0 < l.length := List.length_pos_iff.2 hne
    obtain ⟨b, o, s⟩ := a
    obtain ⟨_, _, _, hc0, _⟩ := hl' 0 h0
    have hs : s = none := by simpa [Addr.add] using World.cell?_spot hc0
    subst hs
    have hb : b < w.heap.size := by
      have := World.block_lt_of_cell? w _ hc0
      simpa [Addr.add] using this
    refine ⟨b, o, rfl, hb, fun k hk => ?_⟩
    obtain ⟨tA, tc, q0, q1, q2⟩ := hl' k hk
    simp only [Addr.add_lit] at q1 q2
    exact ⟨tA, tc, q0, q1, q2⟩

/-- A slice of yes and no that came in. -/
def BoolsV (w : World) (B : Nat) (A : Option Addr) (l : List Bool) : Prop := Lies w B A (l.map Value.bool)
theorem bools_open {v : Value} {d : DataW H} {p : List MemPlace} (h : DataW.Trod enc Try.prog w base (fun _ => true) held 49 v d p) (hv : ∃ a n c, v = .slice a n c) :
    ∃ A c l, v = .slice A l.length c ∧ l.length ≤ maxLen ∧ BoolsV w w.heap.size A l := by
  obtain ⟨fuel, hf⟩ := h
  obtain ⟨A0, n0, c0, rfl⟩ := hv
  rcases open_bools Try.underlying49 Try.underlying4 cells4 hf with ⟨hcs, _⟩ | ⟨a, len, cap, B, hcs, _, hl, hm, _, hi⟩
  · simp only [Value.cells, List.cons.injEq, and_true] at hcs
    injection hcs with e1 e2 e3
    subst e1; subst e2; subst e3
    exact ⟨none, 0, [], rfl, Nat.zero_le _, Lies.nil_⟩
  · have hcs' : Value.slice A0 n0 c0 = .slice (some a) len cap := by simpa [Value.cells] using hcs
    injection hcs' with e1 e2 e3
    subst e1; subst e2; subst e3
    refine ⟨some a, c0, (List.range n0).map B, by simp, by simp; omega, fun hne => ?_⟩
    have h0 : 0 < n0 := by
      rcases Nat.eq_zero_or_pos n0 with h | h
      · subst h; simp at hne
      · exact h
    have hb : a.block < w.heap.size := by
      have := World.block_lt_of_cell? w _ (hi 0 (by omega))
      simpa [Addr.add] using this
    refine Lies.of_add hb (fun j u hu => ?_) hne
    have hj := (List.getElem?_eq_some_iff.1 hu).1
    simp only [List.length_map, List.length_range] at hj
    rw [hi j (by omega)]
    simp only [List.map_map, List.getElem?_map, List.getElem?_range hj, Option.map_some, Function.comp] at hu
    rw [← hu]
end

theorem ownK : ownKnob Try.prog.godebug = none := by kernel_rfl
theorem laidOutK : laidOutB Try.prog = true := by kernel_rfl
/-- What came in reads as it did, where nothing that was there has turned. -/
theorem trodAll_below {H : Type} {enc : TypeId × Value → H} {P : Program} (hl : laidOutB P = true) {W W' : World} (hb : Below W.heap.size W W') : ∀ (ts : List TypeId) (vs : List Value) (ds : List (DataW H)) (ps : List MemPlace),
    (∀ t ∈ ts, P.readableRec t = true ∧ t < P.types.size) → DataW.TrodAll enc P W 0 (fun _ => true) true ts vs ds ps → (∀ x ∈ ps, x.block < W.heap.size) →
    DataW.TrodAll enc P W' 0 (fun b => decide (b < W.heap.size)) true ts vs ds ps
  | [], vs, ds, ps, _, h, _ => by
    obtain ⟨rfl, rfl, rfl⟩ := trodAll_nil h
    exact trodAll_mk0
  | t :: ts, vs, ds, ps, hr, h, hlt => by
    obtain ⟨v0, vs0, d0, ds0, p0, q0, rfl, rfl, rfl, h0, r0⟩ := trodAll_cons h
    obtain ⟨h1, h2⟩ := hr t (by simp)
    exact trodAll_cons_mk (Below.trod hl h1 h2 h0 hb (fun x hx => hlt x (by simp [hx]))) (trodAll_below hl hb ts vs0 ds0 q0 (fun t ht => hr t (by simp [ht])) r0 (fun x hx => hlt x (by simp [hx])))
/-- A law has returned true, and nothing that was there has turned: what its row asks. -/
theorem law_post {H : Type} {enc : TypeId × Value → H} {P : Program} (hl : laidOutB P = true) {fn : Func} {s : ChangeSpec} {W W' : World} {args : Array Value} {ds : List (DataW H)} {p : List MemPlace}
    (h4 : P.underlying 4 = some .bool) (hres : fn.resultTypes = #[4]) (hvars : s.vars = []) (hparams : ∀ t ∈ fn.params.toList, P.readableRec t = true ∧ t < P.types.size)
    (hspec : (s.fn H (ds ++ [])).results = [.lit (.bool true)] ∧ (s.fn H (ds ++ [])).args = ds ∧ (s.fn H (ds ++ [])).vars = [])
    (hW : DataW.Whole enc P fn.params.toList s.vars false W args.toList ds [] p) (hA : DataW.TrodAll enc P W 0 (fun _ => true) true fn.params.toList args.toList ds p) (hb : Below W.heap.size W W') :
    s.post enc P fn false true false false W args (.bool true) W' := by
  refine ⟨ds, [], p, [], p, [], hW, ?_, ?_, ?_, hb.frame _, fun h => by cases h⟩
  · rw [hspec.1, hres]
    exact trodAll_mk1 (shut_bool h4 true)
  · rw [hspec.2.1]
    exact trodAll_below hl hb _ _ _ _ hparams hA (fun x hx => hW.lt x hx)
  · rw [hspec.2.2, hvars]
    rfl
noncomputable def startWorld (os : Os) : World := World.holding Try.prog os ⟨#[], #[], []⟩
end Go.Proofs.Ytibkbcffoabhfaa
