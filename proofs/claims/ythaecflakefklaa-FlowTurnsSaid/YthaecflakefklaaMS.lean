import Derived.Test.YthaecflakefklaaMP
import Derived.ProofKit
import Derived.OpenShut
import Derived.SliceStrings
import Derived.Deep.Slices
import Derived.Deep.Fields
import Derived.Deep.DeepHandedRow
import Derived.Lib.LaidTab
import Derived.SizedLaws
namespace Go.Proofs.Ythaecflakefklaa
open Go.ChangeShapes Go.WideShapes Go.ChangeAt Go.RowKit Go.Deep

theorem cells3 : Try.prog.cellsOf 3 = 1 := by kernel_rfl
theorem cells4 : Try.prog.cellsOf 4 = 1 := by kernel_rfl
theorem cells5 : Try.prog.cellsOf 5 = 1 := by kernel_rfl
theorem cells22 : Try.prog.cellsOf 22 = 19 := by kernel_rfl
theorem cells23 : Try.prog.cellsOf 23 = 1 := by kernel_rfl
theorem cells24 : Try.prog.cellsOf 24 = 1 := by kernel_rfl
theorem cells26 : Try.prog.cellsOf 26 = 24 := by kernel_rfl
theorem cells32 : Try.prog.cellsOf 38 = 1 := by kernel_rfl
theorem list_of {P : Nat → UInt8 → Prop} : ∀ n : Nat, (∀ i, i < n → ∃ b, P i b) → ∃ l : List UInt8, l.length = n ∧ ∀ i, i < n → P i (l.getD i 0)
  | 0, _ => ⟨[], rfl, fun i h => absurd h (by omega)⟩
  | n + 1, h => by
    obtain ⟨l, hl, hp⟩ := list_of n fun i hi => h i (by omega)
    obtain ⟨b, hb⟩ := h n (by omega)
    refine ⟨l ++ [b], by simp [hl], fun i hi => ?_⟩
    by_cases hin : i < n
    · have := hp i hin
      simpa [List.getD, List.getElem?_append_left (show i < l.length by omega)] using this
    · have : i = n := by omega
      subst this
      simpa [List.getD, List.getElem?_append_right (show l.length ≤ i by omega), hl] using hb
theorem one_at {cs : List Value} {o : Nat} {v : Value} (h : (cs.drop o).take 1 = [v]) : cs[o]? = some v := by
  have := congrArg (fun l => l[0]?) h
  simpa using this
section
variable {H : Type} {enc : TypeId × Value → H} {w : World} {base : Nat} {spare : Nat → Bool} {held : Bool}
/-- A slice of bytes among what came in. -/
theorem bytes_open {fuel : Nat} {cs : List Value} {x : DataW H × List MemPlace} (h : DataW.trod enc Try.prog w base spare held fuel 38 cs = some x) :
    ∃ A c bs, cs = [.slice A bs.length c] ∧ SlB w w.heap.size A c bs := by
  rcases open_ints Try.underlying38 Try.underlying5 cells5 h with ⟨rfl, _⟩ | ⟨a, len, cap, zs, rfl, _, hl, hm, hz, _, hcell, hwz⟩
  · exact ⟨none, 0, [], rfl, Nat.le_refl _, Nat.zero_le _, fun _ => rfl, Lies.nil_⟩
  · have hzl : len ≤ zs.length := by rw [hz]; split <;> omega
    refine ⟨some a, cap, (zs.take len).map fun z => UInt8.ofNat z.toNat, ?_, ?_, hm, by simp, ?_⟩
    · simp [Nat.min_eq_left hzl]
    · simp [Nat.min_eq_left hzl]; exact hl
    · intro hne
      have h0 : 0 < zs.length := by
        rcases Nat.eq_zero_or_pos zs.length with h | h
        · exfalso; apply hne; simp [bv, List.eq_nil_of_length_eq_zero h]
        · exact h
      have hb : a.block < w.heap.size := by
        have := World.block_lt_of_cell? w _ (hcell 0 h0)
        simpa [Addr.add] using this
      refine Lies.of_add hb (fun j u hu => ?_) hne
      have hj : j < len ∧ j < zs.length := by
        have := (List.getElem?_eq_some_iff.1 hu).1
        simp [bv] at this; omega
      rw [hcell j hj.2]
      have hw := hwz (zs[j]'hj.2) (List.getElem_mem _)
      have hr : 0 ≤ zs[j]'hj.2 ∧ zs[j]'hj.2 ≤ 255 := bounds_u8 hw
      simp only [bv, List.map_map, List.getElem?_map, List.getElem?_take, hj.1, if_true, List.getElem?_eq_getElem hj.2, Option.map_some, Function.comp] at hu
      rw [← hu]
      simp only [List.getD, List.getElem?_eq_getElem hj.2, Option.getD_some]
      congr 2
      simp
      omega
theorem sl_open {v : Value} {d : DataW H} {p : List MemPlace} (h : DataW.Trod enc Try.prog w base spare held 38 v d p) (hv : ∃ a n c, v = .slice a n c) :
    ∃ A c bs, v = .slice A bs.length c ∧ SlB w w.heap.size A c bs := by
  obtain ⟨fuel, hf⟩ := h
  obtain ⟨A0, n0, c0, rfl⟩ := hv
  obtain ⟨A, c, bs, e, h1⟩ := bytes_open hf
  have e' : Value.slice A0 n0 c0 = .slice A bs.length c := by simpa [Value.cells] using e
  exact ⟨A, c, bs, e', h1⟩
theorem i64_of {x : Int} (h : (Lit.int .i64 x).wf = true) : i64ok x := by
  have := bounds_i64 h
  exact ⟨this.1, this.2⟩
/-- A setting among what came in. -/
theorem tm_cells {fuel : Nat} {cs : List Value} {x : DataW H × List MemPlace} (h : DataW.trod enc Try.prog w base spare held fuel 26 cs = some x) : ∃ t : Tm, cs = t.cl ∧ t.Ok := by
  obtain ⟨xs, n, _, _, hlen, hxl, hff⟩ := DataW.trod_struct Try.underlying26 h
  rw [cells26] at hlen
  have hx : ∀ i, i < 6 → ∃ y, xs[i]? = some y := fun i hi => ⟨xs[i]'(by simpa [hxl] using hi), List.getElem?_eq_getElem _⟩
  obtain ⟨y0, e0⟩ := hx 0 (by omega)
  obtain ⟨y1, e1⟩ := hx 1 (by omega)
  obtain ⟨y2, e2⟩ := hx 2 (by omega)
  obtain ⟨y3, e3⟩ := hx 3 (by omega)
  obtain ⟨y4, e4⟩ := hx 4 (by omega)
  obtain ⟨y5, e5⟩ := hx 5 (by omega)
  have h0 : DataW.trod enc Try.prog w base spare held n 22 ((cs.drop 0).take (Try.prog.cellsOf 22)) = xs[0]? := hff 0 _ rfl
  have h1 : DataW.trod enc Try.prog w base spare held n 23 ((cs.drop 19).take (Try.prog.cellsOf 23)) = xs[1]? := hff 1 _ rfl
  have h2 : DataW.trod enc Try.prog w base spare held n 24 ((cs.drop 20).take (Try.prog.cellsOf 24)) = xs[2]? := hff 2 _ rfl
  have h3 : DataW.trod enc Try.prog w base spare held n 24 ((cs.drop 21).take (Try.prog.cellsOf 24)) = xs[3]? := hff 3 _ rfl
  have h4 : DataW.trod enc Try.prog w base spare held n 3 ((cs.drop 22).take (Try.prog.cellsOf 3)) = xs[4]? := hff 4 _ rfl
  have h5 : DataW.trod enc Try.prog w base spare held n 3 ((cs.drop 23).take (Try.prog.cellsOf 3)) = xs[5]? := hff 5 _ rfl
  rw [cells22, e0] at h0
  rw [cells23, e1] at h1
  rw [cells24, e2] at h2
  rw [cells24, e3] at h3
  rw [cells3, e4] at h4
  rw [cells3, e5] at h5
  obtain ⟨f, f1, _, wf⟩ := DataW.trod_int Try.underlying23 h1
  obtain ⟨i, i1, _, wi⟩ := DataW.trod_int Try.underlying24 h2
  obtain ⟨o, o1, _, wo⟩ := DataW.trod_int Try.underlying24 h3
  obtain ⟨m, m1, _, wm⟩ := DataW.trod_int Try.underlying3 h4
  obtain ⟨s, s1, _, ws⟩ := DataW.trod_int Try.underlying3 h5
  obtain ⟨zs, k, _, _, _, hzl, hz⟩ := DataW.trod_array Try.underlying22 h0
  obtain ⟨c, hc, hcc⟩ := list_of (P := fun i b => cs[i]? = some (.int .u8 (b.toNat : Int))) 19 (fun i hi => by
    have := hz i hi
    rw [cells5, List.getElem?_eq_getElem (by omega)] at this
    obtain ⟨b, b1, _, wb⟩ := DataW.trod_int Try.underlying5 this
    have hb := bounds_u8 wb
    have b2 := one_at b1
    refine ⟨UInt8.ofNat b.toNat, ?_⟩
    have e : ((UInt8.ofNat b.toNat).toNat : Int) = b := by simp; omega
    rw [e]
    simpa [List.getElem?_take, hi] using b2)
  have bf := bounds_u64 wf
  have bi := bounds_u32 wi
  have bo := bounds_u32 wo
  obtain ⟨f, rfl⟩ := Int.eq_ofNat_of_zero_le bf.1
  obtain ⟨i, rfl⟩ := Int.eq_ofNat_of_zero_le bi.1
  obtain ⟨o, rfl⟩ := Int.eq_ofNat_of_zero_le bo.1
  refine ⟨⟨c, f, i, o, m, s⟩, ?_, ⟨hc, by have := bf.2; show f < _; omega, by have := bi.2; show i < _; omega, by have := bo.2; show o < _; omega, i64_of wm, i64_of ws⟩⟩
  have hl : (bv c).length = 19 := by simp [bv, hc]
  apply List.ext_getElem?
  intro j
  show cs[j]? = (bv c ++ [.int .u64 (f : Int), .int .u32 (i : Int), .int .u32 (o : Int), .int .i64 m, .int .i64 s])[j]?
  by_cases hj : j < 19
  · rw [List.getElem?_append_left (by omega), hcc j hj]
    simp [bv, hc, hj]
  · rw [List.getElem?_append_right (by omega), hl]
    rcases (by omega : j = 19 ∨ j = 20 ∨ j = 21 ∨ j = 22 ∨ j = 23 ∨ 24 ≤ j) with rfl | rfl | rfl | rfl | rfl | hj
    · exact one_at f1
    · exact one_at i1
    · exact one_at o1
    · exact one_at m1
    · exact one_at s1
    · rw [List.getElem?_eq_none (by omega), List.getElem?_eq_none (by simp; omega)]
theorem tm_open {v : Value} {d : DataW H} {p : List MemPlace} (h : DataW.Trod enc Try.prog w base spare held 26 v d p) (hv : ∃ cs : Array Value, v = .agg cs ∧ cs.size = Try.prog.cellsOf 26) : ∃ t : Tm, v = .agg t.cs ∧ t.Ok := by
  obtain ⟨fuel, hf⟩ := h
  obtain ⟨cs0, rfl, hsz⟩ := hv
  obtain ⟨t, e, ht⟩ := tm_cells hf
  refine ⟨t, ?_, ht⟩
  have : cs0.toList = t.cl := e
  unfold Tm.cs
  rw [← this]
set_option maxRecDepth 100000 in
end
/-- A call of a law begins in some world. -/
noncomputable def startWorld (os : Os) : World := World.holding Try.prog os ⟨#[], #[], []⟩
theorem ownK : ownKnob Try.prog.godebug = none := by kernel_rfl
theorem laidOutK : laidOutB Try.prog = true := by kernel_rfl

/-- What came in reads as it did, where nothing that was there has turned. -/
theorem trodAll_below {H : Type} {enc : TypeId × Value → H} {P : Program} (hl : laidOutB P = true) {W W' : World} (hb : Below W.heap.size W W') : ∀ (ts : List TypeId) (vs : List Value) (ds : List (DataW H)) (ps : List MemPlace),
    (∀ t ∈ ts, P.readableRec t = true ∧ t < P.types.size) → DataW.TrodAll enc P W 0 (fun _ => true) true ts vs ds ps → (∀ x ∈ ps, x.block < W.heap.size) →
    DataW.TrodAll enc P W' 0 (fun b => decide (b < W.heap.size)) true ts vs ds ps
  | [], vs, ds, ps, _, h, _ => by
    obtain ⟨rfl, rfl, rfl⟩ := trodAll_nil h
    exact trodAll_mk0
  | t :: ts, vs, ds, ps, hr, h, hlt => by
    obtain ⟨v0, vs0, d0, ds0, p0, q0, rfl, rfl, rfl, h0, r0⟩ := trodAll_cons h
    obtain ⟨h1, h2⟩ := hr t (by simp)
    exact trodAll_cons_mk (Below.trod hl h1 h2 h0 hb (fun x hx => hlt x (by simp [hx]))) (trodAll_below hl hb ts vs0 ds0 q0 (fun t ht => hr t (by simp [ht])) r0 (fun x hx => hlt x (by simp [hx])))

/-- A law has returned true, and nothing that was there has turned: what its row asks. -/
theorem law_post {H : Type} {enc : TypeId × Value → H} {P : Program} (hl : laidOutB P = true) {fn : Func} {s : ChangeSpec} {W W' : World} {args : Array Value} {ds : List (DataW H)} {p : List MemPlace}
    (h4 : P.underlying 4 = some .bool) (hres : fn.resultTypes = #[4]) (hvars : s.vars = []) (hparams : ∀ t ∈ fn.params.toList, P.readableRec t = true ∧ t < P.types.size)
    (hspec : (s.fn H (ds ++ [])).results = [.lit (.bool true)] ∧ (s.fn H (ds ++ [])).args = ds ∧ (s.fn H (ds ++ [])).vars = [])
    (hW : DataW.Whole enc P fn.params.toList s.vars false W args.toList ds [] p) (hA : DataW.TrodAll enc P W 0 (fun _ => true) true fn.params.toList args.toList ds p) (hb : Below W.heap.size W W') :
    s.post enc P fn false true false false W args (.bool true) W' := by
  refine ⟨ds, [], p, [], p, [], hW, ?_, ?_, ?_, hb.frame _, fun h => by cases h⟩
  · rw [hspec.1, hres]
    exact trodAll_mk1 (shut_bool h4 true)
  · rw [hspec.2.1]
    exact trodAll_below hl hb _ _ _ _ hparams hA (fun x hx => hW.lt x hx)
  · rw [hspec.2.2, hvars]
    rfl
end Go.Proofs.Ythaecflakefklaa
