import Derived.Test.YtjbmoiblkehbmaaDoorSGK
import Derived.Test.YtjbmoiblkehbmaaDoorRows
import Derived.ProofKit
import Derived.OpenShut
import Derived.SliceStrings
import Derived.Deep.Slices
import Derived.Deep.Fields
import Derived.Deep.Strs
import Derived.Deep.DeepHandedRow
import Derived.Lib.LaidTab
import Derived.SizedLaws
namespace Go.Proofs.YtjbmoiblkehbmaaDoor
namespace L18
open Go.ChangeShapes Go.WideShapes Go.ChangeAt Go.RowKit Go.Deep

/-! Layer 18: what comes in, and the table as it is laid. -/
theorem cells3 : Tryd.prog.cellsOf 3 = 1 := by kernel_rfl
theorem cells4 : Tryd.prog.cellsOf 4 = 1 := by kernel_rfl
theorem cells9 : Tryd.prog.cellsOf 9 = 1 := by kernel_rfl
theorem cellsSig : Tryd.prog.cellsOf 58 = 3 := by kernel_rfl
theorem cellsTab : Tryd.prog.cellsOf 59 = 87 := by kernel_rfl
theorem cellsArr : Tryd.prog.cellsOf 43 = 32 := by kernel_rfl
section
variable {H : Type} {enc : TypeId × Value → H} {w : World} {base : Nat} {spare : Nat → Bool} {held : Bool}
theorem ints_open {v : Value} {d : DataW H} {p : List MemPlace} (h : DataW.Trod enc Tryd.prog w base spare held 30 v d p) (hv : ∃ a n c, v = .slice a n c) :
    ∃ A n c l, v = .slice A n c ∧ l.length = n ∧ SlI w w.heap.size A c l := by
  obtain ⟨fuel, hf⟩ := h
  obtain ⟨A0, n0, c0, rfl⟩ := hv
  rcases open_ints Tryd.underlying30 Tryd.underlying3 cells3 hf with ⟨hcs, _⟩ | ⟨a, len, cap, zs, hcs, _, hl, hm, hz, _, hcell, _⟩
  · simp only [Value.cells, List.cons.injEq, and_true] at hcs
    injection hcs with e1 e2 e3
    subst e1; subst e2; subst e3
    exact ⟨none, 0, 0, [], rfl, rfl, Nat.le_refl _, Nat.zero_le _, fun _ => rfl, Lies.nil_⟩
  · have hcs' : Value.slice A0 n0 c0 = .slice (some a) len cap := by simpa [Value.cells] using hcs
    injection hcs' with e1 e2 e3
    subst e1; subst e2; subst e3
    have hzl : n0 ≤ zs.length := by rw [hz]; split <;> omega
    refine ⟨some a, n0, c0, zs.take n0, rfl, by simp [Nat.min_eq_left hzl], ?_, hm, by simp, ?_⟩
    · simp [Nat.min_eq_left hzl]; exact hl
    · intro hne
      have h0 : 0 < zs.length := by
        rcases Nat.eq_zero_or_pos zs.length with h | h
        · exfalso; apply hne; simp [iv, List.eq_nil_of_length_eq_zero h]
        · exact h
      have hb : a.block < w.heap.size := by
        have := World.block_lt_of_cell? w _ (hcell 0 h0)
        simpa [Addr.add] using this
      refine Lies.of_add hb (fun j u hu => ?_) hne
      have hj : j < n0 ∧ j < zs.length := by
        have := (List.getElem?_eq_some_iff.1 hu).1
        simp [iv] at this; omega
      rw [hcell j hj.2]
      simp only [iv, List.getElem?_map, List.getElem?_take, hj.1, if_true, List.getElem?_eq_getElem hj.2, Option.map_some] at hu
      rw [← hu]
      simp [List.getD, List.getElem?_eq_getElem hj.2]
theorem one_at {cs : List Value} {o : Nat} {v : Value} (h : (cs.drop o).take 1 = [v]) : cs[o]? = some v := by
  have := congrArg (fun l => l[0]?) h
  simpa using this
/-- A signal's row among the data. -/
theorem sig_cells {fuel : Nat} {cs : List Value} {b : List UInt8} {z : Int} {c : Bool} {p : List MemPlace} (h : DataW.trod enc Tryd.prog w base spare held fuel 58 cs = some (.agg [.lit (.string b), .lit (.int .i64 z), .lit (.bool c)], p)) :
    cs[0]? = some (.string (bs b)) ∧ cs[1]? = some (.int .i64 z) ∧ cs[2]? = some (.bool c) := by
  obtain ⟨y0, y1, y2, n, hx, hl, h0, h1, h2⟩ := trod_struct3 Tryd.underlying58 h
  have h0 : DataW.trod enc Tryd.prog w base spare held n 9 ((cs.drop 0).take (Tryd.prog.cellsOf 9)) = some y0 := h0
  have h1 : DataW.trod enc Tryd.prog w base spare held n 3 ((cs.drop 1).take (Tryd.prog.cellsOf 3)) = some y1 := h1
  have h2 : DataW.trod enc Tryd.prog w base spare held n 4 ((cs.drop 2).take (Tryd.prog.cellsOf 4)) = some y2 := h2
  rw [cells9] at h0
  rw [cells3] at h1
  rw [cells4] at h2
  obtain ⟨s, e0, d0, _⟩ := DataW.trod_string Tryd.underlying9 h0
  obtain ⟨k, e1, d1, _⟩ := DataW.trod_int Tryd.underlying3 h1
  obtain ⟨q, e2, d2⟩ := DataW.trod_bool Tryd.underlying4 h2
  subst d0; subst d1; subst d2
  simp only [Prod.mk.injEq, DataW.agg.injEq, List.cons.injEq, and_true, DataW.lit.injEq, Lit.string.injEq, Lit.int.injEq, Lit.bool.injEq, true_and] at hx
  obtain ⟨⟨x0, x1, x2⟩, _⟩ := hx
  subst x0; subst x1; subst x2
  refine ⟨?_, one_at e1, one_at e2⟩
  rw [one_at e0]
  rfl
theorem tab_data : (Rows.laid_parlour_sigset_signals : DataW H) = .agg (tab.map fun r => .agg [.lit (.string r.1), .lit (.int .i64 r.2.1), .lit (.bool r.2.2)]) := rfl
/-- An array of 32 numbers among what came in. -/
theorem arr_open {v : Value} {d : DataW H} {p : List MemPlace} (h : DataW.Trod enc Tryd.prog w base spare held 43 v d p) (hv : ∃ cs : Array Value, v = .agg cs ∧ cs.size = Tryd.prog.cellsOf 43) :
    ∃ a : List Int, v = .agg (arr a) ∧ a.length = 32 := by
  obtain ⟨fuel, hf⟩ := h
  obtain ⟨cs0, rfl, hsz⟩ := hv
  rw [cellsArr] at hsz
  obtain ⟨zs, m, _, _, hl, hzl, hz⟩ := DataW.trod_array Tryd.underlying43 hf
  have hcs : (Value.agg cs0).cells.toList = cs0.toList := rfl
  rw [hcs] at hz hl
  have each : ∀ i, i < 32 → ∃ x : Int, cs0.toList[i]? = some (.int .i64 x) := fun i hi => by
    have := hz i hi
    rw [cells3, List.getElem?_eq_getElem (by omega)] at this
    obtain ⟨x, e, _, _⟩ := DataW.trod_int Tryd.underlying3 this
    rw [Nat.mul_one] at e
    exact ⟨x, one_at e⟩
  have pick : ∀ n, n ≤ 32 → ∃ a : List Int, a.length = n ∧ ∀ i, i < n → cs0.toList[i]? = (iv a)[i]? := by
    intro n
    induction n with
    | zero => exact fun _ => ⟨[], rfl, fun i hi => absurd hi (by omega)⟩
    | succ n ih =>
      intro hn
      obtain ⟨a, ha, hp⟩ := ih (by omega)
      obtain ⟨x, hx⟩ := each n (by omega)
      refine ⟨a ++ [x], by simp [ha], fun i hi => ?_⟩
      rw [iv_append]
      by_cases e : i < n
      · rw [List.getElem?_append_left (by rw [iv_length]; omega), hp i e]
      · obtain rfl : i = n := by omega
        rw [List.getElem?_append_right (by rw [iv_length]; omega), iv_length, ha, hx]
        simp [iv]
  obtain ⟨a, ha, hp⟩ := pick 32 (Nat.le_refl _)
  refine ⟨a, ?_, ha⟩
  congr 1
  rw [← Array.toList_inj]
  show cs0.toList = iv a
  apply List.ext_getElem?
  intro i
  by_cases hi : i < 32
  · exact hp i hi
  · rw [List.getElem?_eq_none (by simp [hsz]; omega), List.getElem?_eq_none (by rw [iv_length]; omega)]
end
theorem okWide_arr {P : Program} {w : World} {r : Reach} {b0 : Nat} {t e : TypeId} {n : Nat} {v : Value} (ht : P.underlying t = some (.array n e)) (h : Value.okWide P w r b0 t v) : ∃ cs : Array Value, v = .agg cs ∧ cs.size = P.cellsOf t := by
  simp only [Value.okWide, ht] at h
  obtain ⟨cs, h1, h2, _⟩ := h
  exact ⟨cs, h1, h2⟩
/-- The table, as the row says that it lies. -/
theorem tab_laid {W : World} (h : laidMetH Tryd.prog [("parlour/sigset.signals", Rows.laid_parlour_sigset_signals)] W) : Hid (TabW W) := by
  have h : laidMet Tryd.prog [("parlour/sigset.signals", Rows.laid_parlour_sigset_signals)] W := h
  obtain ⟨ps, ⟨g', t', cs, fuel, p, q, hg', ht', hvar, hd, _, _⟩, _⟩ := h
  have hg : Tryd.prog.globalNamed "parlour/sigset.signals" = some 0 := by kernel_rfl
  have hty : (Tryd.prog.globals[0]?).map (·.type) = some 59 := by kernel_rfl
  obtain rfl := Option.some.inj (hg.symm.trans hg')
  obtain rfl := Option.some.inj (hty.symm.trans ht')
  have hc := World.var?_cell hg hvar
  obtain ⟨xs, m, _, hx, hl, hxl, hz⟩ := DataW.trod_array Tryd.underlying59 hd
  rw [tab_data] at hx
  simp only [Prod.mk.injEq, DataW.agg.injEq] at hx
  have hlt : 0 < W.heap.size := by
    have h0 : W.cell? ⟨0, 0, none⟩ = cs[0]? := hc 0
    rw [cellsTab] at hl
    have : cs[0]? = some (cs[0]'(by simpa using (show 0 < cs.toList.length by omega))) := Array.getElem?_eq_getElem _
    rw [this] at h0
    exact World.block_lt_of_cell? W _ h0
  refine hid ⟨hlt, fun k hk => ?_⟩
  have h1 := hz k hk
  rw [cellsSig, List.getElem?_eq_getElem (by omega)] at h1
  have h2 : (xs[k]'(by omega)).1 = .agg [.lit (.string (row k).1), .lit (.int .i64 (row k).2.1), .lit (.bool (row k).2.2)] := by
    have h3 := congrArg (fun l => l[k]?) hx.1
    have hk2 : k < tab.length := hk
    simp only [List.getElem?_map, List.getElem?_eq_getElem hk2, Option.map_some] at h3
    rw [List.getElem?_eq_getElem (by omega)] at h3
    simp only [Option.map_some, Option.some.injEq] at h3
    rw [← h3]
    simp [row, List.getD_eq_getElem?_getD, List.getElem?_eq_getElem hk2]
  generalize xs[k]'(by omega) = yz at h1 h2
  obtain ⟨y, z⟩ := yz
  simp only at h2
  subst h2
  obtain ⟨c0, c1, c2⟩ := sig_cells h1
  have at3 : ∀ j, j < 3 → ((cs.toList.drop (k * 3)).take 3)[j]? = cs[k * 3 + j]? := fun j hj => by
    rw [List.getElem?_take, if_pos hj, List.getElem?_drop, Array.getElem?_toList]
  rw [at3 0 (by decide)] at c0
  rw [at3 1 (by decide)] at c1
  rw [at3 2 (by decide)] at c2
  exact ⟨(hc (k * 3)).trans c0, (hc (k * 3 + 1)).trans c1, (hc (k * 3 + 2)).trans c2⟩
theorem ownK : ownKnob Tryd.prog.godebug = none := by kernel_rfl
theorem laidOutK : laidOutB Tryd.prog = true := by kernel_rfl
/-- What came in reads as it did, where nothing that was there has turned. -/
theorem trodAll_below {H : Type} {enc : TypeId × Value → H} {P : Program} (hl : laidOutB P = true) {W W' : World} (hb : Below W.heap.size W W') : ∀ (ts : List TypeId) (vs : List Value) (ds : List (DataW H)) (ps : List MemPlace),
    (∀ t ∈ ts, P.readableRec t = true ∧ t < P.types.size) → DataW.TrodAll enc P W 0 (fun _ => true) true ts vs ds ps → (∀ x ∈ ps, x.block < W.heap.size) →
    DataW.TrodAll enc P W' 0 (fun b => decide (b < W.heap.size)) true ts vs ds ps
  | [], vs, ds, ps, _, h, _ => by
    obtain ⟨rfl, rfl, rfl⟩ := trodAll_nil h
    exact trodAll_mk0
  | t :: ts, vs, ds, ps, hr, h, hlt => by
    obtain ⟨v0, vs0, d0, ds0, p0, q0, rfl, rfl, rfl, h0, r0⟩ := trodAll_cons h
    obtain ⟨h1, h2⟩ := hr t (by simp)
    exact trodAll_cons_mk (Below.trod hl h1 h2 h0 hb (fun x hx => hlt x (by simp [hx]))) (trodAll_below hl hb ts vs0 ds0 q0 (fun t ht => hr t (by simp [ht])) r0 (fun x hx => hlt x (by simp [hx])))
/-- A law has returned true, and nothing that was there has turned: what its row asks. -/
theorem law_post {H : Type} {enc : TypeId × Value → H} {P : Program} (hl : laidOutB P = true) {fn : Func} {s : ChangeSpec} {W W' : World} {args : Array Value} {ds : List (DataW H)} {p : List MemPlace}
    (h4 : P.underlying 4 = some .bool) (hres : fn.resultTypes = #[4]) (hvars : s.vars = []) (hparams : ∀ t ∈ fn.params.toList, P.readableRec t = true ∧ t < P.types.size)
    (hspec : (s.fn H (ds ++ [])).results = [.lit (.bool true)] ∧ (s.fn H (ds ++ [])).args = ds ∧ (s.fn H (ds ++ [])).vars = [])
    (hW : DataW.Whole enc P fn.params.toList s.vars false W args.toList ds [] p) (hA : DataW.TrodAll enc P W 0 (fun _ => true) true fn.params.toList args.toList ds p) (hb : Below W.heap.size W W') :
    s.post enc P fn false true false false W args (.bool true) W' := by
  refine ⟨ds, [], p, [], p, [], hW, ?_, ?_, ?_, hb.frame _, fun h => by cases h⟩
  · rw [hspec.1, hres]
    exact trodAll_mk1 (shut_bool h4 true)
  · rw [hspec.2.1]
    exact trodAll_below hl hb _ _ _ _ hparams hA (fun x hx => hW.lt x hx)
  · rw [hspec.2.2, hvars]
    rfl
/-- A world for the witness: the settled one, the table holding what the text lays. -/
noncomputable def laidWorld (os : Os) : World :=
  let w0 := World.holding Tryd.prog os ⟨#[], #[], []⟩
  let put (h : Array Obj) (g : Nat) (cs : Array Value) : Array Obj := h.modify g fun
    | .cells _ t frozen => .cells cs t frozen
    | o => o
  { w0 with heap := put w0.heap 0 (tab.flatMap fun r => [.string (bs r.1), .int .i64 r.2.1, .bool r.2.2]).toArray }
end L18
end Go.Proofs.YtjbmoiblkehbmaaDoor
