import Derived.Test.YteeienmigoebmaaGreatDoorPRY
import Derived.Test.YteeienmigoebmaaGreatDoorKL
import Derived.Test.YteeienmigoebmaaGreatDoorShelf
import Derived.Stop.LaidErr
import Derived.Lib.LaidTab
namespace Go.Proofs.YteeienmigoebmaaGreatDoor
namespace L19
open Go.ChangeShapes Go.WideShapes Go.ChangeAt Go.RowKit Go.Deep L18

/-! Layer 19: the table of signals as it is laid (as in layer 18's). -/
theorem cells4 : Tryz.prog.cellsOf 4 = 1 := by kernel_rfl
theorem cellsSig : Tryz.prog.cellsOf 140 = 3 := by kernel_rfl
theorem cellsTab : Tryz.prog.cellsOf 141 = 87 := by kernel_rfl
section
variable {H : Type} {enc : TypeId × Value → H} {w : World} {base : Nat} {spare : Nat → Bool} {held : Bool}
theorem one_at {cs : List Value} {o : Nat} {v : Value} (h : (cs.drop o).take 1 = [v]) : cs[o]? = some v := by
  have := congrArg (fun l => l[0]?) h
  simpa using this
/-- A signal's row among the data. -/
theorem sig_cells {fuel : Nat} {cs : List Value} {b : List UInt8} {z : Int} {c : Bool} {p : List MemPlace} (h : DataW.trod enc Tryz.prog w base spare held fuel 140 cs = some (.agg [.lit (.string b), .lit (.int .i64 z), .lit (.bool c)], p)) :
    cs[0]? = some (.string (bs b)) ∧ cs[1]? = some (.int .i64 z) ∧ cs[2]? = some (.bool c) := by
  obtain ⟨y0, y1, y2, n, hx, hl, h0, h1, h2⟩ := trod_struct3 Tryz.underlying140 h
  have h0 : DataW.trod enc Tryz.prog w base spare held n 9 ((cs.drop 0).take (Tryz.prog.cellsOf 9)) = some y0 := h0
  have h1 : DataW.trod enc Tryz.prog w base spare held n 3 ((cs.drop 1).take (Tryz.prog.cellsOf 3)) = some y1 := h1
  have h2 : DataW.trod enc Tryz.prog w base spare held n 4 ((cs.drop 2).take (Tryz.prog.cellsOf 4)) = some y2 := h2
  rw [cells9] at h0
  rw [cells3] at h1
  rw [cells4] at h2
  obtain ⟨s, e0, d0, _⟩ := DataW.trod_string Tryz.underlying9 h0
  obtain ⟨k, e1, d1, _⟩ := DataW.trod_int Tryz.underlying3 h1
  obtain ⟨q, e2, d2⟩ := DataW.trod_bool Tryz.underlying4 h2
  subst d0; subst d1; subst d2
  simp only [Prod.mk.injEq, DataW.agg.injEq, List.cons.injEq, and_true, DataW.lit.injEq, Lit.string.injEq, Lit.int.injEq, Lit.bool.injEq, true_and] at hx
  obtain ⟨⟨x0, x1, x2⟩, _⟩ := hx
  subst x0; subst x1; subst x2
  refine ⟨?_, one_at e1, one_at e2⟩
  rw [one_at e0]
  rfl
theorem tab_data : (Rows.laid_parlour_sigset_signals : DataW H) = .agg (tab.map fun r => .agg [.lit (.string r.1), .lit (.int .i64 r.2.1), .lit (.bool r.2.2)]) := rfl
end
/-- The table, as the row says that it lies. -/
theorem tab_signals {W : World} {r : List (String × DataW Unit)} (h : laidMet Tryz.prog (("parlour/sigset.signals", Rows.laid_parlour_sigset_signals) :: r) W) : Hid (TabW W) := by
  obtain ⟨ps, ⟨g', t', cs, fuel, p, q, hg', ht', hvar, hd, _, _⟩, _⟩ := h
  have hg : Tryz.prog.globalNamed "parlour/sigset.signals" = some 0 := by kernel_rfl
  have hty : (Tryz.prog.globals[0]?).map (·.type) = some 141 := by kernel_rfl
  obtain rfl := Option.some.inj (hg.symm.trans hg')
  obtain rfl := Option.some.inj (hty.symm.trans ht')
  have hc := World.var?_cell hg hvar
  obtain ⟨xs, m, _, hx, hl, hxl, hz⟩ := DataW.trod_array Tryz.underlying141 hd
  rw [tab_data] at hx
  simp only [Prod.mk.injEq, DataW.agg.injEq] at hx
  have hlt : 0 < W.heap.size := by
    have h0 : W.cell? ⟨0, 0, none⟩ = cs[0]? := hc 0
    rw [cellsTab] at hl
    have : cs[0]? = some (cs[0]'(by simpa using (show 0 < cs.toList.length by omega))) := Array.getElem?_eq_getElem _
    rw [this] at h0
    exact World.block_lt_of_cell? W _ h0
  refine hid ⟨hlt, fun k hk => ?_⟩
  have h1 := hz k hk
  rw [cellsSig, List.getElem?_eq_getElem (by omega)] at h1
  have h2 : (xs[k]'(by omega)).1 = .agg [.lit (.string (row k).1), .lit (.int .i64 (row k).2.1), .lit (.bool (row k).2.2)] := by
    have h3 := congrArg (fun l => l[k]?) hx.1
    have hk2 : k < tab.length := hk
    simp only [List.getElem?_map, List.getElem?_eq_getElem hk2, Option.map_some] at h3
    rw [List.getElem?_eq_getElem (by omega)] at h3
    simp only [Option.map_some, Option.some.injEq] at h3
    rw [← h3]
    simp [row, List.getD_eq_getElem?_getD, List.getElem?_eq_getElem hk2]
  generalize xs[k]'(by omega) = yz at h1 h2
  obtain ⟨y, z⟩ := yz
  simp only at h2
  subst h2
  obtain ⟨c0, c1, c2⟩ := sig_cells h1
  have at3 : ∀ j, j < 3 → ((cs.toList.drop (k * 3)).take 3)[j]? = cs[k * 3 + j]? := fun j hj => by
    rw [List.getElem?_take, if_pos hj, List.getElem?_drop, Array.getElem?_toList]
  rw [at3 0 (by decide)] at c0
  rw [at3 1 (by decide)] at c1
  rw [at3 2 (by decide)] at c2
  exact ⟨(hc (k * 3)).trans c0, (hc (k * 3 + 1)).trans c1, (hc (k * 3 + 2)).trans c2⟩
theorem star : "*" ++ "errors.errorString" = "*errors.errorString" := by decide
/-- The one row of that name. -/
theorem rowE (u : TypeId) (h : Tryz.prog.typeName? 3 u = some "*errors.errorString") : u = 186 :=
  typeName_ptr_named (nm := "errors.errorString") (by rw [star]; kernel_rfl) (by kernel_rfl) (by decide) u (by rw [star]; exact h)
theorem cellsU64 : Tryz.prog.cellsOf 129 = 1 := by kernel_rfl
theorem cellsErr : Tryz.prog.cellsOf 188 = 1 := by kernel_rfl
/-- What the row says of the variables' data: what the walks ask. -/
theorem tab_laid {W : World} (h : laidMetH Tryz.prog Rows.programPrintsRow.laid W) (hS : W.ShapedOpen Tryz.prog) : Hid (TabX W) := by
  have h : laidMet Tryz.prog Rows.programPrintsRow.laid W := h
  have h3 : laidMet Tryz.prog (Rows.programPrintsRow.laid.drop 2) W := h.tail.tail
  have h4 : laidMet Tryz.prog (Rows.programPrintsRow.laid.drop 3) W := laidMet.tail h3
  have h6 : laidMet Tryz.prog (Rows.programPrintsRow.laid.drop 5) W := laidMet.tail (laidMet.tail h4)
  have h7 : laidMet Tryz.prog (Rows.programPrintsRow.laid.drop 6) W := laidMet.tail h6
  obtain ⟨a0, s0, hv0, _⟩ := laid_sentinel (g := 3) (ti := 70) (tp := 186) h6 (by kernel_rfl) (by kernel_rfl) Tryz.underlying70 rowE Tryz.underlying186 Tryz.underlying188 rfl rfl Tryz.underlying9 cellsErr cells9
  obtain ⟨a1, s1, hv1, _⟩ := laid_sentinel (g := 2) (ti := 70) (tp := 186) h7 (by kernel_rfl) (by kernel_rfl) Tryz.underlying70 rowE Tryz.underlying186 Tryz.underlying188 rfl rfl Tryz.underlying9 cellsErr cells9
  have g0 : Tryz.prog.globalNamed "strconv.ErrRange" = some 3 := by kernel_rfl
  have g1 : Tryz.prog.globalNamed "strconv.ErrSyntax" = some 2 := by kernel_rfl
  exact hid ⟨(tab_signals h4).out, Lib.tabIs_of_head (g := 4) (t := 179) (n := 20) (by kernel_rfl) (by kernel_rfl) (by kernel_rfl) Tryz.underlying129 cellsU64 (by kernel_rfl) h3,
    ⟨_, _, World.var?_cell g1 hv1 0⟩, ⟨_, _, World.var?_cell g0 hv0 0⟩, Tryz.laysM146.s1_3 W hS⟩
theorem ownK : ownKnob Tryz.prog.godebug = none := by kernel_rfl
theorem laidOutK : laidOutB Tryz.prog = true := by kernel_rfl
/-- What came in reads as it did, where nothing that was there has turned. -/
theorem trodAll_below {H : Type} {enc : TypeId × Value → H} {P : Program} (hl : laidOutB P = true) {W W' : World} (hb : Below W.heap.size W W') : ∀ (ts : List TypeId) (vs : List Value) (ds : List (DataW H)) (ps : List MemPlace),
    (∀ t ∈ ts, P.readableRec t = true ∧ t < P.types.size) → DataW.TrodAll enc P W 0 (fun _ => true) true ts vs ds ps → (∀ x ∈ ps, x.block < W.heap.size) →
    DataW.TrodAll enc P W' 0 (fun b => decide (b < W.heap.size)) true ts vs ds ps
  | [], vs, ds, ps, _, h, _ => by
    obtain ⟨rfl, rfl, rfl⟩ := trodAll_nil h
    exact trodAll_mk0
  | t :: ts, vs, ds, ps, hr, h, hlt => by
    obtain ⟨v0, vs0, d0, ds0, p0, q0, rfl, rfl, rfl, h0, r0⟩ := trodAll_cons h
    obtain ⟨h1, h2⟩ := hr t (by simp)
    exact trodAll_cons_mk (Below.trod hl h1 h2 h0 hb (fun x hx => hlt x (by simp [hx]))) (trodAll_below hl hb ts vs0 ds0 q0 (fun t ht => hr t (by simp [ht])) r0 (fun x hx => hlt x (by simp [hx])))
/-- A law has returned true, and nothing that was there has turned: what its row asks. -/
theorem law_post {H : Type} {enc : TypeId × Value → H} {P : Program} (hl : laidOutB P = true) {fn : Func} {s : ChangeSpec} {W W' : World} {args : Array Value} {ds : List (DataW H)} {p : List MemPlace}
    (h4 : P.underlying 4 = some .bool) (hres : fn.resultTypes = #[4]) (hvars : s.vars = []) (hparams : ∀ t ∈ fn.params.toList, P.readableRec t = true ∧ t < P.types.size)
    (hspec : (s.fn H (ds ++ [])).results = [.lit (.bool true)] ∧ (s.fn H (ds ++ [])).args = ds ∧ (s.fn H (ds ++ [])).vars = [])
    (hW : DataW.Whole enc P fn.params.toList s.vars false W args.toList ds [] p) (hA : DataW.TrodAll enc P W 0 (fun _ => true) true fn.params.toList args.toList ds p) (hb : Below W.heap.size W W') :
    s.post enc P fn false true false false W args (.bool true) W' := by
  refine ⟨ds, [], p, [], p, [], hW, ?_, ?_, ?_, hb.frame _, fun h => by cases h⟩
  · rw [hspec.1, hres]
    exact trodAll_mk1 (shut_bool h4 true)
  · rw [hspec.2.1]
    exact trodAll_below hl hb _ _ _ _ hparams hA (fun x hx => hW.lt x hx)
  · rw [hspec.2.2, hvars]
    rfl
/-- A datum's cells, where it holds no pointer. -/
def flat : Nat → DataW Unit → List Value
  | n + 1, .agg xs => xs.flatMap (flat n)
  | _ + 1, .lit (.int k z) => [.int k z]
  | _ + 1, .lit (.string b) => [.string (bs b)]
  | _ + 1, .lit (.bool b) => [.bool b]
  | _, _ => []
/-- A world for the witness: the settled one, the eight variables holding what the text lays, the two errors in two blocks more. -/
noncomputable def laidWorld (os : Os) : World :=
  let N := (World.settled Tryz.prog os).heap.size
  let w0 := World.holding Tryz.prog os ⟨#[.cells #[.string (bs [118, 97, 108, 117, 101, 32, 111, 117, 116, 32, 111, 102, 32, 114, 97, 110, 103, 101])] 188, .cells #[.string (bs [105, 110, 118, 97, 108, 105, 100, 32, 115, 121, 110, 116, 97, 120])] 188], #[], []⟩
  let put (h : Array Obj) (g : Nat) (cs : Array Value) : Array Obj := h.modify g fun
    | .cells _ t frozen => .cells cs t frozen
    | o => o
  let h1 := put w0.heap 7 (flat 4 Rows.laid_math_bits_deBruijn32tab).toArray
  let h2 := put h1 8 (flat 4 Rows.laid_math_bits_deBruijn64tab).toArray
  let h3 := put h2 4 (flat 4 Rows.laid_internal_strconv_uint64pow10).toArray
  let h4 := put h3 0 (flat 4 Rows.laid_parlour_sigset_signals).toArray
  let h5 := put h4 6 (flat 4 Rows.laid_unicode_utf8_acceptRanges).toArray
  let h6 := put h5 3 #[.iface 186 (.pointer (some ⟨N, 0, none⟩))]
  let h7 := put h6 2 #[.iface 186 (.pointer (some ⟨N + 1, 0, none⟩))]
  let h8 := put h7 5 (flat 4 Rows.laid_unicode_utf8_first).toArray
  { w0 with heap := h8 }
end L19
end Go.Proofs.YteeienmigoebmaaGreatDoor
