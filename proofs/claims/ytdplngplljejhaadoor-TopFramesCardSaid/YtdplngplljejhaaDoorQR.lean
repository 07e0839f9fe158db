import Derived.Test.YtdplngplljejhaaDoorCards
import Derived.Test.YtdplngplljejhaaDoorTie
import Derived.Test.YtdplngplljejhaaDoorShelf
import Derived.Test.YtdplngplljejhaaDoorWO
import Derived.Test.YtdplngplljejhaaDoorQO
import Derived.Deep.DeepHandedRow
import Derived.Lib.LaidTab
namespace Go.Proofs.YtdplngplljejhaaDoor
open Go.ChangeShapes Go.WideShapes Go.ChangeAt Go.RowKit Go.Deep

theorem ownK : ownKnob Tryd.prog.godebug = none := by kernel_rfl
theorem laidOutK : laidOutB Tryd.prog = true := by kernel_rfl

/-- What came in reads as it did, where nothing that was there has turned. -/
theorem trodAll_below {H : Type} {enc : TypeId × Value → H} {P : Program} (hl : laidOutB P = true) {W W' : World} (hb : Below W.heap.size W W') : ∀ (ts : List TypeId) (vs : List Value) (ds : List (DataW H)) (ps : List MemPlace),
    (∀ t ∈ ts, P.readableRec t = true ∧ t < P.types.size) → DataW.TrodAll enc P W 0 (fun _ => true) true ts vs ds ps → (∀ x ∈ ps, x.block < W.heap.size) →
    DataW.TrodAll enc P W' 0 (fun b => decide (b < W.heap.size)) true ts vs ds ps
  | [], vs, ds, ps, _, h, _ => by
    obtain ⟨rfl, rfl, rfl⟩ := trodAll_nil h
    exact trodAll_mk0
  | t :: ts, vs, ds, ps, hr, h, hlt => by
    obtain ⟨v0, vs0, d0, ds0, p0, q0, rfl, rfl, rfl, h0, r0⟩ := trodAll_cons h
    obtain ⟨h1, h2⟩ := hr t (by simp)
    exact trodAll_cons_mk (Below.trod hl h1 h2 h0 hb (fun x hx => hlt x (by simp [hx]))) (trodAll_below hl hb ts vs0 ds0 q0 (fun t ht => hr t (by simp [ht])) r0 (fun x hx => hlt x (by simp [hx])))

/-- A law has returned true, and nothing that was there has turned: what its row asks. -/
theorem law_post {H : Type} {enc : TypeId × Value → H} {P : Program} (hl : laidOutB P = true) {fn : Func} {s : ChangeSpec} {W W' : World} {args : Array Value} {ds : List (DataW H)} {p : List MemPlace}
    (h4 : P.underlying 4 = some .bool) (hres : fn.resultTypes = #[4]) (hvars : s.vars = []) (hparams : ∀ t ∈ fn.params.toList, P.readableRec t = true ∧ t < P.types.size)
    (hspec : (s.fn H (ds ++ [])).results = [.lit (.bool true)] ∧ (s.fn H (ds ++ [])).args = ds ∧ (s.fn H (ds ++ [])).vars = [])
    (hW : DataW.Whole enc P fn.params.toList s.vars false W args.toList ds [] p) (hA : DataW.TrodAll enc P W 0 (fun _ => true) true fn.params.toList args.toList ds p) (hb : Below W.heap.size W W') :
    s.post enc P fn false true false false W args (.bool true) W' := by
  refine ⟨ds, [], p, [], p, [], hW, ?_, ?_, ?_, hb.frame _, fun h => by cases h⟩
  · rw [hspec.1, hres]
    exact trodAll_mk1 (shut_bool h4 true)
  · rw [hspec.2.1]
    exact trodAll_below hl hb _ _ _ _ hparams hA (fun x hx => hW.lt x hx)
  · rw [hspec.2.2, hvars]
    rfl

/-- The cell of the library's one variable that isn't listed: some number. -/
theorem max_len {W : World} (h : W.ShapedOpen Tryd.prog) : ∃ m, W.cell? ⟨0, 0, none⟩ = some (.int .i64 m) := Tryd.laysM146.s1_3 W h

/-- A world for the witness: the settled one, the two listed tables holding what the text lays. -/
noncomputable def laidWorld (os : Os) : World :=
  let w0 := World.holding Tryd.prog os ⟨#[], #[], []⟩
  let put (h : Array Obj) (g : Nat) (cs : Array Value) : Array Obj := h.modify g fun
    | .cells _ t frozen => .cells cs t frozen
    | o => o
  let h1 := put w0.heap 1 (Go.Pinned.utf8FirstZ.map fun z : Nat => Value.int .u8 (z : Int)).toArray
  let h2 := put h1 2 ([128, 191, 160, 191, 128, 159, 144, 191, 128, 143, 0, 0, 0, 0, 0, 0, 0, 0, 0, 0, 0, 0, 0, 0, 0, 0, 0, 0, 0, 0, 0, 0].map fun z : Int => Value.int .u8 z).toArray
  { w0 with heap := h2 }
theorem q_cells28 : Tryd.prog.cellsOf 28 = 11 := by kernel_rfl
theorem q_cells26 : Tryd.prog.cellsOf 26 = 4 := by kernel_rfl
theorem q_cells4 : Tryd.prog.cellsOf 4 = 1 := by kernel_rfl
theorem q_cells3 : Tryd.prog.cellsOf 3 = 1 := by kernel_rfl
theorem q_cells24 : Tryd.prog.cellsOf 24 = 1 := by kernel_rfl
theorem q_cells9 : Tryd.prog.cellsOf 9 = 1 := by kernel_rfl
theorem q_cells22 : Tryd.prog.cellsOf 22 = 1 := by kernel_rfl
section
variable {H : Type} {enc : TypeId × Value → H} {w : World} {base : Nat} {spare : Nat → Bool} {held : Bool}
theorem sl_open {v : Value} {d : DataW H} {p : List MemPlace} (h : DataW.Trod enc Tryd.prog w base spare held 22 v d p) (hv : ∃ a n c, v = .slice a n c) :
    ∃ A c bs, v = .slice A bs.length c ∧ SlB w w.heap.size A c bs := by
  obtain ⟨fuel, hf⟩ := h
  obtain ⟨A0, n0, c0, rfl⟩ := hv
  obtain ⟨A, c, bs, e, h1, h2, h3, h4⟩ := bytes_open hf
  have e' : Value.slice A0 n0 c0 = .slice A bs.length c := by simpa [Value.cells] using e
  exact ⟨A, c, bs, e', h1, h2, h3, h4⟩
set_option maxRecDepth 100000 in
/-- A request that came in. -/
theorem req_open {v : Value} {d : DataW H} {p : List MemPlace} (h : DataW.Trod enc Tryd.prog w base spare held 28 v d p) (hv : ∃ cs : Array Value, v = .agg cs ∧ cs.size = Tryd.prog.cellsOf 28) :
    ∃ A c, ∃ r : Rq, v = .agg (r.cells A c) ∧ r.Ok ∧ SlB w w.heap.size A c r.modes := by
  obtain ⟨fuel, hf⟩ := h
  obtain ⟨cs0, rfl, hsz⟩ := hv
  rw [q_cells28] at hsz
  obtain ⟨xs, n, _, _, hlen, hxl, hff⟩ := DataW.trod_struct Tryd.underlying28 hf
  obtain ⟨l⟩ := cs0
  match l, hsz with
  | [v0, v1, v2, v3, v4, v5, v6, v7, v8, v9, v10], _ =>
    have h0 : DataW.trod enc Tryd.prog w base spare held n 3 (([v0, v1, v2, v3, v4, v5, v6, v7, v8, v9, v10].drop 0).take (Tryd.prog.cellsOf 3)) = xs[0]? := hff 0 _ rfl
    rw [q_cells3] at h0
    have h1 : DataW.trod enc Tryd.prog w base spare held n 9 (([v0, v1, v2, v3, v4, v5, v6, v7, v8, v9, v10].drop 1).take (Tryd.prog.cellsOf 9)) = xs[1]? := hff 1 _ rfl
    rw [q_cells9] at h1
    have h2 : DataW.trod enc Tryd.prog w base spare held n 9 (([v0, v1, v2, v3, v4, v5, v6, v7, v8, v9, v10].drop 2).take (Tryd.prog.cellsOf 9)) = xs[2]? := hff 2 _ rfl
    rw [q_cells9] at h2
    have h3 : DataW.trod enc Tryd.prog w base spare held n 9 (([v0, v1, v2, v3, v4, v5, v6, v7, v8, v9, v10].drop 3).take (Tryd.prog.cellsOf 9)) = xs[3]? := hff 3 _ rfl
    rw [q_cells9] at h3
    have h4 : DataW.trod enc Tryd.prog w base spare held n 26 (([v0, v1, v2, v3, v4, v5, v6, v7, v8, v9, v10].drop 4).take (Tryd.prog.cellsOf 26)) = xs[4]? := hff 4 _ rfl
    rw [q_cells26] at h4
    have h5 : DataW.trod enc Tryd.prog w base spare held n 22 (([v0, v1, v2, v3, v4, v5, v6, v7, v8, v9, v10].drop 8).take (Tryd.prog.cellsOf 22)) = xs[5]? := hff 5 _ rfl
    rw [q_cells22] at h5
    have h6 : DataW.trod enc Tryd.prog w base spare held n 4 (([v0, v1, v2, v3, v4, v5, v6, v7, v8, v9, v10].drop 9).take (Tryd.prog.cellsOf 4)) = xs[6]? := hff 6 _ rfl
    rw [q_cells4] at h6
    have h7 : DataW.trod enc Tryd.prog w base spare held n 24 (([v0, v1, v2, v3, v4, v5, v6, v7, v8, v9, v10].drop 10).take (Tryd.prog.cellsOf 24)) = xs[7]? := hff 7 _ rfl
    rw [q_cells24] at h7
    match xs, hxl with
    | [y0, y1, y2, y3, y4, y5, y6, y7], _ =>
      have h0 : DataW.trod enc Tryd.prog w base spare held n 3 [v0] = some y0 := h0
      have h1 : DataW.trod enc Tryd.prog w base spare held n 9 [v1] = some y1 := h1
      have h2 : DataW.trod enc Tryd.prog w base spare held n 9 [v2] = some y2 := h2
      have h3 : DataW.trod enc Tryd.prog w base spare held n 9 [v3] = some y3 := h3
      have h4 : DataW.trod enc Tryd.prog w base spare held n 26 [v4, v5, v6, v7] = some y4 := h4
      have h5 : DataW.trod enc Tryd.prog w base spare held n 22 [v8] = some y5 := h5
      have h6 : DataW.trod enc Tryd.prog w base spare held n 4 [v9] = some y6 := h6
      have h7 : DataW.trod enc Tryd.prog w base spare held n 24 [v10] = some y7 := h7
      obtain ⟨kd, e0, _, w0⟩ := DataW.trod_int Tryd.underlying3 h0
      have b0 := bounds_i64 w0
      obtain ⟨tx, e1, _, s1⟩ := DataW.trod_string Tryd.underlying9 h1
      obtain ⟨va, e2, _, s2⟩ := DataW.trod_string Tryd.underlying9 h2
      obtain ⟨la, e3, _, s3⟩ := DataW.trod_string Tryd.underlying9 h3
      obtain ⟨zs, n2, _, _, zlen, zxl, zff⟩ := DataW.trod_struct Tryd.underlying26 h4
      have g0 : DataW.trod enc Tryd.prog w base spare held n2 24 (([v4, v5, v6, v7].drop 0).take (Tryd.prog.cellsOf 24)) = zs[0]? := zff 0 _ rfl
      have g1 : DataW.trod enc Tryd.prog w base spare held n2 24 (([v4, v5, v6, v7].drop 1).take (Tryd.prog.cellsOf 24)) = zs[1]? := zff 1 _ rfl
      have g2 : DataW.trod enc Tryd.prog w base spare held n2 24 (([v4, v5, v6, v7].drop 2).take (Tryd.prog.cellsOf 24)) = zs[2]? := zff 2 _ rfl
      have g3 : DataW.trod enc Tryd.prog w base spare held n2 24 (([v4, v5, v6, v7].drop 3).take (Tryd.prog.cellsOf 24)) = zs[3]? := zff 3 _ rfl
      rw [q_cells24] at g0 g1 g2 g3
      match zs, zxl with
      | [z0, z1, z2, z3], _ =>
        have g0 : DataW.trod enc Tryd.prog w base spare held n2 24 [v4] = some z0 := g0
        have g1 : DataW.trod enc Tryd.prog w base spare held n2 24 [v5] = some z1 := g1
        have g2 : DataW.trod enc Tryd.prog w base spare held n2 24 [v6] = some z2 := g2
        have g3 : DataW.trod enc Tryd.prog w base spare held n2 24 [v7] = some z3 := g3
        obtain ⟨n4, e4, _, w4⟩ := DataW.trod_int Tryd.underlying24 g0
        have b4 := bounds_u32 w4
        obtain ⟨n4, rfl⟩ := Int.eq_ofNat_of_zero_le b4.1
        obtain ⟨n5, e5, _, w5⟩ := DataW.trod_int Tryd.underlying24 g1
        have b5 := bounds_u32 w5
        obtain ⟨n5, rfl⟩ := Int.eq_ofNat_of_zero_le b5.1
        obtain ⟨n6, e6, _, w6⟩ := DataW.trod_int Tryd.underlying24 g2
        have b6 := bounds_u32 w6
        obtain ⟨n6, rfl⟩ := Int.eq_ofNat_of_zero_le b6.1
        obtain ⟨n7, e7, _, w7⟩ := DataW.trod_int Tryd.underlying24 g3
        have b7 := bounds_u32 w7
        obtain ⟨n7, rfl⟩ := Int.eq_ofNat_of_zero_le b7.1
        obtain ⟨A, c, bs, e8, k1, k2, k3, k4⟩ := bytes_open h5
        obtain ⟨on, e9, _⟩ := DataW.trod_bool Tryd.underlying4 h6
        obtain ⟨n10, e10, _, w10⟩ := DataW.trod_int Tryd.underlying24 h7
        have b10 := bounds_u32 w10
        obtain ⟨n10, rfl⟩ := Int.eq_ofNat_of_zero_le b10.1
        simp only [List.cons.injEq, and_true] at e0 e1 e2 e3 e4 e5 e6 e7 e8 e9 e10
        subst e0; subst e1; subst e2; subst e3; subst e4; subst e5; subst e6; subst e7; subst e8; subst e9; subst e10
        have c4 := b4.2
        have c5 := b5.2
        have c6 := b6.2
        have c7 := b7.2
        have c10 := b10.2
        refine ⟨A, c, ⟨kd, tx, va, la, n4, n5, n6, n7, bs, on, n10⟩, rfl, ⟨b0, s1, s2, s3, ?_, ?_, ?_, ?_, ?_⟩, k1, k2, k3, k4⟩
        · show n4 < 4294967296; omega
        · show n5 < 4294967296; omega
        · show n6 < 4294967296; omega
        · show n7 < 4294967296; omega
        · show n10 < 4294967296; omega
end
end Go.Proofs.YtdplngplljejhaaDoor
