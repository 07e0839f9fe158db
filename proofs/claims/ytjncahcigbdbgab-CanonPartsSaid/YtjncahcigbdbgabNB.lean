/- Bytes in walks, without settings: what several layers use. -/
import Derived.Test.YtjncahcigbdbgabBA
import Derived.ProofKit
import Derived.OpenShut
import Derived.SliceStrings
import Derived.Deep.Slices
import Derived.Deep.Fields
import Derived.Deep.DeepHandedRow
import Derived.Lib.LaidTab
import Derived.SizedLaws
import Derived.Deep.RegionHeld3
import Derived.Lib.SliceRun
import Derived.Lib.SlBytesConst
namespace Go.Proofs.Ytjncahcigbdbgab
open Go.ChangeShapes Go.WideShapes Go.ChangeAt Go.RowKit Go.Deep

def i64ok (x : Int) : Prop := -9223372036854775808 ≤ x ∧ x ≤ 9223372036854775807
theorem i64_of {x : Int} (h : (Lit.int .i64 x).wf = true) : i64ok x := by
  have := bounds_i64 h
  exact ⟨this.1, this.2⟩
theorem cells3 : Try.prog.cellsOf 3 = 1 := by kernel_rfl
theorem cells4 : Try.prog.cellsOf 4 = 1 := by kernel_rfl
theorem cells5 : Try.prog.cellsOf 5 = 1 := by kernel_rfl
theorem cells32 : Try.prog.cellsOf 23 = 1 := by kernel_rfl
theorem one_at {cs : List Value} {o : Nat} {v : Value} (h : (cs.drop o).take 1 = [v]) : cs[o]? = some v := by
  have := congrArg (fun l => l[0]?) h
  simpa using this
section
variable {H : Type} {enc : TypeId × Value → H} {w : World} {base : Nat} {spare : Nat → Bool} {held : Bool}
/-- A slice of bytes among what came in. -/
theorem bytes_open {fuel : Nat} {cs : List Value} {x : DataW H × List MemPlace} (h : DataW.trod enc Try.prog w base spare held fuel 23 cs = some x) :
    ∃ A c bs, cs = [.slice A bs.length c] ∧ SlB w w.heap.size A c bs := by
  rcases open_ints Try.underlying23 Try.underlying5 cells5 h with ⟨rfl, _⟩ | ⟨a, len, cap, zs, rfl, _, hl, hm, hz, _, hcell, hwz⟩
  · exact ⟨none, 0, [], rfl, Nat.le_refl _, Nat.zero_le _, fun _ => rfl, Lies.nil_⟩
  · have hzl : len ≤ zs.length := by rw [hz]; split <;> omega
    refine ⟨some a, cap, (zs.take len).map fun z => UInt8.ofNat z.toNat, ?_, ?_, hm, by simp, ?_⟩
    · simp [Nat.min_eq_left hzl]
    · simp [Nat.min_eq_left hzl]; exact hl
    · intro hne
      have h0 : 0 < zs.length := by
        rcases Nat.eq_zero_or_pos zs.length with h | h
        · exfalso; apply hne; simp [bv, List.eq_nil_of_length_eq_zero h]
        · exact h
      have hb : a.block < w.heap.size := by
        have := World.block_lt_of_cell? w _ (hcell 0 h0)
        simpa [Addr.add] using this
      refine Lies.of_add hb (fun j u hu => ?_) hne
      have hj : j < len ∧ j < zs.length := by
        have := (List.getElem?_eq_some_iff.1 hu).1
        simp [bv] at this; omega
      rw [hcell j hj.2]
      have hw := hwz (zs[j]'hj.2) (List.getElem_mem _)
      have hr : 0 ≤ zs[j]'hj.2 ∧ zs[j]'hj.2 ≤ 255 := bounds_u8 hw
      simp only [bv, List.map_map, List.getElem?_map, List.getElem?_take, hj.1, if_true, List.getElem?_eq_getElem hj.2, Option.map_some, Function.comp] at hu
      rw [← hu]
      simp only [List.getD, List.getElem?_eq_getElem hj.2, Option.getD_some]
      congr 2
      simp
      omega
end
section
variable {H : Type} {enc : TypeId × Value → H} {w : World} {base : Nat} {spare : Nat → Bool} {held : Bool}
theorem sl_open {v : Value} {d : DataW H} {p : List MemPlace} (h : DataW.Trod enc Try.prog w base spare held 23 v d p) (hv : ∃ a n c, v = .slice a n c) :
    ∃ A c bs, v = .slice A bs.length c ∧ SlB w w.heap.size A c bs := by
  obtain ⟨fuel, hf⟩ := h
  obtain ⟨A0, n0, c0, rfl⟩ := hv
  obtain ⟨A, c, bs, e, h1⟩ := bytes_open hf
  have e' : Value.slice A0 n0 c0 = .slice A bs.length c := by simpa [Value.cells] using e
  exact ⟨A, c, bs, e', h1⟩
end
theorem ownK : ownKnob Try.prog.godebug = none := by kernel_rfl
theorem laidOutK : laidOutB Try.prog = true := by kernel_rfl

/-- A call of a law begins in some world. -/
noncomputable def startWorld (os : Os) : World := World.holding Try.prog os ⟨#[], #[], []⟩
/-- What came in reads as it did, where nothing that was there has turned. -/
theorem trodAll_below {H : Type} {enc : TypeId × Value → H} {P : Program} (hl : laidOutB P = true) {W W' : World} (hb : Below W.heap.size W W') : ∀ (ts : List TypeId) (vs : List Value) (ds : List (DataW H)) (ps : List MemPlace),
    (∀ t ∈ ts, P.readableRec t = true ∧ t < P.types.size) → DataW.TrodAll enc P W 0 (fun _ => true) true ts vs ds ps → (∀ x ∈ ps, x.block < W.heap.size) →
    DataW.TrodAll enc P W' 0 (fun b => decide (b < W.heap.size)) true ts vs ds ps
  | [], vs, ds, ps, _, h, _ => by
    obtain ⟨rfl, rfl, rfl⟩ := trodAll_nil h
    exact trodAll_mk0
  | t :: ts, vs, ds, ps, hr, h, hlt => by
    obtain ⟨v0, vs0, d0, ds0, p0, q0, rfl, rfl, rfl, h0, r0⟩ := trodAll_cons h
    obtain ⟨h1, h2⟩ := hr t (by simp)
    exact trodAll_cons_mk (Below.trod hl h1 h2 h0 hb (fun x hx => hlt x (by simp [hx]))) (trodAll_below hl hb ts vs0 ds0 q0 (fun t ht => hr t (by simp [ht])) r0 (fun x hx => hlt x (by simp [hx])))

/-- A law has returned true, and nothing that was there has turned: what its row asks. -/
theorem law_post {H : Type} {enc : TypeId × Value → H} {P : Program} (hl : laidOutB P = true) {fn : Func} {s : ChangeSpec} {W W' : World} {args : Array Value} {ds : List (DataW H)} {p : List MemPlace}
    (h4 : P.underlying 4 = some .bool) (hres : fn.resultTypes = #[4]) (hvars : s.vars = []) (hparams : ∀ t ∈ fn.params.toList, P.readableRec t = true ∧ t < P.types.size)
    (hspec : (s.fn H (ds ++ [])).results = [.lit (.bool true)] ∧ (s.fn H (ds ++ [])).args = ds ∧ (s.fn H (ds ++ [])).vars = [])
    (hW : DataW.Whole enc P fn.params.toList s.vars false W args.toList ds [] p) (hA : DataW.TrodAll enc P W 0 (fun _ => true) true fn.params.toList args.toList ds p) (hb : Below W.heap.size W W') :
    s.post enc P fn false true false false W args (.bool true) W' := by
  refine ⟨ds, [], p, [], p, [], hW, ?_, ?_, ?_, hb.frame _, fun h => by cases h⟩
  · rw [hspec.1, hres]
    exact trodAll_mk1 (shut_bool h4 true)
  · rw [hspec.2.1]
    exact trodAll_below hl hb _ _ _ _ hparams hA (fun x hx => hW.lt x hx)
  · rw [hspec.2.2, hvars]
    rfl
theorem slb_lit (w : World) (bs : List UInt8) (n : Nat) (cs : Array Value) (hc : (bv bs).toArray = cs) (hn : bs.length = n) (hm : n ≤ maxLen) : SlB (w.alloc (.cells cs 5)) (w.alloc (.cells cs 5)).heap.size (some ⟨w.heap.size, 0, none⟩) n bs := by
  subst hc
  subst hn
  refine ⟨Nat.le_refl _, hm, by simp, ?_⟩
  have := lies_lit w (bv bs).toArray 5
  rw [World.size_alloc]
  simpa using this
theorem slb_grow {w w' : World} {A : Option Addr} {c : Nat} {bs : List UInt8} (h : SlB w w.heap.size A c bs) (k : Below w.heap.size w w') : SlB w' w'.heap.size A c bs :=
  ⟨h.1, h.2.1, h.2.2.1, (h.2.2.2.below k).more k.size⟩
theorem bel_t {w a b : World} (h : Hid (Below w.heap.size w a)) (k : Below a.heap.size a b) : Hid (Below w.heap.size w b) := hid (h.out.trans (k.mono h.out.size))
theorem info_parts {P : Program} {t : TypeId} {z : Value} {s b : Nat} (h : (P.info? t).map (fun i => (i.zero, i.size, i.bytes)) = some (some z, s, b)) : ∃ i, P.info? t = some i ∧ i.zero = some z ∧ i.size = s ∧ i.bytes = b := by
  cases hq : P.info? t with
  | none => simp [hq] at h
  | some i =>
    simp [hq] at h
    exact ⟨i, rfl, h.1, h.2.1, h.2.2⟩
/-- A call has answered these bytes; nothing that was there has turned. -/
def Ret (w : World) (bs : List UInt8) (e : Ending) (w' : World) : Prop := ∃ A n c, e = .returned (.slice A n c) ∧ Hid (bs.length = n) ∧ Hid (SlB w' w'.heap.size A c bs) ∧ Hid (Below w.heap.size w w')
/-- Bytes are put behind what is the call's own. -/
theorem app_own {ops : Array Oper} {rest : List Oper} {o : Oper} {a : Act} {Q : Exit → Act → World → Prop} (w : World) (hgd : o.guard = none) (s x : Operand) (ho : o.op = .call { callee := .builtin .append, args := #[s, x], argTypes := #[23, 23] })
    (base n c : Nat) (A : Option Addr) (xs : List UInt8) (hs : a.eval s = .slice A n c) (hown : Hid (w.ownsRow base 5 1 (.slice A n c) n (bv xs))) (hb : base ≤ w.heap.size) (A2 : Option Addr) (m c2 : Nat) (ys : List UInt8)
    (hx : a.eval x = .slice A2 m c2) (hS : Hid (SlB w w.heap.size A2 c2 ys)) (hy : ys.length = m) (hm : n + m ≤ 140737488355328)
    (h : ∀ A' c' w', Hid (w'.ownsRow base 5 1 (.slice A' (n + m) c') (n + m) (bv (xs ++ ys))) → Hid (Kept base [5] w w') → wpList Try.prog ops Q rest (a.put o.dst (.slice A' (n + m) c')) w') : wpList Try.prog ops Q (o :: rest) a w := by
  subst hy
  obtain ⟨i5, hi5, hz5, hz51, hz52⟩ := info_parts Try.info5
  refine wpList_app _ hgd s x 23 ho base 5 i5 _ 1 1 Try.underlying23 hi5 hz5 hz51 hz52 rfl (by decide) A n c (bv xs) hs hown.out w.heap.size A2 ys.length c2 (bv ys) hx (by rw [bv_length, Nat.mul_one]) hS.out.2.2.2 (bv_one _) (by unfold maxLen; omega) (by omega) hb ?_
  intro A3 c3 u2 ho2 hg2
  rw [← bv_append] at ho2
  have hk : Kept base [5] w u2 := (Kept.refl base [5] w).grown hg2 (fun k hk => by obtain ⟨a, cs, b⟩ := own_box hown.out k hk; exact ⟨a, 5, cs, by simp, b⟩)
  exact h A3 c3 u2 (hid ho2) (hid hk)
theorem ret_lit {w u : World} {bs : List UInt8} {n g : Nat} {cs : Array Value} (hc : (bv bs).toArray = cs) (hn : bs.length = n) (hm : n ≤ maxLen) (hg : g = u.heap.size) (hb : Hid (Below w.heap.size w u)) : Ret w bs (.returned (.slice (some ⟨g, 0, none⟩) n n)) (u.alloc (.cells cs 5)) := by
  subst hg
  exact ⟨_, n, n, rfl, hid hn, hid (slb_lit u bs n cs hc hn hm), hid (hb.out.alloc hb.out.size _)⟩
theorem ret_nil {w u : World} (hb : Hid (Below w.heap.size w u)) : Ret w [] (.returned (.slice none 0 0)) u := ⟨none, 0, 0, rfl, hid rfl, hid ⟨Nat.le_refl _, Nat.zero_le _, fun _ => rfl, Lies.nil_⟩, hb⟩
theorem slb_cell {w : World} {B n c : Nat} {A : Option Addr} {bs : List UInt8} (h : SlB w B A c bs) {j : Nat} (hn : bs.length = n) (hj : j < n) : ∃ b o y, A = some ⟨b, o, none⟩ ∧ bs[j]? = some y ∧ w.cell? ⟨b, o + j, none⟩ = some (.int .u8 (y.toNat : Int)) := by
  subst hn
  obtain ⟨b, o, rfl, hb, hc⟩ := h.2.2.2 (by
    intro e
    have : bs = [] := by simpa [bv] using e
    rw [this] at hj
    simp at hj)
  obtain ⟨y, hy⟩ : ∃ y, bs[j]? = some y := ⟨_, List.getElem?_eq_getElem hj⟩
  exact ⟨b, o, y, rfl, hy, hc j _ (by simp [bv, hy])⟩
theorem ret_own {w u : World} {bs : List UInt8} {n c : Nat} {A : Option Addr} (hn : bs.length = n) (ho : Hid (u.ownsRow w.heap.size 5 1 (.slice A n c) n (bv bs))) (hb : Hid (Below w.heap.size w u)) : Ret w bs (.returned (.slice A n c)) u := by
  subst hn
  exact ⟨A, _, c, rfl, hid rfl, hid (own_slb (_n := 0) ho.out), hb⟩
theorem bel_k {w a b : World} (h : Hid (Below w.heap.size w a)) (k : Hid (Kept w.heap.size [5] a b)) : Hid (Below w.heap.size w b) := hid (h.out.trans (k.out.below h.out.size))
theorem bytes_eq (w : World) (A A2 : Option Addr) (c c2 n : Nat) (xs : List UInt8) (hn : xs.length = n) (hx : Hid (SlB w w.heap.size A c xs)) (hy : Hid (SlB w w.heap.size A2 c2 xs)) (hl : n ≤ maxLen) :
    Calls Try.prog 17 #[.slice A n c, .slice A2 n c2] w fun e w' => e = .returned (.bool true) ∧ Hid (Below w.heap.size w w') := by
  subst hn
  refine (bytes_any w _ _ A A2 c c2 xs xs hx.out.2.2.2 hy.out.2.2.2 hl hl).mono ?_
  rintro e w' ⟨rfl, k, rfl⟩
  exact ⟨by simp, hid (bel_drewN (Below.refl _ _) k)⟩
theorem bytes_two (w : World) (A A2 : Option Addr) (c c2 n n2 : Nat) (xs ys : List UInt8) (hn : xs.length = n) (hn2 : ys.length = n2) (hxy : xs = ys) (hx : Hid (SlB w w.heap.size A c xs)) (hy : Hid (SlB w w.heap.size A2 c2 ys)) (hl : n ≤ maxLen) :
    Calls Try.prog 17 #[.slice A n c, .slice A2 n2 c2] w fun e w' => e = .returned (.bool true) ∧ Hid (Below w.heap.size w w') := by
  subst hxy
  obtain rfl : n = n2 := by omega
  exact bytes_eq w A A2 c c2 n xs hn hx hy hl
theorem bytes_lit (w : World) (A : Option Addr) (c n g : Nat) (xs : List UInt8) (hn : xs.length = n) (hx : Hid (SlB w w.heap.size A c xs)) (cs : Array Value) (hc : (bv xs).toArray = cs) (hg : g = w.heap.size) (hl : n ≤ maxLen) :
    Calls Try.prog 17 #[.slice A n c, .slice (some ⟨g, 0, none⟩) n n] (w.alloc (.cells cs 5)) fun e w' => e = .returned (.bool true) ∧ Hid (Below w.heap.size w w') := by
  subst hg
  refine (bytes_eq _ A _ c n n xs hn (slb_at hx (hid ((Below.refl _ w).alloc (Nat.le_refl _) _))) (hid (slb_lit w xs n cs hc hn hl)) hl).mono ?_
  rintro e w' ⟨rfl, h⟩
  exact ⟨rfl, hid (((Below.refl _ w).alloc (Nat.le_refl _) _).trans (h.out.mono (by simp)))⟩
theorem drw {w u : World} (h : Hid (Below w.heap.size w u)) : Hid (Below w.heap.size w u.drew) := hid h.out.drew
/-- A stream is copied to an empty literal. -/
theorem app_copy {ops : Array Oper} {rest : List Oper} {o : Oper} {a : Act} {Q : Exit → Act → World → Prop} (w : World) (hgd : o.guard = none) (s x : Operand) (ho : o.op = .call { callee := .builtin .append, args := #[s, x], argTypes := #[23, 23] })
    (hs : a.eval s = .slice (some ⟨w.heap.size, 0, none⟩) 0 0) (A : Option Addr) (n c : Nat) (bs : List UInt8) (hx : a.eval x = .slice A n c) (hS : Hid (SlB w w.heap.size A c bs)) (hn : bs.length = n) (hm : n ≤ 140737488355328)
    (h : ∀ A2 c2 u2, Hid (Below w.heap.size w u2) → Hid (SlB u2 u2.heap.size A2 c2 bs) → wpList Try.prog ops Q rest (a.put o.dst (.slice A2 n c2)) u2) : wpList Try.prog ops Q (o :: rest) a (w.alloc (.cells #[] 5)) := by
  subst hn
  obtain ⟨i5, hi5, hz5, hz51, hz52⟩ := info_parts Try.info5
  refine wpList_app _ hgd s x 23 ho w.heap.size 5 i5 _ 1 1 Try.underlying23 hi5 hz5 hz51 hz52 rfl (by decide) _ 0 0 [] hs (lit_own (Nat.le_refl _) rfl) w.heap.size A bs.length c (bv bs) hx (by rw [bv_length, Nat.mul_one]) (hS.out.2.2.2.alloc (Nat.le_refl _) _) (bv_one _) (by unfold maxLen; omega) (by omega) (by simp) ?_
  intro A2 c2 u2 ho2 hg2
  simp only [Nat.zero_add, List.nil_append] at ho2 ⊢
  exact h A2 c2 u2 (hid (lit_grown rfl hg2)) (hid (own_slb (_n := 0) ho2))
theorem bel_al {u W : World} {o : Obj} (h : Below u.heap.size u W) : Below u.heap.size u (W.alloc o) := h.alloc h.size o
theorem bel_dr {u W : World} (h : Below u.heap.size u W) : Below u.heap.size u W.drew := h.drew
theorem box_al {W : World} {g : Nat} {t : TypeId} {cs : Array Value} {o : Obj} (h : Box W g t cs) : Box (W.alloc o) g t cs := box_below h ((Below.refl _ W).alloc (Nat.le_refl _) o)
theorem box_dr {W : World} {g : Nat} {t : TypeId} {cs : Array Value} (h : Box W g t cs) : Box W.drew g t cs := h
theorem box_nw {w : World} {g : Nat} {cs : Array Value} {t : TypeId} (hg : g = w.heap.size) : Box (w.alloc (.cells cs t)) g t cs := by
  subst hg
  exact Box.new w t cs
theorem own_lit {W : World} {g base : Nat} (h : Box W g 5 #[]) (hb : base ≤ g) : W.ownsRow base 5 1 (.slice (some ⟨g, 0, none⟩) 0 0) 0 [] := by
  have := h.lt
  unfold Box at h
  refine ⟨by simp, Or.inr ⟨g, 0, #[], rfl, hb, by simpa using h, by simp, by simp, by simp, by simp⟩⟩
theorem Box.kept {W W' : World} {g B : Nat} {t : TypeId} {cs : Array Value} (h : Box W g t cs) (hb : Kept B [5] W W') (ht : t ∉ [5]) : Box W' g t cs := hb.box h ht
/-- In a region that draws its order: bytes are copied to an empty literal. -/
theorem step_copy {ops : Array Oper} {o : Oper} {a : Act} {K : Act → World → Prop} {Q : Exit → Act → World → Prop} {E : Prop} {W : World} (u v : World) (hgd : o.guard = none) (s x : Operand) (ho : o.op = .call { callee := .builtin .append, args := #[s, x], argTypes := #[23, 23] })
    (g : Nat) (hs : a.eval s = .slice (some ⟨g, 0, none⟩) 0 0) (hbox : Box W g 5 #[]) (hg : u.heap.size ≤ g) (hbel : Below u.heap.size u W) (hv : Below v.heap.size v W) (A : Option Addr) (n c : Nat) (bs : List UInt8) (hx : a.eval x = .slice A n c) (hS : Hid (SlB v v.heap.size A c bs)) (hn : Hid (bs.length = n)) (hm : n ≤ 140737488355328)
    (h : ∀ A2 c2 u2, Below u.heap.size u u2 → Hid (u2.ownsRow u.heap.size 5 1 (.slice A2 n c2) n (bv bs)) → K (a.put o.dst (.slice A2 n c2)) u2) :
    if Region.wanted o (yielded ops a.tmps) = true then Oper.wp Try.prog o a W K Q else E := by
  obtain rfl := hn.out
  obtain ⟨i5, hi5, hz5, hz51, hz52⟩ := info_parts Try.info5
  have how := own_lit hbox hg
  refine step_app _ hgd s x 23 ho u.heap.size 5 i5 _ 1 1 Try.underlying23 hi5 hz5 hz51 hz52 rfl (by decide) _ 0 0 [] hs how v.heap.size A bs.length c (bv bs) hx (by rw [bv_length, Nat.mul_one]) (hS.out.2.2.2.below hv) (bv_one _) (by unfold maxLen; omega) (by omega) hbel.size ?_
  intro A2 c2 u2 ho2 hg2
  simp only [Nat.zero_add, List.nil_append] at ho2 ⊢
  have hk : Kept u.heap.size [5] W u2 := (Kept.refl _ _ W).grown hg2 (fun k hk => by obtain ⟨a, cs, b⟩ := own_box how k hk; exact ⟨a, 5, cs, by simp, b⟩)
  exact h A2 c2 u2 (hbel.trans (hk.below hbel.size)) (hid ho2)
/-- In a region that draws its order: bytes are put behind what is the call's own. -/
theorem step_more {ops : Array Oper} {o : Oper} {a : Act} {K : Act → World → Prop} {Q : Exit → Act → World → Prop} {E : Prop} {W : World} (u v x0 : World) (hgd : o.guard = none) (s x : Operand) (ho : o.op = .call { callee := .builtin .append, args := #[s, x], argTypes := #[23, 23] })
    (A1 : Option Addr) (n1 c1 : Nat) (xs : List UInt8) (hs : a.eval s = .slice A1 n1 c1) (hown : Hid (v.ownsRow u.heap.size 5 1 (.slice A1 n1 c1) n1 (bv xs))) (hv : Below v.heap.size v W) (hbel : Below u.heap.size u W) (hx0 : Below x0.heap.size x0 W) (A : Option Addr) (n c : Nat) (bs : List UInt8) (hx : a.eval x = .slice A n c) (hS : Hid (SlB x0 x0.heap.size A c bs)) (hn : Hid (bs.length = n)) (hn1 : Hid (xs.length = n1)) (hm : n1 + n ≤ 140737488355328)
    (h : ∀ A2 c2 u2, Below u.heap.size u u2 → Hid (SlB u2 u2.heap.size A2 c2 (xs ++ bs)) → K (a.put o.dst (.slice A2 (n1 + n) c2)) u2) :
    if Region.wanted o (yielded ops a.tmps) = true then Oper.wp Try.prog o a W K Q else E := by
  obtain rfl := hn.out
  obtain rfl := hn1.out
  obtain ⟨i5, hi5, hz5, hz51, hz52⟩ := info_parts Try.info5
  have how := own_keep hown.out hv
  refine step_app _ hgd s x 23 ho u.heap.size 5 i5 _ 1 1 Try.underlying23 hi5 hz5 hz51 hz52 rfl (by decide) A1 _ c1 (bv xs) hs how x0.heap.size A bs.length c (bv bs) hx (by rw [bv_length, Nat.mul_one]) (hS.out.2.2.2.below hx0) (bv_one _) (by unfold maxLen; omega) (by omega) hbel.size ?_
  intro A2 c2 u2 ho2 hg2
  rw [← bv_append] at ho2
  have hk : Kept u.heap.size [5] W u2 := (Kept.refl _ _ W).grown hg2 (fun k hk => by obtain ⟨a, cs, b⟩ := own_box how k hk; exact ⟨a, 5, cs, by simp, b⟩)
  rw [← List.length_append] at ho2
  exact h A2 c2 u2 (hbel.trans (hk.below hbel.size)) (hid (own_slb (_n := 0) ho2))
theorem run_front {w : World} {B : Nat} {A : Option Addr} {n c k : Nat} {bs : List UInt8} (hS : SlB w B A c bs) (hn : bs.length = n) (hk : k ≤ n) (W : World) : (Instr.sliceAt 23 (.slice A n c) none (some (.int .i64 (k : Int))) none).run Try.prog W = .ok (.slice A k c) W := by
  have hc : A = none → c = 0 := hS.2.2.1
  have hl := hS.1
  have hk2 : (k : Int) ≤ (c : Int) := by omega
  rcases A with _ | ad
  · obtain rfl := hc rfl
    obtain rfl : k = 0 := by omega
    simp [Instr.sliceAt, Instr.slice, go_sem]
  · simp [Instr.sliceAt, Instr.slice, go_sem, hk2]
theorem run_back {w : World} {B : Nat} {A : Option Addr} {n c k : Nat} {bs : List UInt8} (hS : SlB w B A c bs) (hn : bs.length = n) (hk : k ≤ n) : ∃ A2 c2, (∀ W : World, (Instr.sliceAt 23 (.slice A n c) (some (.int .i64 (k : Int))) none none).run Try.prog W = .ok (.slice A2 (n - k) c2) W) ∧ Hid (SlB w B A2 c2 (bs.drop k)) := by
  have hc : A = none → c = 0 := hS.2.2.1
  have hl := hS.1
  have hk2 : (k : Int) ≤ (c : Int) := by omega
  rcases A with _ | ad
  · obtain rfl := hc rfl
    obtain rfl : n = 0 := by omega
    obtain rfl : k = 0 := by omega
    refine ⟨none, 0, fun W => ?_, hid ?_⟩
    · simp [Instr.sliceAt, Instr.slice, go_sem]
    · have : bs = [] := List.eq_nil_of_length_eq_zero hn
      subst this
      exact hS
  · refine ⟨some (if c = k then ad else ad.add k), c - k, fun W => ?_, hid (hS.drop k (by omega))⟩
    simp [Instr.sliceAt, Instr.slice, go_sem, hk]
    split <;> rfl
theorem u8_ne {c d : UInt8} (h : c ≠ d) : (((c.toNat : Int)) == (d.toNat : Int)) = false := by
  apply beq_eq_false_iff_ne.2
  intro e
  exact h (UInt8.toNat_inj.1 (by omega))
/-- A call has answered these bytes in memory of its own. -/
def Own (w : World) (bs : List UInt8) (e : Ending) (w' : World) : Prop := ∃ A n c, e = .returned (.slice A n c) ∧ Hid (bs.length = n) ∧ Hid (w'.ownsRow w.heap.size 5 1 (.slice A n c) n (bv bs)) ∧ Hid (Below w.heap.size w w')
theorem own_ret {w w' : World} {bs : List UInt8} {e : Ending} (h : Own w bs e w') : Ret w bs e w' := by
  obtain ⟨A, n, c, rfl, hn, ho, hb⟩ := h
  exact ret_own hn.out ho hb
/-- Bytes are copied to an empty literal: a row of the call's own. -/
theorem app_copyo {ops : Array Oper} {rest : List Oper} {o : Oper} {a : Act} {Q : Exit → Act → World → Prop} (w : World) (hgd : o.guard = none) (s x : Operand) (ho : o.op = .call { callee := .builtin .append, args := #[s, x], argTypes := #[23, 23] })
    (hs : a.eval s = .slice (some ⟨w.heap.size, 0, none⟩) 0 0) (A : Option Addr) (n c : Nat) (bs : List UInt8) (hx : a.eval x = .slice A n c) (hS : Hid (SlB w w.heap.size A c bs)) (hn : bs.length = n) (hm : n ≤ 140737488355328)
    (h : ∀ A2 c2 u2, Hid (Below w.heap.size w u2) → Hid (u2.ownsRow w.heap.size 5 1 (.slice A2 n c2) n (bv bs)) → wpList Try.prog ops Q rest (a.put o.dst (.slice A2 n c2)) u2) : wpList Try.prog ops Q (o :: rest) a (w.alloc (.cells #[] 5)) := by
  subst hn
  obtain ⟨i5, hi5, hz5, hz51, hz52⟩ := info_parts Try.info5
  refine wpList_app _ hgd s x 23 ho w.heap.size 5 i5 _ 1 1 Try.underlying23 hi5 hz5 hz51 hz52 rfl (by decide) _ 0 0 [] hs (lit_own (Nat.le_refl _) rfl) w.heap.size A bs.length c (bv bs) hx (by rw [bv_length, Nat.mul_one]) (hS.out.2.2.2.alloc (Nat.le_refl _) _) (bv_one _) (by unfold maxLen; omega) (by omega) (by simp) ?_
  intro A2 c2 u2 ho2 hg2
  simp only [Nat.zero_add, List.nil_append] at ho2 ⊢
  exact h A2 c2 u2 (hid (lit_grown rfl hg2)) (hid ho2)
theorem own_bel {w u : World} {bs : List UInt8} {fn : FuncId} {args : Array Value} (hb : Hid (Below w.heap.size w u)) {v : World} (h : Calls Try.prog fn args v (Own u bs)) : Calls Try.prog fn args v (Own w bs) := by
  refine h.mono ?_
  rintro e w' ⟨A, m, c, rfl, h1, ho, hb2⟩
  exact ⟨A, m, c, rfl, h1, hid (own_mono ho.out hb.out.size), bel_t hb hb2.out⟩
theorem slb_own {w : World} {base n c : Nat} {A : Option Addr} {bs : List UInt8} (hn : Hid (bs.length = n)) (h : Hid (w.ownsRow base 5 1 (.slice A n c) n (bv bs))) : Hid (SlB w w.heap.size A c bs) := by
  obtain rfl := hn.out
  exact hid (own_slb (_n := 0) h.out)
theorem ret_i64 {x y : Int} (h : x = y) : Ending.returned (.int .i64 x) = .returned (.int .i64 y) := by rw [h]
theorem slb_up {u W : World} {A : Option Addr} {c : Nat} {bs : List UInt8} (h : Hid (SlB u u.heap.size A c bs)) (hW : Below u.heap.size u W) : Hid (SlB W W.heap.size A c bs) := slb_at h (hid hW)
theorem own_some {w : World} {base n c : Nat} {A : Option Addr} {bs : List UInt8} (hn : Hid (bs.length = n)) (ho : Hid (w.ownsRow base 5 1 (.slice A n c) n (bv bs))) (hpos : 0 < n) : ∃ p, A = some p := by
  obtain ⟨b, o, y, rfl, _⟩ := slb_cell (slb_own hn ho).out hn.out hpos
  exact ⟨_, rfl⟩
/-- A call has answered these bytes; all that was there in u is as it was. -/
def RetG (u W : World) (bs : List UInt8) (e : Ending) (w' : World) : Prop := ∃ A n c, e = .returned (.slice A n c) ∧ Hid (bs.length = n) ∧ Hid (SlB w' w'.heap.size A c bs) ∧ Below u.heap.size u w' ∧ Below W.heap.size W w'
theorem ret_grow {u W : World} (hW : Below u.heap.size u W) {fn : FuncId} {args : Array Value} {bs x : List UInt8} (hx : Hid (bs = x)) (h : Calls Try.prog fn args W (Ret W bs)) : Calls Try.prog fn args W (RetG u W x) := by
  obtain rfl := hx.out
  refine h.mono ?_
  rintro e w' ⟨A, n, c, rfl, hn, hS, hb⟩
  exact ⟨A, n, c, rfl, hn, hS, hW.trans (hb.out.mono hW.size), hb.out⟩
theorem own_grow {u W : World} (hW : Below u.heap.size u W) {fn : FuncId} {args : Array Value} {bs x : List UInt8} (hx : Hid (bs = x)) (h : Calls Try.prog fn args W (Own W bs)) : Calls Try.prog fn args W (RetG u W x) :=
  ret_grow hW hx (h.mono fun _ _ => own_ret)
theorem bytes_grow (u W : World) (hW : Below u.heap.size u W) (A A2 : Option Addr) (c c2 n n2 : Nat) (xs ys : List UInt8) (hn : Hid (xs.length = n)) (hn2 : Hid (ys.length = n2)) (hxy : Hid (xs = ys)) (hx : Hid (SlB W W.heap.size A c xs)) (hy : Hid (SlB W W.heap.size A2 c2 ys)) (hl : n ≤ maxLen) :
    Calls Try.prog 17 #[.slice A n c, .slice A2 n2 c2] W fun e w' => e = .returned (.bool true) ∧ Below u.heap.size u w' ∧ Below W.heap.size W w' := by
  refine (bytes_two W A A2 c c2 n n2 xs ys hn.out hn2.out hxy.out hx hy hl).mono ?_
  rintro e w' ⟨rfl, h⟩
  exact ⟨rfl, hW.trans (h.out.mono hW.size), h.out⟩
theorem run_append_full (W : World) (p : Addr) (n m c2 : Nat) (A2 : Option Addr) (xs ys : List UInt8) (ty : TypeId) (hS : SlB W W.heap.size (some p) n xs) (hn : xs.length = n) (hS2 : SlB W W.heap.size A2 c2 ys) (hm : ys.length = m) (hb : n + m ≤ 140737488355328) :
    ∃ A3 c3 w', (Builtin.append_ #[23, 23] ty #[.slice (some p) n n, .slice A2 m c2]).run Try.prog W = .ok (.slice A3 (n + m) c3) w' ∧ SlB w' w'.heap.size A3 c3 (xs ++ ys) ∧ Below W.heap.size W w' := by
  obtain ⟨i5, hi5, hz5, hz51, hz52⟩ := info_parts Try.info5
  by_cases h0 : m = 0
  · subst h0
    have hy : ys = [] := List.eq_nil_of_length_eq_zero hm
    subst hy
    refine ⟨some p, n, W, ?_, by simpa using hS, Below.refl _ _⟩
    cases A2 <;> simp [Builtin.append_, run_underlying Try.underlying23, sizeOf, typeInfo, hi5, Builtin.lenOf, Builtin.firstCells, loadCells, loadCellsFrom, storeCells]
  · have hne : bv ys ≠ [] := by
      intro e
      have := congrArg List.length e
      rw [bv_length, hm] at this
      exact h0 this
    obtain ⟨b2, o2, rfl, _, hc2⟩ := hS2.2.2.2 hne
    have holds : ∀ j u, (bv xs)[j]? = some u → W.cell? (p.add j) = some u := fun j u hj => by
      obtain ⟨b, o, he, _, hc⟩ := hS.2.2.2 (by intro e; rw [e] at hj; simp at hj)
      cases he
      rw [Addr.add_lit]
      exact hc j u hj
    have hr := run_append_grow (P := Try.prog) W 23 ty 5 i5 (.int .u8 0) Try.underlying23 hi5 hz5 p n n (bv xs) (by rw [bv_length, hz51, Nat.mul_one, hn]) holds ⟨b2, o2, none⟩ m c2 (bv ys) (by rw [bv_length, hz51, Nat.mul_one, hm])
      (fun j u hj => by rw [Addr.add_lit]; exact hc2 j u hj) (by omega) (by omega) (growslice_fits (by omega) (by rw [hz52]; omega))
    have hge := grownCap_ge W (n + m) n 5
    have hcm : grownCap W (n + m) n 5 ≤ maxLen := grownCap_le_maxLen W (n + m) n 5 (by unfold maxLen; omega)
    generalize grownCap W (n + m) n 5 = cap at hr hge hcm
    refine ⟨_, _, _, hr, ⟨by rw [List.length_append, hn, hm]; exact hge, hcm, (fun e => by cases e), fun _ => ⟨W.heap.size, 0, rfl, by simp, fun j u hj => ?_⟩⟩, ((Below.refl W.heap.size W).drew).alloc (Nat.le_refl _) _⟩
    rw [bv_append] at hj
    have hjl := (List.getElem?_eq_some_iff.1 hj).1
    have h1 := World.cell?_alloc_mark W.drew ((bv xs).toArray ++ (bv ys).toArray ++ Builtin.zeroCells (Value.int IntKind.u8 0).cells (cap - (n + m))) 5 (0, 0) j
    rw [show W.drew.heap.size = W.heap.size from rfl] at h1
    rw [Nat.zero_add, h1]
    rw [Array.getElem?_append_left (by simpa using hjl), ← hj]
    simp
theorem step_full {ops : Array Oper} {o : Oper} {a : Act} {K : Act → World → Prop} {Q : Exit → Act → World → Prop} {E : Prop} {W : World} (hgd : o.guard = none) (s x : Operand) (ho : o.op = .call { callee := .builtin .append, args := #[s, x], argTypes := #[23, 23] })
    (p : Addr) (n : Nat) (xs : List UInt8) (hs : a.eval s = .slice (some p) n n) (A2 : Option Addr) (m c2 : Nat) (ys : List UInt8) (hx : a.eval x = .slice A2 m c2) (hS : Hid (SlB W W.heap.size (some p) n xs)) (hS2 : Hid (SlB W W.heap.size A2 c2 ys)) (hn : Hid (xs.length = n)) (hm : Hid (ys.length = m)) (hb : n + m ≤ 140737488355328)
    (h : ∀ A3 c3 u', Below W.heap.size W u' → Hid (SlB u' u'.heap.size A3 c3 (xs ++ ys)) → K (a.put o.dst (.slice A3 (n + m) c3)) u') :
    if Region.wanted o (yielded ops a.tmps) = true then Oper.wp Try.prog o a W K Q else E := by
  have hw : Region.wanted o (yielded ops a.tmps) = true := by simp [Region.wanted, hgd]
  rw [if_pos hw]
  obtain ⟨A3, c3, w', hrun, h2, h3⟩ := run_append_full W p n m c2 A2 xs ys o.type hS.out hn.out hS2.out hm.out hb
  unfold Oper.wp execOp
  simp only [ho, resolve, invoke, builtin, Sem.run_bind, Sem.run_pure, Result.andThen_ok, List.map_toArray, List.map_cons, List.map_nil, hs, hx, hrun]
  exact h A3 c3 w' h3 (hid h2)
theorem run_mid {w : World} {B : Nat} {A : Option Addr} {n c lo hi : Nat} {bs : List UInt8} (hS : SlB w B A c bs) (hn : bs.length = n) (hlo : lo ≤ hi) (hhi : hi ≤ n) : ∃ A2 c2, (∀ W : World, (Instr.sliceAt 23 (.slice A n c) (some (.int .i64 (lo : Int))) (some (.int .i64 (hi : Int))) none).run Try.prog W = .ok (.slice A2 (hi - lo) c2) W) ∧ Hid (SlB w B A2 c2 ((bs.take hi).drop lo)) := by
  have hc : A = none → c = 0 := hS.2.2.1
  have hl := hS.1
  have hk2 : (hi : Int) ≤ (c : Int) := by omega
  rcases A with _ | ad
  · obtain rfl := hc rfl
    obtain rfl : n = 0 := by omega
    obtain rfl : hi = 0 := by omega
    obtain rfl : lo = 0 := by omega
    refine ⟨none, 0, fun W => ?_, hid ?_⟩
    · simp [Instr.sliceAt, Instr.slice, go_sem]
    · have : bs = [] := List.eq_nil_of_length_eq_zero hn
      subst this
      exact hS
  · refine ⟨some (if c = lo then ad else ad.add lo), c - lo, fun W => ?_, hid ((hS.take hi).drop lo (by rw [List.length_take]; omega))⟩
    simp [Instr.sliceAt, Instr.slice, go_sem, hk2, hlo]
    try (split <;> rfl)
/-- A call has answered these bytes in a slice with no room behind them. -/
def Full (w : World) (bs : List UInt8) (e : Ending) (w' : World) : Prop := ∃ p n, e = .returned (.slice (some p) n n) ∧ Hid (bs.length = n) ∧ Hid (SlB w' w'.heap.size (some p) n bs) ∧ Hid (Below w.heap.size w w')
theorem full_bel {w u v : World} {bs : List UInt8} {fn : FuncId} {args : Array Value} (hb : Hid (Below w.heap.size w u)) (h : Calls Try.prog fn args v (Full u bs)) : Calls Try.prog fn args v (Full w bs) := by
  refine h.mono ?_
  rintro e w' ⟨p, n, rfl, h1, hs, hb2⟩
  exact ⟨p, n, rfl, h1, hs, bel_t hb hb2.out⟩
/-- A call has answered these bytes with no room behind them; all that was there in u is as it was. -/
def FullG (u W : World) (bs : List UInt8) (e : Ending) (w' : World) : Prop := ∃ p n, e = .returned (.slice (some p) n n) ∧ Hid (bs.length = n) ∧ Hid (SlB w' w'.heap.size (some p) n bs) ∧ Below u.heap.size u w' ∧ Below W.heap.size W w'
theorem full_growF {u W : World} (hW : Below u.heap.size u W) {fn : FuncId} {args : Array Value} {bs x : List UInt8} (hx : Hid (bs = x)) (h : Calls Try.prog fn args W (Full W bs)) : Calls Try.prog fn args W (FullG u W x) := by
  obtain rfl := hx.out
  refine h.mono ?_
  rintro e w' ⟨p, n, rfl, hn, hS, hb⟩
  exact ⟨p, n, rfl, hn, hS, hW.trans (hb.out.mono hW.size), hb.out⟩
theorem full_grow {u W : World} (hW : Below u.heap.size u W) {fn : FuncId} {args : Array Value} {bs x : List UInt8} (hx : Hid (bs = x)) (h : Calls Try.prog fn args W (Full W bs)) : Calls Try.prog fn args W (RetG u W x) :=
  ret_grow hW hx (h.mono fun _ _ ⟨p, n, he, hn, hS, hb⟩ => ⟨some p, n, n, he, hn, hS, hb⟩)
theorem slb_litm (w : World) (bs : List UInt8) (n : Nat) (cs : Array Value) (fr : Nat × Nat) (hc : (bv bs).toArray = cs) (hn : bs.length = n) (hm : n ≤ maxLen) : SlB (w.alloc (.cells cs 5 fr)) (w.alloc (.cells cs 5 fr)).heap.size (some ⟨w.heap.size, 0, none⟩) n bs := by
  subst hc hn
  refine ⟨Nat.le_refl _, hm, by simp, ?_⟩
  have := lit_lies w (bv bs).toArray 5 fr w.heap.size rfl
  rw [World.size_alloc]
  simpa using this
theorem str_back (w : World) (B : Nat) (A : Option Addr) (c : Nat) (tx : List UInt8) (h : Lies w B A (bv tx)) :
    (convert 23 9 (.slice A tx.length c)).run Try.prog w = .ok (.string ⟨tx.toArray⟩) w := by
  by_cases hn : tx = []
  · subst hn
    refine (run_convert_bytes_string w 23 9 5 A 0 c Try.underlying23 Try.underlying5 Try.underlying9).trans ?_
    cases A with
    | none => simp [Conv.bytesToString]; rfl
    | some a => simp [Conv.bytesToString, loadCells, loadCellsFrom]; rfl
  · obtain ⟨b, o, rfl, _, hc⟩ := h (by simpa [bv] using hn)
    exact run_convert_bytes_back w 23 9 5 ⟨b, o, none⟩ c tx Try.underlying23 Try.underlying5 Try.underlying9 fun j hj => by
      rw [Addr.add_lit]
      exact hc j _ (by simp [bv, hj])
theorem u16_of {x : Int} (h : (Lit.int .u16 x).wf = true) : 0 ≤ x ∧ x ≤ 65535 := bounds_u16 h
section
variable {H : Type} {enc : TypeId × Value → H} {w : World} {base : Nat} {spare : Nat → Bool} {held : Bool}
theorem int_open {t : TypeId} (ht : Try.prog.underlying t = some (.int .i64)) {v : Value} {d : DataW H} {p : List MemPlace} (h : DataW.Trod enc Try.prog w base spare held t v d p) (hv : ∃ z, v = .int .i64 z) : ∃ a, v = .int .i64 a ∧ i64ok a := by
  obtain ⟨fuel, hf⟩ := h
  obtain ⟨z, rfl⟩ := hv
  obtain ⟨k0, e0, _, hw⟩ := DataW.trod_int ht hf
  simp only [Value.cells, List.cons.injEq, and_true] at e0
  injection e0 with _ e0
  subst e0
  exact ⟨_, rfl, i64_of hw⟩
end
theorem bytes5 : Try.prog.bytesOf 5 = 1 := by kernel_rfl
section
variable {H : Type} {enc : TypeId × Value → H} {w : World} {base : Nat} {spare : Nat → Bool} {held : Bool}
theorem bytes_weight {fuel n c : Nat} {A : Option Addr} {x : DataW H × List MemPlace} (h : DataW.trod enc Try.prog w base spare held fuel 23 [.slice A n c] = some x)
    (hw : ∀ k ∈ x.1.weights Try.prog 23, k ≤ reachBytes) : n ≤ reachBytes := by
  rcases open_ints Try.underlying23 Try.underlying5 cells5 h with ⟨he, _⟩ | ⟨a, len, cap, zs, he, _, hl, hm, hz, rfl, _, _⟩
  · simp only [List.cons.injEq, and_true] at he
    injection he with _ e _
    rw [e]; exact Nat.zero_le _
  · simp only [List.cons.injEq, and_true] at he
    injection he with _ e _
    subst e
    have hzl : n ≤ zs.length := by rw [hz]; split <;> omega
    have := hw _ (by
      simp only [DataW.weights, Try.underlying23]
      exact List.mem_cons_self)
    rw [bytes5] at this
    simp only [lits, List.length_map, List.length_take, List.length_drop, Nat.min_eq_left hzl] at this
    omega
end
end Go.Proofs.Ytjncahcigbdbgab
