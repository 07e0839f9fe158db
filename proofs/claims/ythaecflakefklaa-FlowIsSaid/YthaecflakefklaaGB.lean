/- Bytes that calls answer, grown worlds, whole settings with more behind them: what several layers use. -/
import Derived.Test.YthaecflakefklaaGA
import Derived.BigQuiet
import Derived.Deep.QuietTactic
import Derived.Lib.SliceRun
import Derived.Lib.SlBytesConst
namespace Go.Proofs.Ythaecflakefklaa
open Go.RowKit

def ctlB (c : UInt8) : Bool := decide (c.toNat < 32) || decide (c.toNat = 127)
def contB (c : UInt8) : Bool := decide (128 ≤ c.toNat) && decide (c.toNat ≤ 191)
theorem u8_ne {c d : UInt8} (h : c ≠ d) : (((c.toNat : Int)) == (d.toNat : Int)) = false := by
  apply beq_eq_false_iff_ne.2
  intro e
  exact h (UInt8.toNat_inj.1 (by omega))
/-- A call has answered these bytes in memory of its own. -/
def Own (w : World) (bs : List UInt8) (e : Ending) (w' : World) : Prop := ∃ A n c, e = .returned (.slice A n c) ∧ Hid (bs.length = n) ∧ Hid (w'.ownsRow w.heap.size 5 1 (.slice A n c) n (bv bs)) ∧ Hid (Below w.heap.size w w')
theorem own_ret {w w' : World} {bs : List UInt8} {e : Ending} (h : Own w bs e w') : Ret w bs e w' := by
  obtain ⟨A, n, c, rfl, hn, ho, hb⟩ := h
  exact ret_own hn.out ho hb
/-- Bytes are copied to an empty literal: a row of the call's own. -/
theorem app_copyo {ops : Array Oper} {rest : List Oper} {o : Oper} {a : Act} {Q : Exit → Act → World → Prop} (w : World) (hgd : o.guard = none) (s x : Operand) (ho : o.op = .call { callee := .builtin .append, args := #[s, x], argTypes := #[38, 38] })
    (hs : a.eval s = .slice (some ⟨w.heap.size, 0, none⟩) 0 0) (A : Option Addr) (n c : Nat) (bs : List UInt8) (hx : a.eval x = .slice A n c) (hS : Hid (SlB w w.heap.size A c bs)) (hn : bs.length = n) (hm : n ≤ 1000000)
    (h : ∀ A2 c2 u2, Hid (Below w.heap.size w u2) → Hid (u2.ownsRow w.heap.size 5 1 (.slice A2 n c2) n (bv bs)) → wpList Try.prog ops Q rest (a.put o.dst (.slice A2 n c2)) u2) : wpList Try.prog ops Q (o :: rest) a (w.alloc (.cells #[] 5)) := by
  subst hn
  obtain ⟨i5, hi5, hz5, hz51, hz52⟩ := info_parts Try.info5
  refine wpList_app _ hgd s x 38 ho w.heap.size 5 i5 _ 1 1 Try.underlying38 hi5 hz5 hz51 hz52 rfl (by decide) _ 0 0 [] hs (lit_own (Nat.le_refl _) rfl) w.heap.size A bs.length c (bv bs) hx (by rw [bv_length, Nat.mul_one]) (hS.out.2.2.2.alloc (Nat.le_refl _) _) (bv_one _) (by unfold maxLen; omega) (by omega) (by simp) ?_
  intro A2 c2 u2 ho2 hg2
  simp only [Nat.zero_add, List.nil_append] at ho2 ⊢
  exact h A2 c2 u2 (hid (lit_grown rfl hg2)) (hid ho2)
theorem own_bel {w u : World} {bs : List UInt8} {fn : FuncId} {args : Array Value} (hb : Hid (Below w.heap.size w u)) {v : World} (h : Calls Try.prog fn args v (Own u bs)) : Calls Try.prog fn args v (Own w bs) := by
  refine h.mono ?_
  rintro e w' ⟨A, m, c, rfl, h1, ho, hb2⟩
  exact ⟨A, m, c, rfl, h1, hid (own_mono ho.out hb.out.size), bel_t hb hb2.out⟩
theorem old26 (w : World) (t : Tm) : Hid (Below w.heap.size w (w.alloc (.cells t.cs 26))) := hid ((Below.refl _ w).alloc (Nat.le_refl _) _)
theorem box_k {a b : World} {g : Nat} {cs : Array Value} {B : Nat} (h : Hid (Box a g 26 cs)) (k : Hid (Kept B [5] a b)) : Hid (Box b g 26 cs) := hid (k.out.box h.out (by decide))
theorem slb_own {w : World} {base n c : Nat} {A : Option Addr} {bs : List UInt8} (hn : Hid (bs.length = n)) (h : Hid (w.ownsRow base 5 1 (.slice A n c) n (bv bs))) : Hid (SlB w w.heap.size A c bs) := by
  obtain rfl := hn.out
  exact hid (own_slb (_n := 0) h.out)
theorem ret_i64 {x y : Int} (h : x = y) : Ending.returned (.int .i64 x) = .returned (.int .i64 y) := by rw [h]
theorem slb_up {u W : World} {A : Option Addr} {c : Nat} {bs : List UInt8} (h : Hid (SlB u u.heap.size A c bs)) (hW : Below u.heap.size u W) : Hid (SlB W W.heap.size A c bs) := slb_at h (hid hW)
theorem own_some {w : World} {base n c : Nat} {A : Option Addr} {bs : List UInt8} (hn : Hid (bs.length = n)) (ho : Hid (w.ownsRow base 5 1 (.slice A n c) n (bv bs))) (hpos : 0 < n) : ∃ p, A = some p := by
  obtain ⟨b, o, y, rfl, _⟩ := slb_cell (slb_own hn ho).out hn.out hpos
  exact ⟨_, rfl⟩
/-- A call has answered these bytes; all that was there in u is as it was. -/
def RetG (u W : World) (bs : List UInt8) (e : Ending) (w' : World) : Prop := ∃ A n c, e = .returned (.slice A n c) ∧ Hid (bs.length = n) ∧ Hid (SlB w' w'.heap.size A c bs) ∧ Below u.heap.size u w' ∧ Below W.heap.size W w'
theorem ret_grow {u W : World} (hW : Below u.heap.size u W) {fn : FuncId} {args : Array Value} {bs x : List UInt8} (hx : Hid (bs = x)) (h : Calls Try.prog fn args W (Ret W bs)) : Calls Try.prog fn args W (RetG u W x) := by
  obtain rfl := hx.out
  refine h.mono ?_
  rintro e w' ⟨A, n, c, rfl, hn, hS, hb⟩
  exact ⟨A, n, c, rfl, hn, hS, hW.trans (hb.out.mono hW.size), hb.out⟩
theorem own_grow {u W : World} (hW : Below u.heap.size u W) {fn : FuncId} {args : Array Value} {bs x : List UInt8} (hx : Hid (bs = x)) (h : Calls Try.prog fn args W (Own W bs)) : Calls Try.prog fn args W (RetG u W x) :=
  ret_grow hW hx (h.mono fun _ _ => own_ret)
theorem bytes_grow (u W : World) (hW : Below u.heap.size u W) (A A2 : Option Addr) (c c2 n n2 : Nat) (xs ys : List UInt8) (hn : Hid (xs.length = n)) (hn2 : Hid (ys.length = n2)) (hxy : Hid (xs = ys)) (hx : Hid (SlB W W.heap.size A c xs)) (hy : Hid (SlB W W.heap.size A2 c2 ys)) (hl : n ≤ maxLen) :
    Calls Try.prog 14 #[.slice A n c, .slice A2 n2 c2] W fun e w' => e = .returned (.bool true) ∧ Below u.heap.size u w' ∧ Below W.heap.size W w' := by
  refine (bytes_two W A A2 c c2 n n2 xs ys hn.out hn2.out hxy.out hx hy hl).mono ?_
  rintro e w' ⟨rfl, h⟩
  exact ⟨rfl, hW.trans (h.out.mono hW.size), h.out⟩
theorem run_append_full (W : World) (p : Addr) (n m c2 : Nat) (A2 : Option Addr) (xs ys : List UInt8) (ty : TypeId) (hS : SlB W W.heap.size (some p) n xs) (hn : xs.length = n) (hS2 : SlB W W.heap.size A2 c2 ys) (hm : ys.length = m) (hb : n + m ≤ 10000000) :
    ∃ A3 c3 w', (Builtin.append_ #[38, 38] ty #[.slice (some p) n n, .slice A2 m c2]).run Try.prog W = .ok (.slice A3 (n + m) c3) w' ∧ SlB w' w'.heap.size A3 c3 (xs ++ ys) ∧ Below W.heap.size W w' := by
  obtain ⟨i5, hi5, hz5, hz51, hz52⟩ := info_parts Try.info5
  by_cases h0 : m = 0
  · subst h0
    have hy : ys = [] := List.eq_nil_of_length_eq_zero hm
    subst hy
    refine ⟨some p, n, W, ?_, by simpa using hS, Below.refl _ _⟩
    cases A2 <;> simp [Builtin.append_, run_underlying Try.underlying38, sizeOf, typeInfo, hi5, Builtin.lenOf, Builtin.firstCells, loadCells, loadCellsFrom, storeCells]
  · have hne : bv ys ≠ [] := by
      intro e
      have := congrArg List.length e
      rw [bv_length, hm] at this
      exact h0 this
    obtain ⟨b2, o2, rfl, _, hc2⟩ := hS2.2.2.2 hne
    have holds : ∀ j u, (bv xs)[j]? = some u → W.cell? (p.add j) = some u := fun j u hj => by
      obtain ⟨b, o, he, _, hc⟩ := hS.2.2.2 (by intro e; rw [e] at hj; simp at hj)
      cases he
      rw [Addr.add_lit]
      exact hc j u hj
    have hr := run_append_grow (P := Try.prog) W 38 ty 5 i5 (.int .u8 0) Try.underlying38 hi5 hz5 p n n (bv xs) (by rw [bv_length, hz51, Nat.mul_one, hn]) holds ⟨b2, o2, none⟩ m c2 (bv ys) (by rw [bv_length, hz51, Nat.mul_one, hm])
      (fun j u hj => by rw [Addr.add_lit]; exact hc2 j u hj) (by omega) (by omega) (growslice_fits (by omega) (by rw [hz52]; omega))
    have hge := grownCap_ge W (n + m) n 5
    have hcm : grownCap W (n + m) n 5 ≤ maxLen := grownCap_le_maxLen W (n + m) n 5 (by unfold maxLen; omega)
    generalize grownCap W (n + m) n 5 = cap at hr hge hcm
    refine ⟨_, _, _, hr, ⟨by rw [List.length_append, hn, hm]; exact hge, hcm, (fun e => by cases e), fun _ => ⟨W.heap.size, 0, rfl, by simp, fun j u hj => ?_⟩⟩, ((Below.refl W.heap.size W).drew).alloc (Nat.le_refl _) _⟩
    rw [bv_append] at hj
    have hjl := (List.getElem?_eq_some_iff.1 hj).1
    have h1 := World.cell?_alloc_mark W.drew ((bv xs).toArray ++ (bv ys).toArray ++ Builtin.zeroCells (Value.int IntKind.u8 0).cells (cap - (n + m))) 5 (0, 0) j
    rw [show W.drew.heap.size = W.heap.size from rfl] at h1
    rw [Nat.zero_add, h1]
    rw [Array.getElem?_append_left (by simpa using hjl), ← hj]
    simp
theorem step_full {ops : Array Oper} {o : Oper} {a : Act} {K : Act → World → Prop} {Q : Exit → Act → World → Prop} {E : Prop} {W : World} (hgd : o.guard = none) (s x : Operand) (ho : o.op = .call { callee := .builtin .append, args := #[s, x], argTypes := #[38, 38] })
    (p : Addr) (n : Nat) (xs : List UInt8) (hs : a.eval s = .slice (some p) n n) (A2 : Option Addr) (m c2 : Nat) (ys : List UInt8) (hx : a.eval x = .slice A2 m c2) (hS : Hid (SlB W W.heap.size (some p) n xs)) (hS2 : Hid (SlB W W.heap.size A2 c2 ys)) (hn : Hid (xs.length = n)) (hm : Hid (ys.length = m)) (hb : n + m ≤ 10000000)
    (h : ∀ A3 c3 u', Below W.heap.size W u' → Hid (SlB u' u'.heap.size A3 c3 (xs ++ ys)) → K (a.put o.dst (.slice A3 (n + m) c3)) u') :
    if Region.wanted o (yielded ops a.tmps) = true then Oper.wp Try.prog o a W K Q else E := by
  have hw : Region.wanted o (yielded ops a.tmps) = true := by simp [Region.wanted, hgd]
  rw [if_pos hw]
  obtain ⟨A3, c3, w', hrun, h2, h3⟩ := run_append_full W p n m c2 A2 xs ys o.type hS.out hn.out hS2.out hm.out hb
  unfold Oper.wp execOp
  simp only [ho, resolve, invoke, builtin, Sem.run_bind, Sem.run_pure, Result.andThen_ok, List.map_toArray, List.map_cons, List.map_nil, hs, hx, hrun]
  exact h A3 c3 w' h3 (hid h2)
theorem run_mid {w : World} {B : Nat} {A : Option Addr} {n c lo hi : Nat} {bs : List UInt8} (hS : SlB w B A c bs) (hn : bs.length = n) (hlo : lo ≤ hi) (hhi : hi ≤ n) : ∃ A2 c2, (∀ W : World, (Instr.sliceAt 38 (.slice A n c) (some (.int .i64 (lo : Int))) (some (.int .i64 (hi : Int))) none).run Try.prog W = .ok (.slice A2 (hi - lo) c2) W) ∧ Hid (SlB w B A2 c2 ((bs.take hi).drop lo)) := by
  have hc : A = none → c = 0 := hS.2.2.1
  have hl := hS.1
  have hk2 : (hi : Int) ≤ (c : Int) := by omega
  rcases A with _ | ad
  · obtain rfl := hc rfl
    obtain rfl : n = 0 := by omega
    obtain rfl : hi = 0 := by omega
    obtain rfl : lo = 0 := by omega
    refine ⟨none, 0, fun W => ?_, hid ?_⟩
    · simp [Instr.sliceAt, Instr.slice, go_sem]
    · have : bs = [] := List.eq_nil_of_length_eq_zero hn
      subst this
      exact hS
  · refine ⟨some (if c = lo then ad else ad.add lo), c - lo, fun W => ?_, hid ((hS.take hi).drop lo (by rw [List.length_take]; omega))⟩
    simp [Instr.sliceAt, Instr.slice, go_sem, hk2, hlo]
    try (split <;> rfl)
/-- A call has answered these bytes in a slice with no room behind them. -/
def Full (w : World) (bs : List UInt8) (e : Ending) (w' : World) : Prop := ∃ p n, e = .returned (.slice (some p) n n) ∧ Hid (bs.length = n) ∧ Hid (SlB w' w'.heap.size (some p) n bs) ∧ Hid (Below w.heap.size w w')
theorem full_bel {w u v : World} {bs : List UInt8} {fn : FuncId} {args : Array Value} (hb : Hid (Below w.heap.size w u)) (h : Calls Try.prog fn args v (Full u bs)) : Calls Try.prog fn args v (Full w bs) := by
  refine h.mono ?_
  rintro e w' ⟨p, n, rfl, h1, hs, hb2⟩
  exact ⟨p, n, rfl, h1, hs, bel_t hb hb2.out⟩
/-- A call has answered these bytes with no room behind them; all that was there in u is as it was. -/
def FullG (u W : World) (bs : List UInt8) (e : Ending) (w' : World) : Prop := ∃ p n, e = .returned (.slice (some p) n n) ∧ Hid (bs.length = n) ∧ Hid (SlB w' w'.heap.size (some p) n bs) ∧ Below u.heap.size u w' ∧ Below W.heap.size W w'
theorem full_growF {u W : World} (hW : Below u.heap.size u W) {fn : FuncId} {args : Array Value} {bs x : List UInt8} (hx : Hid (bs = x)) (h : Calls Try.prog fn args W (Full W bs)) : Calls Try.prog fn args W (FullG u W x) := by
  obtain rfl := hx.out
  refine h.mono ?_
  rintro e w' ⟨p, n, rfl, hn, hS, hb⟩
  exact ⟨p, n, rfl, hn, hS, hW.trans (hb.out.mono hW.size), hb.out⟩
theorem full_grow {u W : World} (hW : Below u.heap.size u W) {fn : FuncId} {args : Array Value} {bs x : List UInt8} (hx : Hid (bs = x)) (h : Calls Try.prog fn args W (Full W bs)) : Calls Try.prog fn args W (RetG u W x) :=
  ret_grow hW hx (h.mono fun _ _ ⟨p, n, he, hn, hS, hb⟩ => ⟨some p, n, n, he, hn, hS, hb⟩)
theorem slb_litm (w : World) (bs : List UInt8) (n : Nat) (cs : Array Value) (fr : Nat × Nat) (hc : (bv bs).toArray = cs) (hn : bs.length = n) (hm : n ≤ maxLen) : SlB (w.alloc (.cells cs 5 fr)) (w.alloc (.cells cs 5 fr)).heap.size (some ⟨w.heap.size, 0, none⟩) n bs := by
  subst hc hn
  refine ⟨Nat.le_refl _, hm, by simp, ?_⟩
  have := lit_lies w (bv bs).toArray 5 fr w.heap.size rfl
  rw [World.size_alloc]
  simpa using this
theorem str_back (w : World) (B : Nat) (A : Option Addr) (c : Nat) (tx : List UInt8) (h : Lies w B A (bv tx)) :
    (convert 38 9 (.slice A tx.length c)).run Try.prog w = .ok (.string ⟨tx.toArray⟩) w := by
  by_cases hn : tx = []
  · subst hn
    refine (run_convert_bytes_string w 38 9 5 A 0 c Try.underlying38 Try.underlying5 Try.underlying9).trans ?_
    cases A with
    | none => simp [Conv.bytesToString]; rfl
    | some a => simp [Conv.bytesToString, loadCells, loadCellsFrom]; rfl
  · obtain ⟨b, o, rfl, _, hc⟩ := h (by simpa [bv] using hn)
    exact run_convert_bytes_back w 38 9 5 ⟨b, o, none⟩ c tx Try.underlying38 Try.underlying5 Try.underlying9 fun j hj => by
      rw [Addr.add_lit]
      exact hc j _ (by simp [bv, hj])
theorem set_has {t : Tm} (ht : t.Ok) (op : Int) (on : Bool) (hg : flagB op = true) : hasN (setT t op on).f op = on := by
  show hasN (setN t.f op on) op = on
  rw [setN_has ht.f, if_pos ⟨hg, rfl⟩]
section
variable {dst : Option Tmp} {x y : Operand} {ty r : TypeId} {pos : String} {after : Array Edge} {gd : Option (Nat × Bool)} {a : Act}
@[simp] theorem isP_v (g : Nat) : isP (.pointer (some ⟨g, 0, none⟩)) = true := rfl
@[simp] theorem blkV_v (g : Nat) : blkV (.pointer (some ⟨g, 0, none⟩)) = g := rfl
@[simp] theorem aggV_v (cs : Array Value) : aggV (.agg cs) = cs := rfl
theorem quiet_val {P : Program} {u0 : World} {o : Oper} {K : Act → Prop} (v : Value) (h : ∀ z : Gr u0, (execOp a.eval o).run P (grw z) = .ok (.value v) (grw z)) :
    Oper.quiet P o a (fun w' => ∃ z : Gr u0, w' = grw z) K = K (a.put o.dst v) := by
  apply propext
  unfold Oper.quiet Oper.quietAt
  constructor
  · rintro ⟨v', h1, h2⟩
    have h3 := h1 (grw (⟨u0, Below.refl _ _⟩ : Gr u0)) ⟨_, rfl⟩
    rw [h] at h3
    obtain ⟨_, rfl⟩ := h3
    exact h2
  · intro hk
    refine ⟨v, ?_, hk⟩
    rintro w ⟨z, rfl⟩
    rw [h z]
    exact ⟨rfl, rfl⟩
theorem wq_ld26 {u0 : World} {K : Act → Prop} (h1 : isP (a.eval x) = true) (h2 : isB u0 (blkV (a.eval x)) = true) :
    Oper.quiet Try.prog { dst, op := .load 26 x, type := ty, pos, after, guard := gd } a (fun w' => ∃ z : Gr u0, w' = grw z) K = K (a.put dst (.agg (cs26 u0 (blkV (a.eval x))))) := by
  obtain ⟨hb, hs⟩ := isB_box h2
  have hx := isP_eq h1
  refine quiet_val _ fun z => ?_
  generalize blkV (a.eval x) = g at *
  unfold execOp
  simp only [hx, Instr.loadAt, Instr.sureAddr, Sem.run_bind, Sem.run_pure, Result.andThen_ok, run_loadVar_row (P := Try.prog) (grw z) g 26 26 _ (0, 0) _ (gr_box z hb) Try.underlying26 rfl (by rw [hs]; exact Try.size26)]
end
end Go.Proofs.Ythaecflakefklaa
