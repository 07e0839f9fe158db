import Derived.Test.YtggcampdkgfmgaaGreatQS
import Derived.Deep.MidRow
namespace Go.Proofs.YtggcampdkgfmgaaGreat
open Go.RowKit

/-! LdiscBounds: steps that came in. -/
structure Op16 where
  k : Int
  n : Int
  wt : Int
  A : Option Addr
  c : Nat
  b : List UInt8
  t : Tm
def opC (o : Op16) : List Value := [.int .i64 o.k, .int .i64 o.n, .int .i64 o.wt, .slice o.A o.b.length o.c] ++ o.t.cl
theorem opC_len {o : Op16} (h : o.t.Ok) : (opC o).length = 28 := by simp [opC, cl_len h.len]
structure OpOk (w : World) (o : Op16) : Prop where
  t : o.t.Ok
  n : i64ok o.n
  wt : i64ok o.wt
  b : SlB w w.heap.size o.A o.c o.b
  small : o.b.length ≤ 140737488351232
structure OpsIn (w : World) (A : Option Addr) (c : Nat) (ops : List Op16) : Prop where
  len : ops.length ≤ c
  cap : c ≤ maxLen
  nil : A = none → c = 0
  lies : Lies w w.heap.size A (ops.map opC).flatten
  ok : ∀ o ∈ ops, OpOk w o
theorem OpOk.grow {w w' : World} {o : Op16} (H : OpOk w o) (k : Below w.heap.size w w') : OpOk w' o := ⟨H.t, H.n, H.wt, (slb_at (hid H.b) (hid k)).out, H.small⟩
theorem OpsIn.grow {w w' : World} {A : Option Addr} {c : Nat} {ops : List Op16} (H : OpsIn w A c ops) (k : Below w.heap.size w w') : OpsIn w' A c ops :=
  ⟨H.len, H.cap, H.nil, (H.lies.below k).more k.size, fun o ho => (H.ok o ho).grow k⟩
theorem ops_at {ops : List Op16} (hok : ∀ o ∈ ops, o.t.Ok) : ∀ {k : Nat} {o : Op16}, ops[k]? = some o → ∀ (j : Nat) (v : Value), (opC o)[j]? = some v → ((ops.map opC).flatten)[k * 28 + j]? = some v := by
  induction ops with
  | nil => intro k o h; simp at h
  | cons x r ih =>
    intro k o h j v hj
    have hx := opC_len (hok x (List.mem_cons_self ..))
    simp only [List.map_cons, List.flatten_cons]
    cases k with
    | zero =>
      simp at h
      subst h
      have : j < (opC x).length := (List.getElem?_eq_some_iff.1 hj).1
      rw [List.getElem?_append_left (by omega)]
      simpa using hj
    | succ k =>
      rw [List.getElem?_append_right (by omega), hx, show (k + 1) * 28 + j - 28 = k * 28 + j by omega]
      exact ih (fun o ho => hok o (List.mem_cons_of_mem _ ho)) (by simpa using h) j v hj
/-- One of them. -/
theorem OpsIn.at_ {w : World} {A : Option Addr} {c : Nat} {ops : List Op16} (H : OpsIn w A c ops) {k : Nat} (hk : k < ops.length) : ∃ b o op, A = some ⟨b, o, none⟩ ∧ ops[k]? = some op ∧ w.rangeAt b (o + k * 28) (opC op) ∧ OpOk w op := by
  have hne : (ops.map opC).flatten ≠ [] := by
    intro e
    have h1 := ops_at (fun o ho => (H.ok o ho).t) (k := k) (o := ops[k]) (List.getElem?_eq_getElem hk) 0 _ rfl
    rw [e] at h1
    cases h1
  obtain ⟨b, o, rfl, _, hc⟩ := H.lies hne
  refine ⟨b, o, ops[k], rfl, List.getElem?_eq_getElem hk, fun j v hj => ?_, H.ok _ (List.getElem_mem hk)⟩
  have := hc _ v (ops_at (fun o ho => (H.ok o ho).t) (List.getElem?_eq_getElem hk) j v hj)
  rwa [Nat.add_assoc]
/-- A struct is loaded out of a row. -/
theorem ldM {ops : Array Oper} {rest : List Oper} {o : Oper} {a : Act} {w : World} {Q : Exit → Act → World → Prop} (hw : Region.wanted o (yielded ops a.tmps) = true) (T : TypeId) {fs : Array Field} (hT : Tryz.prog.underlying T = some (.struct fs)) (x : Operand) (ho : o.op = .load T x) (g off : Nat) (hx : a.eval x = .pointer (some ⟨g, off, none⟩)) (l : List Value) (hr : Hid (w.rangeAt g off l)) (hi : Hid ((Tryz.prog.info? T).map (·.size) = some l.length))
    (h : wpList Tryz.prog ops Q rest (a.put o.dst (.agg l.toArray)) w) : wpList Tryz.prog ops Q (o :: rest) a w :=
  BigFrame.wpList_want hw fun _ hK => by
    unfold Oper.wp execOp
    simp only [ho, hx, Instr.loadAt, Instr.sureAddr, Sem.run_bind, Sem.run_pure, Result.andThen_ok, run_loadVar_mid (P := Tryz.prog) w g off T l _ hr.out hT rfl hi.out]
    exact hK _ _ h
/-- A struct is stored to a new variable. -/
theorem snX {ops : Array Oper} {rest : List Oper} {o : Oper} {a : Act} {w : World} {Q : Exit → Act → World → Prop} (hw : Region.wanted o (yielded ops a.tmps) = true) (T : TypeId) (x y : Operand) (ho : o.op = .store T x y) (w0 : World) (cs : Array Value) (hw0 : w = w0.alloc (.cells cs T)) (hx : a.eval x = .pointer (some ⟨w0.heap.size, 0, none⟩)) (V : Array Value) (hy : a.eval y = .agg V) (hi : Hid ((Tryz.prog.info? T).map (·.size) = some V.size)) (hs : cs.size = V.size) (h1 : Hid (V.all (·.oneCell') = true))
    (h : ∀ w', Hid (Box w' w0.heap.size T V) → Hid (Below w0.heap.size w0 w') → wpList Tryz.prog ops Q rest (a.put o.dst undef) w') : wpList Tryz.prog ops Q (o :: rest) a w := by
  subst hw0
  refine BigFrame.wpList_want hw fun _ hK => wp_store_row T x y ho w0.heap.size V hx hy T cs (Box.new w0 T cs) hi.out hs h1.out (hK _ _ (h _ (hid (setRow_heap _ _ cs _ T _ (Box.new w0 T cs))) (hid ?_)))
  exact ((Below.refl _ w0).alloc (Nat.le_refl _) _).trans ((Turn.setRow _ w0.heap.size _).below (Nat.le_refl _))
def opV (o : Op16) : Array Value := (opC o).toArray
theorem opV_size {o : Op16} (h : o.t.Ok) : (opV o).size = 28 := by simp [opV, opC_len h]
theorem opV_one {o : Op16} : (opV o).all (·.oneCell') = true := by
  refine Array.all_eq_true_iff_forall_mem.2 fun v hv => ?_
  simp only [opV, opC, List.mem_toArray, List.mem_append, List.mem_cons, List.not_mem_nil, or_false] at hv
  rcases hv with (rfl | rfl | rfl | rfl) | hv
  · rfl
  · rfl
  · rfl
  · rfl
  · have h1 := cs_one o.t
    rw [Array.all_eq_true_iff_forall_mem] at h1
    exact h1 v (by simpa [Tm.cs] using hv)
theorem sizeOp : (Tryz.prog.info? 65).map (·.size) = some 28 := by kernel_rfl
def minSum (ops : List Op16) : Nat := (ops.map fun o => min o.b.length 100000).sum
def heavyD (ops : List Op16) : Bool := decide (60 < ops.length) || decide (3000 < minSum ops)
theorem heavy_small {ops : List Op16} (h : heavyD ops = false) {o : Op16} (ho : o ∈ ops) : o.b.length ≤ 3000 := by
  unfold heavyD at h
  simp only [Bool.or_eq_false_iff, decide_eq_false_iff_not] at h
  have : min o.b.length 100000 ≤ minSum ops := by
    unfold minSum
    clear h
    induction ops with
    | nil => cases ho
    | cons x r ih =>
      simp only [List.map_cons, List.sum_cons]
      rcases List.mem_cons.1 ho with rfl | ho
      · omega
      · have := ih ho; omega
  omega
end Go.Proofs.YtggcampdkgfmgaaGreat
