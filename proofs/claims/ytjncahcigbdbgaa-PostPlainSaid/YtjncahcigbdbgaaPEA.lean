import Derived.Test.YtjncahcigbdbgaaPD
namespace Go.Proofs.Ytjncahcigbdbgaa
open Go.RowKit

/-! The program's pen: a setting, a column and what went out, 26 cells in a row. -/
def penC (t : Tm) (N : Nat) (s : Value) : Array Value := (t.cl ++ [Value.int .i64 (N : Int), s]).toArray
section
variable {t : Tm}
theorem penC_size (h : t.c.length = 19) (N : Nat) (s : Value) : (penC t N s).size = 26 := by simp [penC, cl_len h]
theorem penC_24 (h : t.c.length = 19) (N : Nat) (s : Value) : (penC t N s)[24]? = some (.int .i64 (N : Int)) := by
  unfold penC
  rw [List.getElem?_toArray, List.getElem?_append_right (by rw [cl_len h]; exact Nat.le_refl _), cl_len h]
  rfl
theorem penC_25 (h : t.c.length = 19) (N : Nat) (s : Value) : (penC t N s)[25]? = some s := by
  unfold penC
  rw [List.getElem?_toArray, List.getElem?_append_right (by rw [cl_len h]; decide), cl_len h]
  rfl
theorem penC_front (N : Nat) (s : Value) (j : Nat) (v : Value) (hj : t.cl[j]? = some v) : (penC t N s)[j]? = some v := by
  have := (List.getElem?_eq_some_iff.1 hj).1
  unfold penC
  rw [List.getElem?_toArray, List.getElem?_append_left this, hj]
theorem penC_set (h : t.c.length = 19) (N M : Nat) (s : Value) : (penC t N s).setIfInBounds 24 (.int .i64 (M : Int)) = penC t M s := by
  unfold penC
  rw [List.setIfInBounds_toArray, List.set_append_right _ _ (by rw [cl_len h]; exact Nat.le_refl _), cl_len h]
  rfl
theorem penC_out (h : t.c.length = 19) (N : Nat) (s r : Value) : (penC t N s).setIfInBounds 25 r = penC t N r := by
  unfold penC
  rw [List.setIfInBounds_toArray, List.set_append_right _ _ (by rw [cl_len h]; decide), cl_len h]
  rfl
end
theorem penC_one (t : Tm) (N : Nat) {s : Value} (hs : s.oneCell' = true) : (penC t N s).all (·.oneCell') = true := by
  refine Array.all_eq_true_iff_forall_mem.2 fun v hv => ?_
  simp only [penC, List.mem_toArray, List.mem_append, List.mem_cons, List.not_mem_nil, or_false] at hv
  rcases hv with hv | rfl | rfl
  · have h1 := cs_one t
    rw [Array.all_eq_true_iff_forall_mem] at h1
    exact h1 v (by simpa [Tm.cs] using hv)
  · rfl
  · exact hs
theorem Try.size46 : (Try.prog.info? 46).map (·.size) = some 26 := by kernel_rfl
/-- Nothing went out. -/
def noV : Value := .slice none 0 0
def zeroP : Array Value := penC Tm.zero 0 noV
/-- A pen in memory. -/
def Pen (w : World) (g : Nat) (t : Tm) (N : Nat) (s : Value) : Prop := Box w g 46 (penC t N s)
section
variable {w w' : World} {g N : Nat} {t : Tm} {s : Value}
theorem Pen.cell (h : Pen w g t N s) (ht : t.c.length = 19) : w.cell? ⟨g, 24, none⟩ = some (.int .i64 (N : Int)) := (Box.cell h 24).trans (penC_24 ht N s)
theorem Pen.frozen (h : Pen w g t N s) : w.frozen? ⟨g, 24, none⟩ = false := Box.frozen h 24
theorem Pen.cell25 (h : Pen w g t N s) (ht : t.c.length = 19) : w.cell? ⟨g, 25, none⟩ = some s := (Box.cell h 25).trans (penC_25 ht N s)
theorem Pen.frozen25 (h : Pen w g t N s) : w.frozen? ⟨g, 25, none⟩ = false := Box.frozen h 25
theorem Pen.R (h : Pen w g t N s) (ht : t.c.length = 19) : isR w (.pointer (some ⟨g, 0, none⟩)) = true ∧ csR w (.pointer (some ⟨g, 0, none⟩)) = t.cs := front_R ht h (penC_front N s)
theorem Pen.bel (h : Pen w g t N s) (k : Below w.heap.size w w') : Pen w' g t N s := box_below h k
theorem Pen.store (h : Pen w g t N s) (ht : t.c.length = 19) (M : Nat) : Pen (w.setCell ⟨g, 24, none⟩ (.int .i64 (M : Int))) g t M s := by
  have := Box.store h 24 (.int .i64 (M : Int))
  rwa [penC_set ht] at this
theorem Pen.storeOut (h : Pen w g t N s) (ht : t.c.length = 19) (r : Value) : Pen (w.setCell ⟨g, 25, none⟩ r) g t N r := by
  have := Box.store h 25 r
  rwa [penC_out ht] at this
/-- What the pen's methods may turn: the pen. -/
theorem Pen.keptOut (h : Pen w g t N s) (v : Value) {B : Nat} (hB : B ≤ g) : Kept B [46] w (w.setCell ⟨g, 25, none⟩ v) := (Kept.refl B [46] w).store h hB (by simp) v
theorem Pen.kept (h : Pen w g t N s) (v : Value) {B : Nat} (hB : B ≤ g) : Kept B [46] w (w.setCell ⟨g, 24, none⟩ v) := (Kept.refl B [46] w).store h hB (by simp) v
end
theorem bel_p {w a b : World} {B : Nat} (h : Hid (Below w.heap.size w a)) (k : Hid (Kept B [46] a b)) (hB : w.heap.size ≤ B) : Hid (Below w.heap.size w b) :=
  hid (h.out.trans ((k.out.mono hB (fun _ h => h)).below h.out.size))
theorem kep_b {B : Nat} {a b c : World} (h : Hid (Kept B [46] a b)) (k : Below b.heap.size b c) : Hid (Kept B [46] a c) := hid (h.out.trans (Kept.of_below k B [46]))
theorem slb_p {a b : World} {B : Nat} {A : Option Addr} {c : Nat} {bs : List UInt8} (h : Hid (SlB a B A c bs)) (k : Hid (Kept B [46] a b)) (hB : B ≤ a.heap.size) : Hid (SlB b B A c bs) :=
  hid ⟨h.out.1, h.out.2.1, h.out.2.2.1, h.out.2.2.2.below (k.out.below hB)⟩
section
variable {ops : Array Oper} {rest : List Oper} {o : Oper} {a : Act} {w : World} {Q : Exit → Act → World → Prop}
/-- The pen's setting is loaded. -/
theorem ldP (hw : Region.wanted o (yielded ops a.tmps) = true) (x : Operand) (ho : o.op = .load 26 x) (g : Nat) (hx : a.eval x = .pointer (some ⟨g, 0, none⟩)) (t : Tm) (N : Nat) (s : Value) (hb : Hid (Pen w g t N s)) (ht : t.c.length = 19)
    (h : wpList Try.prog ops Q rest (a.put o.dst (.agg t.cs)) w) : wpList Try.prog ops Q (o :: rest) a w :=
  BigFrame.wpList_want hw fun _ hK => by
    have hr : w.rangeAt g 0 t.cl := fun j v hj => by
      rw [Nat.zero_add]
      exact (Box.cell hb.out j).trans (penC_front N s j v hj)
    unfold Oper.wp execOp
    simp only [ho, hx, Instr.loadAt, Instr.sureAddr, Sem.run_bind, Sem.run_pure, Result.andThen_ok, run_loadVar_mid (P := Try.prog) w g 0 26 t.cl _ hr Try.underlying26 rfl (by rw [cl_len ht]; exact Try.size26)]
    exact hK _ _ h
/-- A new variable of a pen's type takes one. -/
theorem snP (hw : Region.wanted o (yielded ops a.tmps) = true) (x y : Operand) (ho : o.op = .store 46 x y) (w0 : World) (cs : Array Value) (hs : cs.size = 26) (hw0 : w = w0.alloc (.cells cs 46)) (hx : a.eval x = .pointer (some ⟨w0.heap.size, 0, none⟩)) (t : Tm) (N : Nat) (ht : t.c.length = 19) (s : Value) (hs1 : s.oneCell' = true) (hy : a.eval y = .agg (penC t N s))
    (h : ∀ w', Hid (Pen w' w0.heap.size t N s) → Hid (Below w0.heap.size w0 w') → Hid (w0.heap.size < w'.heap.size) → wpList Try.prog ops Q rest (a.put o.dst undef) w') : wpList Try.prog ops Q (o :: rest) a w := by
  subst hw0
  refine BigFrame.wpList_want hw fun _ hK => wp_store_row 46 x y ho w0.heap.size (penC t N s) hx hy 46 cs (Box.new w0 46 cs) (by rw [penC_size ht]; exact Try.size46) (by rw [hs, penC_size ht]) (penC_one t N hs1) (hK _ _ (h _ (hid (setRow_heap _ _ cs _ 46 _ (Box.new w0 46 cs))) (hid ?_) (hid ?_)))
  · exact ((Below.refl _ w0).alloc (Nat.le_refl _) _).trans ((Turn.setRow _ w0.heap.size _).below (Nat.le_refl _))
  · rw [size_setRow]; simp
end
theorem list24 {l : List Value} (h : l.length = 24) : ∃ a b c d e f g i j k m n o p q r s t u v w x y z : Value, l = [a, b, c, d, e, f, g, i, j, k, m, n, o, p, q, r, s, t, u, v, w, x, y, z] :=
  match l, h with
  | [a, b, c, d, e, f, g, i, j, k, m, n, o, p, q, r, s, t, u, v, w, x, y, z], _ => ⟨a, b, c, d, e, f, g, i, j, k, m, n, o, p, q, r, s, t, u, v, w, x, y, z, rfl⟩
theorem built46 {cs : Array Value} (hs : cs.size = 24) (n : Int) : Try.prog.built 46 [(0, .agg cs), (1, .int .i64 n)] = some ((cs.push (.int .i64 n)).push noV) := by
  obtain ⟨l⟩ := cs
  have h : l.length = 24 := by simpa using hs
  obtain ⟨a, b, c, d, e, f, g, i, j, k, m, n2, o, p, q, r, s, t, u, v, w, x, y, z, rfl⟩ := list24 h
  show Try.prog.built 46 [(0, .agg [a, b, c, d, e, f, g, i, j, k, m, n2, o, p, q, r, s, t, u, v, w, x, y, z].toArray), (1, .int .i64 n)] = some (([a, b, c, d, e, f, g, i, j, k, m, n2, o, p, q, r, s, t, u, v, w, x, y, z].toArray.push (Value.int .i64 n)).push noV)
  kernel_rfl
theorem penC_push (t : Tm) (N : Nat) : (t.cs.push (.int .i64 (N : Int))).push noV = penC t N noV := by simp [penC, Tm.cs]
end Go.Proofs.Ytjncahcigbdbgaa
