import Derived.Test.YtggcampdkgfmgaaGreatJY
import Derived.Deep.DeepCutAuto
namespace Go.Proofs.YtggcampdkgfmgaaGreat
open Go.RowKit

/-! LdiscSignals. -/
/-- A setting that lies ahead of more is loaded. -/
theorem ldF16 {ops : Array Oper} {rest : List Oper} {o : Oper} {a : Act} {w : World} {Q : Exit → Act → World → Prop} (hw : Region.wanted o (yielded ops a.tmps) = true) (x : Operand) (ho : o.op = .load 26 x) (g : Nat) (hx : a.eval x = .pointer (some ⟨g, 0, none⟩)) (t : Tm) (hl : t.c.length = 19) {T : TypeId} {cs : Array Value} (hb : Hid (Box w g T cs)) (hc : Hid (∀ (j : Nat) (v : Value), t.cl[j]? = some v → cs[j]? = some v))
    (h : wpList Tryz.prog ops Q rest (a.put o.dst (.agg t.cs)) w) : wpList Tryz.prog ops Q (o :: rest) a w :=
  BigFrame.wpList_want hw fun _ hK => by
    obtain ⟨r1, r2⟩ := front_R hl hb.out hc.out
    obtain ⟨dst, op, ty, pos, after, gd⟩ := o
    obtain rfl : op = .load 26 x := ho
    rw [wp_ldR (by rw [hx]; exact r1), hx, r2]
    exact hK _ _ h
/-- A struct is loaded whole. -/
theorem ldX {ops : Array Oper} {rest : List Oper} {o : Oper} {a : Act} {w : World} {Q : Exit → Act → World → Prop} (hw : Region.wanted o (yielded ops a.tmps) = true) (T : TypeId) {fs : Array Field} (hT : Tryz.prog.underlying T = some (.struct fs)) (x : Operand) (ho : o.op = .load T x) (g : Nat) (hx : a.eval x = .pointer (some ⟨g, 0, none⟩)) {T2 : TypeId} {cs : Array Value} (hb : Hid (Box w g T2 cs)) (hi : Hid ((Tryz.prog.info? T).map (·.size) = some cs.size))
    (h : wpList Tryz.prog ops Q rest (a.put o.dst (.agg cs)) w) : wpList Tryz.prog ops Q (o :: rest) a w :=
  BigFrame.wpList_want hw fun _ hK => wp_load_row T x ho g hx T2 cs (0, 0) _ hb.out hT rfl hi.out (hK _ _ h)
/-- A discipline that came in. -/
structure XIn (w : World) (D : Ds) (h : Ph) : Prop where
  t : D.t.Ok
  line : SlB w w.heap.size h.lA h.lc D.line
  raw : SlB w w.heap.size h.rA h.rc D.raw
  out : SlB w w.heap.size h.oA h.oc D.out
  lsv : L13.LnV w w.heap.size h.nA h.nc h.qs
  lsq : L13.lnR h.qs = D.ls
  sl : D.line.length ≤ 140737488351232
  sr : D.raw.length ≤ 140737488351232
  so : D.out.length ≤ 140737488351232
  sq : ∀ r ∈ h.qs, r.bs.length ≤ 140737488351232
  col : i64ok D.col
  fr : i64ok D.fr
  idle : i64ok D.idle
theorem XIn.grow {w w' : World} {D : Ds} {h : Ph} (H : XIn w D h) (k : Below w.heap.size w w') : XIn w' D h :=
  ⟨H.t, (slb_at (hid H.line) (hid k)).out, (slb_at (hid H.raw) (hid k)).out, (slb_at (hid H.out) (hid k)).out, (L13.ln_up (hid H.lsv) k).out, H.lsq, H.sl, H.sr, H.so, H.sq, H.col, H.fr, H.idle⟩
def sumL (ls : List (List UInt8 × Bool)) : Nat := (ls.map fun x => x.1.length).sum
def greatD (D : Ds) : Bool := decide (12000 < D.line.length + D.raw.length + D.out.length + sumL D.ls) || decide (2000 < D.ls.length)
theorem great_fit {D : Ds} (ht : D.t.Ok) (hg : greatD D = false) (h1 : i64ok D.col) (h2 : i64ok D.fr) (h3 : i64ok D.idle) : FitN 2000 D := by
  unfold greatD at hg
  simp only [Bool.or_eq_false_iff, decide_eq_false_iff_not] at hg
  obtain ⟨ha, hb⟩ := hg
  have hu : ∀ ls : List (List UInt8 × Bool), L13.usedL ls ≤ sumL ls + ls.length := by
    intro ls
    induction ls with
    | nil => exact Nat.le_refl _
    | cons x r ih =>
      simp only [L13.usedL, sumL, List.map_cons, List.sum_cons, List.length_cons] at ih ⊢
      split <;> omega
  have := hu D.ls
  exact ⟨ht, by omega, by omega, by omega, by omega, by omega, h1, h2, h3⟩
end Go.Proofs.YtggcampdkgfmgaaGreat
