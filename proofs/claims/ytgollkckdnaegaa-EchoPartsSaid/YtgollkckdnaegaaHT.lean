import Derived.Test.YtgollkckdnaegaaHS
namespace Go.Proofs.Ytgollkckdnaegaa
open Go.RowKit

/-! Bytes put behind a slice with no room; a piece of a slice. -/
theorem run_append_full (W : World) (p : Addr) (n m c2 : Nat) (A2 : Option Addr) (xs ys : List UInt8) (ty : TypeId) (hS : SlB W W.heap.size (some p) n xs) (hn : xs.length = n) (hS2 : SlB W W.heap.size A2 c2 ys) (hm : ys.length = m) (hb : n + m ≤ 10000000) :
    ∃ A3 c3 w', (Builtin.append_ #[27, 27] ty #[.slice (some p) n n, .slice A2 m c2]).run Try.prog W = .ok (.slice A3 (n + m) c3) w' ∧ SlB w' w'.heap.size A3 c3 (xs ++ ys) ∧ Below W.heap.size W w' := by
  obtain ⟨i5, hi5, hz5, hz51, hz52⟩ := info_parts Try.info5
  by_cases h0 : m = 0
  · subst h0
    have hy : ys = [] := List.eq_nil_of_length_eq_zero hm
    subst hy
    refine ⟨some p, n, W, ?_, by simpa using hS, Below.refl _ _⟩
    cases A2 <;> simp [Builtin.append_, run_underlying Try.underlying27, sizeOf, typeInfo, hi5, Builtin.lenOf, Builtin.firstCells, loadCells, loadCellsFrom, storeCells]
  · have hne : bv ys ≠ [] := by
      intro e
      have := congrArg List.length e
      rw [bv_length, hm] at this
      exact h0 this
    obtain ⟨b2, o2, rfl, _, hc2⟩ := hS2.2.2.2 hne
    have holds : ∀ j u, (bv xs)[j]? = some u → W.cell? (p.add j) = some u := fun j u hj => by
      obtain ⟨b, o, he, _, hc⟩ := hS.2.2.2 (by intro e; rw [e] at hj; simp at hj)
      cases he
      rw [Addr.add_lit]
      exact hc j u hj
    have hr := run_append_grow (P := Try.prog) W 27 ty 5 i5 (.int .u8 0) Try.underlying27 hi5 hz5 p n n (bv xs) (by rw [bv_length, hz51, Nat.mul_one, hn]) holds ⟨b2, o2, none⟩ m c2 (bv ys) (by rw [bv_length, hz51, Nat.mul_one, hm])
      (fun j u hj => by rw [Addr.add_lit]; exact hc2 j u hj) (by omega) (by omega) (growslice_fits (by omega) (by rw [hz52]; omega))
    have hge := grownCap_ge W (n + m) n 5
    have hcm : grownCap W (n + m) n 5 ≤ maxLen := grownCap_le_maxLen W (n + m) n 5 (by unfold maxLen; omega)
    generalize grownCap W (n + m) n 5 = cap at hr hge hcm
    refine ⟨_, _, _, hr, ⟨by rw [List.length_append, hn, hm]; exact hge, hcm, (fun e => by cases e), fun _ => ⟨W.heap.size, 0, rfl, by simp, fun j u hj => ?_⟩⟩, ((Below.refl W.heap.size W).drew).alloc (Nat.le_refl _) _⟩
    rw [bv_append] at hj
    have hjl := (List.getElem?_eq_some_iff.1 hj).1
    have h1 := World.cell?_alloc_mark W.drew ((bv xs).toArray ++ (bv ys).toArray ++ Builtin.zeroCells (Value.int IntKind.u8 0).cells (cap - (n + m))) 5 (0, 0) j
    rw [show W.drew.heap.size = W.heap.size from rfl] at h1
    rw [Nat.zero_add, h1]
    rw [Array.getElem?_append_left (by simpa using hjl), ← hj]
    simp
theorem step_full {ops : Array Oper} {o : Oper} {a : Act} {K : Act → World → Prop} {Q : Exit → Act → World → Prop} {E : Prop} {W : World} (hgd : o.guard = none) (s x : Operand) (ho : o.op = .call { callee := .builtin .append, args := #[s, x], argTypes := #[27, 27] })
    (p : Addr) (n : Nat) (xs : List UInt8) (hs : a.eval s = .slice (some p) n n) (A2 : Option Addr) (m c2 : Nat) (ys : List UInt8) (hx : a.eval x = .slice A2 m c2) (hS : Hid (SlB W W.heap.size (some p) n xs)) (hS2 : Hid (SlB W W.heap.size A2 c2 ys)) (hn : Hid (xs.length = n)) (hm : Hid (ys.length = m)) (hb : n + m ≤ 10000000)
    (h : ∀ A3 c3 u', Below W.heap.size W u' → Hid (SlB u' u'.heap.size A3 c3 (xs ++ ys)) → K (a.put o.dst (.slice A3 (n + m) c3)) u') :
    if Region.wanted o (yielded ops a.tmps) = true then Oper.wp Try.prog o a W K Q else E := by
  have hw : Region.wanted o (yielded ops a.tmps) = true := by simp [Region.wanted, hgd]
  rw [if_pos hw]
  obtain ⟨A3, c3, w', hrun, h2, h3⟩ := run_append_full W p n m c2 A2 xs ys o.type hS.out hn.out hS2.out hm.out hb
  unfold Oper.wp execOp
  simp only [ho, resolve, invoke, builtin, Sem.run_bind, Sem.run_pure, Result.andThen_ok, List.map_toArray, List.map_cons, List.map_nil, hs, hx, hrun]
  exact h A3 c3 w' h3 (hid h2)
theorem run_mid {w : World} {B : Nat} {A : Option Addr} {n c lo hi : Nat} {bs : List UInt8} (hS : SlB w B A c bs) (hn : bs.length = n) (hlo : lo ≤ hi) (hhi : hi ≤ n) : ∃ A2 c2, (∀ W : World, (Instr.sliceAt 27 (.slice A n c) (some (.int .i64 (lo : Int))) (some (.int .i64 (hi : Int))) none).run Try.prog W = .ok (.slice A2 (hi - lo) c2) W) ∧ Hid (SlB w B A2 c2 ((bs.take hi).drop lo)) := by
  have hc : A = none → c = 0 := hS.2.2.1
  have hl := hS.1
  have hk2 : (hi : Int) ≤ (c : Int) := by omega
  rcases A with _ | ad
  · obtain rfl := hc rfl
    obtain rfl : n = 0 := by omega
    obtain rfl : hi = 0 := by omega
    obtain rfl : lo = 0 := by omega
    refine ⟨none, 0, fun W => ?_, hid ?_⟩
    · simp [Instr.sliceAt, Instr.slice, go_sem]
    · have : bs = [] := List.eq_nil_of_length_eq_zero hn
      subst this
      exact hS
  · refine ⟨some (if c = lo then ad else ad.add lo), c - lo, fun W => ?_, hid ((hS.take hi).drop lo (by rw [List.length_take]; omega))⟩
    simp [Instr.sliceAt, Instr.slice, go_sem, hk2, hlo]
    try (split <;> rfl)
/-- A call has answered these bytes with no room behind them; all that was there in u is as it was. -/
def FullG (u W : World) (bs : List UInt8) (e : Ending) (w' : World) : Prop := ∃ p n, e = .returned (.slice (some p) n n) ∧ Hid (bs.length = n) ∧ Hid (SlB w' w'.heap.size (some p) n bs) ∧ Below u.heap.size u w' ∧ Below W.heap.size W w'
theorem full_growF {u W : World} (hW : Below u.heap.size u W) {fn : FuncId} {args : Array Value} {bs x : List UInt8} (hx : Hid (bs = x)) (h : Calls Try.prog fn args W (Full W bs)) : Calls Try.prog fn args W (FullG u W x) := by
  obtain rfl := hx.out
  refine h.mono ?_
  rintro e w' ⟨p, n, rfl, hn, hS, hb⟩
  exact ⟨p, n, rfl, hn, hS, hW.trans (hb.out.mono hW.size), hb.out⟩
theorem step_grow (u W : World) (hW : Below u.heap.size u W) {t : Tm} (ht : t.Ok) (col : Int) (c : UInt8) (cv : Int) (hc : cv = (c.toNat : Int)) {s v : Bool} (hs60 : Hid (hasN t.f 60 = s)) (hs42 : Hid (hasN t.f 42 = v)) {M : Nat} (hM : Hid (stepN s v (nrm col) c = M)) :
    Calls Try.prog 15 #[.agg t.cs, .int .i64 col, .int .u8 cv] W fun e w' => e = .returned (.int .i64 (M : Int)) ∧ Below u.heap.size u w' ∧ Below W.heap.size W w' := by
  subst hc
  refine (step_any W ht col c hs60 hs42).mono ?_
  rintro e w' ⟨rfl, h⟩
  rw [hM.out]
  exact ⟨rfl, hW.trans (h.out.mono hW.size), h.out⟩
end Go.Proofs.Ytgollkckdnaegaa
