import Derived.Test.YtdcohhfbifiemaaKB
namespace Go.Proofs.Ytdcohhfbifiemaa
open Go.RowKit Go.Maps

/-- The one is ahead of the other. -/
def lt (a b : Tm) : Bool := if a.2 = b.2 then decide (a.1 < b.1) else decide (a.2 < b.2)
theorem but_drew0 {K : List Nat} {w w' : World} (h : But K w.drew w') : But K w w' := ⟨h.os, h.tape, h.output, h.size, h.block⟩
/-- 'm[k] = v' at the operation, in a region that draws. -/
theorem step_mput {w : World} {ops : Array Oper} {o : Oper} {a : Act} {K : Act → World → Prop} {Q : Exit → Act → World → Prop} {E : Prop} (hgd : o.guard = none) (m x v : Operand) (t : TypeId) (hop : o.op = Op.mapUpdate t m x v)
    {e : TypeId} (ht : Try.prog.underlying t = some (.map 3 e)) (he : Try.prog.underlying e = some (.int .i64)) {M n : Nat} {f : Int → Option Int} (hm : Mp w e M n f) (hn : n < maxLen) {b c : Int}
    (h1 : a.eval m = .map (some M)) (h2 : a.eval x = .int .i64 b) (h3 : a.eval v = .int .i64 c) (hb : okI b) (hc : okI c)
    (h : ∀ w', Mp w' e M (if (f b).isSome then n else n + 1) (putF f b c) → But [M] w w' → K (a.put o.dst undef) w') :
    if Region.wanted o (yielded ops a.tmps) = true then Oper.wp Try.prog o a w K Q else E := by
  have hw : Region.wanted o (yielded ops a.tmps) = true := by simp [Region.wanted, hgd]
  rw [if_pos hw]
  obtain ⟨w', hrun, r1, r2⟩ := hm.put ht he hn hb hc
  unfold Oper.wp
  simp [execOp, hop, h1, h2, h3, hrun, Result.andThen]
  exact h w' r1 r2
theorem step_mdel {w : World} {ops : Array Oper} {o : Oper} {a : Act} {K : Act → World → Prop} {Q : Exit → Act → World → Prop} {E : Prop} (hgd : o.guard = none) (m x : Operand) (t : TypeId) (hop : o.op = Op.call { callee := Callee.builtin Builtin.delete, args := #[m, x], argTypes := #[t, 3] })
    {e : TypeId} (ht : Try.prog.underlying t = some (.map 3 e)) {M n : Nat} {f : Int → Option Int} (hm : Mp w e M n f) {b : Int}
    (h1 : a.eval m = .map (some M)) (h2 : a.eval x = .int .i64 b) (hb : okI b)
    (h : ∀ w', Mp w' e M (if (f b).isSome then n - 1 else n) (delF f b) → But [M] w w' → K (a.put o.dst (.tuple #[])) w') :
    if Region.wanted o (yielded ops a.tmps) = true then Oper.wp Try.prog o a w K Q else E := by
  have hw : Region.wanted o (yielded ops a.tmps) = true := by simp [Region.wanted, hgd]
  rw [if_pos hw]
  obtain ⟨w', hrun, r1, r2⟩ := hm.del ht hb o.type
  unfold Oper.wp
  simp [execOp, hop, resolve, invoke, builtin, h1, h2, hrun, Result.andThen]
  exact h w' r1 r2
section
variable (w : World)
set_option maxHeartbeats 1000000 in
theorem plen_any {H n : Nat} {A : Option Addr} {c : Nat} {m : Value} (hb : Hid (Box w H 59 #[.slice A n c, m])) : Calls Try.prog 24 #[.pointer (some ⟨H, 0, none⟩)] w fun e w' => e = .returned (.int .i64 n) ∧ w' = w := by
  have c0 := hb.out.cell 0
  go_enter Try.func24, Try.ntmps24
  go_wp2
  go_ret
  exact ⟨rfl, rfl⟩
set_option maxHeartbeats 1000000 in
theorem ahead_any (a b c d : Int) : Calls Try.prog 47 #[.agg #[.int .i64 a, .int .i64 b], .agg #[.int .i64 c, .int .i64 d]] w fun e w' => e = .returned (.bool (lt (a, b) (c, d))) ∧ Hid (But [] w w') := by
  by_cases h : b = d
  · have h1 : (b != d) = false := by simp [h]
    go_enter Try.func47, Try.ntmps47
    go_wp2
    go_ret
    exact ⟨ret_bool (by simp [lt, h]), ((But.refl [] w).alloc _).alloc _⟩
  · have h1 : (b != d) = true := by simp [h]
    go_enter Try.func47, Try.ntmps47
    go_wp2
    go_ret
    exact ⟨ret_bool (by simp [lt, h]), ((But.refl [] w).alloc _).alloc _⟩
set_option maxHeartbeats 1000000 in
theorem less_any {H M i j : Nat} {rb : Option Nat} {L : List Tm} {x y : Tm} (hp : Hid (Pl w H M rb L)) (hi : Hid (L[i]? = some x)) (hj : Hid (L[j]? = some y)) :
    Calls Try.prog 43 #[.pointer (some ⟨H, 0, none⟩), .int .i64 i, .int .i64 j] w fun e w' => e = .returned (.bool (lt x y)) ∧ Hid (But [] w w') := by
  obtain ⟨A, c, f, hb, hr, hm, hf⟩ := hp.out.body
  obtain ⟨il, hx⟩ := List.getElem?_eq_some_iff.1 hi.out
  obtain ⟨jl, hy⟩ := List.getElem?_eq_some_iff.1 hj.out
  obtain ⟨r, cur, rfl, _, hbr, _, hc⟩ := hr.some_ (by omega)
  have c0 := hb.cell 0
  have ci := hc i il
  have cj := hc j jl
  rw [hx] at ci
  rw [hy] at cj
  have i0 := (hbr.cell (i * 2)).trans ci.1
  have i1 := (hbr.cell (i * 2 + 1)).trans ci.2
  have j0 := (hbr.cell (j * 2)).trans cj.1
  have j1 := (hbr.cell (j * 2 + 1)).trans cj.2
  obtain ⟨n, hn⟩ : ∃ n, L.length = n := ⟨_, rfl⟩
  rw [hn] at il jl c0
  have bi : 0 ≤ (i : Int) ∧ (i : Int) < n := by omega
  have bj : 0 ≤ (j : Int) ∧ (j : Int) < n := by omega
  clear hi hj hp hb hr hm hf hc hbr ci cj hx hy
  obtain ⟨x1, x2⟩ := x
  obtain ⟨y1, y2⟩ := y
  simp only at i0 i1 j0 j1
  go_enter Try.func43, Try.ntmps43
  go_wp2
  go_region_law (first
    | (go_simp
       (with_reducible refine (ahead_any _ _ _ _ _).mono ?_)
       rintro e w1 ⟨rfl, HK⟩))
  all_goals
    go_wp2
    go_ret
    exact ⟨rfl, but_drew0 HK.out⟩
end
end Go.Proofs.Ytdcohhfbifiemaa
