import Derived.Test.YtdcohhfbifiemaaKG
import Derived.ArgAppend
namespace Go.Proofs.Ytdcohhfbifiemaa
open Go.RowKit Go.Maps

theorem Try.info61 : (Try.prog.info? 61).map (fun i => (i.zero, i.size, i.bytes)) = some (some (.agg #[.int .i64 0, .int .i64 0]), 2, 16) := by kernel_rfl
def tv (x : Tm) : List Value := [.int .i64 x.1, .int .i64 x.2]
theorem tv_at (x : Tm) (j : Nat) (u : Value) (h : (tv x)[j]? = some u) : (j = 0 ∧ u = .int .i64 x.1) ∨ (j = 1 ∧ u = .int .i64 x.2) := by
  cases j with
  | zero => simp [tv] at h; exact .inl ⟨rfl, h.symm⟩
  | succ j => cases j with
    | zero => simp [tv] at h; exact .inr ⟨rfl, h.symm⟩
    | succ j => simp [tv] at h
/-- append of one timer to a row. -/
theorem Rw.app {w : World} {A : Option Addr} {n c : Nat} {rb : Option Nat} {L : List Tm} (h : Rw w A n c rb L) (a : Addr) (c2 : Nat) (x : Tm) (ty : TypeId)
    (h0 : w.cell? (a.add 0) = some (.int .i64 x.1)) (h1 : w.cell? (a.add 1) = some (.int .i64 x.2)) (hn : n + 1 ≤ 1000000) :
    ∃ A' c' w', (Builtin.append_ #[56, 56] ty #[.slice A n c, .slice (some a) 1 c2]).run Try.prog w = .ok (.slice A' (n + 1) c') w' ∧ (∃ rb', Rw w' A' (n + 1) c' rb' (L ++ [x]) ∧ ∀ y, rb' = some y → rb = some y ∨ w.heap.size ≤ y) ∧ But rb.toList w w' := by
  obtain ⟨i0, hi0, hz0, hz1, hz2⟩ := info_parts Try.info61
  have hl := h.len
  have h2 := h.le
  have h3 := h.max
  have hone : ∀ u ∈ tv x, u.oneCell' = true := by
    intro u hu
    simp [tv] at hu
    rcases hu with rfl | rfl <;> rfl
  have hn1 : ∀ j v, (tv x)[j]? = some v → w.cell? (a.add j) = some v := fun j v hv => by
    rcases tv_at x j v hv with ⟨rfl, rfl⟩ | ⟨rfl, rfl⟩
    · exact h0
    · exact h1
  have hlen : (tv x).length = 1 * i0.size := by simp [hz1, tv]
  rcases h.row with ⟨rfl, rfl, rfl⟩ | ⟨r, cur, rfl, rfl, hb, hs, he⟩
  · have hn0 : n = 0 := by omega
    subst hn0
    have hL : L = [] := List.eq_nil_of_length_eq_zero hl
    subst hL
    have hr := run_append_nil (P := Try.prog) w 56 ty 61 i0 _ Try.underlying56 hi0 hz0 a 1 c2 (tv x) hlen hn1 (by omega) (by omega) (by rw [hz2]; omega)
    have hge := grownCap_ge w 1 0 61
    have hcm : grownCap w 1 0 61 ≤ maxLen := grownCap_le_maxLen w 1 0 61 (by unfold maxLen; omega)
    refine ⟨_, _, _, hr, ⟨some w.heap.size, ⟨rfl, hge, hcm, .inr ⟨w.heap.size, _, rfl, rfl, heap_alloc_new w.drew _, ?_, fun j hj => ?_⟩⟩, fun y hy => .inr (by injection hy with hy; omega)⟩, ((But.refl _ w).drew).alloc _⟩
    · simp only [Array.size_append, List.size_toArray, size_zeroCells, Value.cells]
      simp [tv]
      omega
    · have hj0 : j = 0 := by simp at hj; omega
      subst hj0
      refine ⟨?_, ?_⟩
      · rw [Array.getElem?_append_left (by simp [tv])]
        rfl
      · rw [Array.getElem?_append_left (by simp [tv])]
        rfl
  · by_cases hroom : n + 1 ≤ c
    · have hr := run_append_room_cells (P := Try.prog) w 56 ty 61 i0 Try.underlying56 hi0 r 0 n c a 1 c2 (tv x) hlen hn1 hone hroom
        (fun j hj => by
          have hj2 : j < 2 := by simpa [tv] using hj
          rw [hz1, hb.cell]
          have : n * 2 + j < cur.size := by omega
          simp [this])
        (fun j hj => hb.frozen _)
      rw [hz1] at hr
      simp only [World.setCells, tv, Nat.zero_add, List.foldl, Addr.add_lit] at hr
      have hk : But [r] w ((w.setCell ⟨r, n * 2, none⟩ (.int .i64 x.1)).setCell ⟨r, n * 2 + 1, none⟩ (.int .i64 x.2)) := ((But.refl [r] w).store (g := r) (i := n * 2) (.inl (by simp)) _).store (g := r) (i := n * 2 + 1) (.inl (by simp)) _
      refine ⟨_, _, _, hr, ⟨some r, ⟨by simp [hl], hroom, h3, .inr ⟨r, _, rfl, rfl, (hb.store _ _).store _ _, by simpa using hs, fun j hj => ?_⟩⟩, fun x hx => .inl hx⟩, hk⟩
      simp only [Array.getElem?_setIfInBounds, Array.size_setIfInBounds]
      by_cases hjl : j < L.length
      · rw [List.getElem_append_left hjl, if_neg (by omega), if_neg (by omega), if_neg (by omega), if_neg (by omega)]
        exact he j hjl
      · have hjn : j = n := by simp at hj; omega
        subst hjn
        rw [List.getElem_append_right (by omega)]
        simp only [hl, Nat.sub_self, List.getElem_cons_zero]
        rw [if_neg (by omega), if_pos trivial, if_pos (by omega), if_pos trivial, if_pos (by omega)]
        exact ⟨rfl, rfl⟩
    · have holds0 : (cur.toList.take (n * 2)).length = n * 2 := by
        rw [List.length_take, Array.length_toList]
        omega
      have hr := run_append_grow (P := Try.prog) w 56 ty 61 i0 _ Try.underlying56 hi0 hz0 ⟨r, 0, none⟩ n c (cur.toList.take (n * 2)) (by rw [holds0, hz1])
        (fun j v hv => by
          rw [Addr.add_lit, Nat.zero_add, hb.cell]
          rw [List.getElem?_take] at hv
          split at hv
          · simpa using hv
          · cases hv) a 1 c2 (tv x) hlen hn1 (by omega) (by omega) (growslice_fits (by omega) (by rw [hz2]; omega))
      have hge := grownCap_ge w (n + 1) c 61
      have hcm : grownCap w (n + 1) c 61 ≤ maxLen := grownCap_le_maxLen w (n + 1) c 61 (by unfold maxLen; omega)
      refine ⟨_, _, _, hr, ⟨some w.heap.size, ⟨by simp [hl], hge, hcm, .inr ⟨w.heap.size, _, rfl, rfl, heap_alloc_new w.drew _, ?_, fun j hj => ?_⟩⟩, fun x hx => .inr (by injection hx with hx; omega)⟩, ((But.refl _ w).drew).alloc _⟩
      · simp only [Array.size_append, List.size_toArray, size_zeroCells, Value.cells, holds0]
        simp [tv]
        omega
      · by_cases hjl : j < L.length
        · rw [List.getElem_append_left hjl, Array.append_assoc]
          have hjn : j < n := by omega
          rw [Array.getElem?_append_left (by rw [List.size_toArray, holds0]; omega), Array.getElem?_append_left (by rw [List.size_toArray, holds0]; omega)]
          have := he j hjl
          simp only [List.getElem?_toArray, List.getElem?_take]
          rw [if_pos (by omega), if_pos (by omega)]
          simpa using this
        · have hjn : j = n := by simp at hj; omega
          subst hjn
          rw [List.getElem_append_right (by omega)]
          simp only [hl, Nat.sub_self, List.getElem_cons_zero]
          have hsz : (cur.toList.take (j * 2)).toArray.size = j * 2 := holds0
          refine ⟨?_, ?_⟩
          · rw [Array.append_assoc, Array.getElem?_append_right (by rw [hsz]; omega), hsz, Nat.sub_self, Array.getElem?_append_left (by simp [tv])]
            rfl
          · rw [Array.append_assoc, Array.getElem?_append_right (by rw [hsz]; omega), hsz, show j * 2 + 1 - j * 2 = 1 by omega, Array.getElem?_append_left (by simp [tv])]
            rfl
/-- append of one timer at the operation, in a region. -/
theorem step_rw (w : World) {ops : Array Oper} {o : Oper} {a : Act} {K : Act → World → Prop} {Q : Exit → Act → World → Prop} {E : Prop} (hgd : o.guard = none) (s t : Operand)
    (ho : o.op = .call { callee := .builtin .append, args := #[s, t], argTypes := #[56, 56] })
    {A : Option Addr} {n c : Nat} {rb : Option Nat} {L : List Tm} (hs : a.eval s = .slice A n c) (h : Rw w A n c rb L) (p : Addr) (c2 : Nat) (x : Tm) (ht : a.eval t = .slice (some p) 1 c2)
    (h0 : w.cell? (p.add 0) = some (.int .i64 x.1)) (h1 : w.cell? (p.add 1) = some (.int .i64 x.2)) (hn : n + 1 ≤ 1000000)
    (hK : ∀ A' c' w', (∃ rb', Rw w' A' (n + 1) c' rb' (L ++ [x]) ∧ ∀ y, rb' = some y → rb = some y ∨ w.heap.size ≤ y) → But rb.toList w w' → K (a.put o.dst (.slice A' (n + 1) c')) w') :
    if Region.wanted o (yielded ops a.tmps) = true then Oper.wp Try.prog o a w K Q else E := by
  have hw : Region.wanted o (yielded ops a.tmps) = true := by simp [Region.wanted, hgd]
  rw [if_pos hw]
  obtain ⟨A', c', w', hrun, r1, r2⟩ := h.app p c2 x o.type h0 h1 hn
  unfold Oper.wp execOp
  simp only [ho, resolve, invoke, builtin, Sem.run_bind, Sem.run_pure, Result.andThen_ok, List.map_toArray, List.map_cons, List.map_nil, hs, ht, hrun]
  exact hK A' c' w' r1 r2
end Go.Proofs.Ytdcohhfbifiemaa
