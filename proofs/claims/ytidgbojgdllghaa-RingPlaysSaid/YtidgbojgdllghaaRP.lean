import Derived.Test.YtidgbojgdllghaaRO
namespace Go.Proofs.Ytidgbojgdllghaa
open Go.RowKit

section
variable {P : Program} (w : World)
/-- append of a slice to a row of the call's own: where the row lies behind it. -/
theorem run_appx (base : Nat) (t ty e : TypeId) (i : TypeInfo) (z : Value) (bytes : Nat) (ht : P.underlying t = some (.slice e)) (hi : P.info? e = some i) (hz : i.zero = some z)
    (hsize : i.size = 1) (hby : i.bytes = bytes) (hzs : z.cells.size = 1)
    (A : Option Addr) (n c : Nat) (xs : List Value) (hown : w.ownsRow base e 1 (.slice A n c) n xs)
    (B : Nat) (A2 : Option Addr) (m c2 : Nat) (news : List Value) (hl : news.length = m) (hr : Lies w B A2 news) (h1 : ∀ u ∈ news, u.oneCell' = true)
    (h63 : n + m ≤ maxLen) (hbytes : (n + m) * bytes ≤ 140737488355328) (hbase : base ≤ w.heap.size) :
    ∃ A' c' w', (Builtin.append_ #[t, t] ty #[.slice A n c, .slice A2 m c2]).run P w = .ok (.slice A' (n + m) c') w' ∧ w'.ownsRow base e 1 (.slice A' (n + m) c') (n + m) (xs ++ news) ∧
      w.grownBy w' (Value.slice A n c).ownBlock ∧ ∀ x, (Value.slice A' (n + m) c').ownBlock = some x → (Value.slice A n c).ownBlock = some x ∨ w.heap.size ≤ x := by
  by_cases hm : m = 0
  · subst hm
    have hn : news = [] := List.eq_nil_of_length_eq_zero hl
    subst hn
    refine ⟨A, c, w, ?_, by simpa using hown, ⟨rfl, rfl, rfl, Nat.le_refl _, fun _ _ _ => rfl⟩, fun x hx => .inl hx⟩
    rcases hown.2 with ⟨hv, h0⟩ | ⟨g, cap, cur, hv, _, _, hnc, _⟩
    · subst h0
      injection hv with hA hn hc
      subst hA; subst hc
      cases A2 <;> simp [Builtin.append_, run_underlying ht, sizeOf, typeInfo, hi, Builtin.lenOf, Builtin.firstCells, loadCells, loadCellsFrom]
    · injection hv with hA hn hc
      subst hA; subst hc
      cases A2 <;> simp [Builtin.append_, run_underlying ht, sizeOf, typeInfo, hi, Builtin.lenOf, Builtin.firstCells, loadCells, loadCellsFrom, storeCells, hnc]
  · have hne : news ≠ [] := by
      intro e
      rw [e] at hl
      simp at hl
      omega
    obtain ⟨b, o, rfl, _, hc⟩ := hr hne
    have hnews : ∀ j u, news[j]? = some u → w.cell? (Addr.add ⟨b, o, none⟩ j) = some u := fun j u hu => by rw [Addr.add_lit]; exact hc j u hu
    have hl1 : news.length = m * i.size := by rw [hsize]; omega
    have h63' : n + m ≤ 9223372036854775807 := by unfold maxLen at h63; omega
    obtain ⟨v', w', hrun, h2, h3, h4⟩ := run_append_own (P := P) w base t ty e i z 1 bytes ht hi hz hsize hby hzs (by decide) (.slice A n c) n xs hown ⟨b, o, none⟩ m c2 news (by omega) hnews h1 h63 hbytes hbase
    obtain ⟨A', c', rfl⟩ : ∃ A' c', v' = .slice A' (n + m) c' := by
      rcases h2.2 with ⟨_, h0⟩ | ⟨g, cap, cur, hv, _⟩
      · omega
      · exact ⟨_, _, hv⟩
    refine ⟨A', c', w', hrun, h2, h3, ?_⟩
    intro x hx
    rcases hown.2 with ⟨hv, h0⟩ | ⟨g, cap, cur, hv, hbg, hg, hnc, hcm, hcs, htake⟩
    · injection hv with e1 e2 e3
      subst e1; subst e3; subst h0
      have hr2 := run_append_nil (P := P) w t ty e i z ht hi hz ⟨b, o, none⟩ m c2 news hl1 hnews (by omega) (by omega) (by have := hbytes; rw [hby]; simp only [Nat.zero_add] at this; omega)
      rw [hr2] at hrun
      injection hrun with e4 _
      injection e4 with e5 _ _
      subst e5
      right
      simp [Value.ownBlock] at hx
      omega
    · injection hv with e1 e2 e3
      subst e1; subst e3
      by_cases hroom : n + m ≤ c
      · have hr2 := run_append_room (P := P) w t ty e i ht hi g n c cur hg ⟨b, o, none⟩ m c2 news hl1 hnews h1 hroom (by rw [hsize, hcs]; omega)
        rw [hr2] at hrun
        injection hrun with e4 _
        injection e4 with e5 _ _
        subst e5
        exact .inl hx
      · have holds : ∀ j v, xs[j]? = some v → w.cell? ((⟨g, 0, none⟩ : Addr).add j) = some v := hown.cells (g := g) rfl
        have hr2 := run_append_grow (P := P) w t ty e i z ht hi hz ⟨g, 0, none⟩ n c xs (by rw [hown.1, hsize]) holds ⟨b, o, none⟩ m c2 news hl1 hnews (by omega) (by omega) (growslice_fits (by omega) (by rw [hby]; exact hbytes))
        rw [hr2] at hrun
        injection hrun with e4 _
        injection e4 with e5 _ _
        subst e5
        right
        simp [Value.ownBlock] at hx
        omega

theorem wpList_appx {ops : Array Oper} {rest : List Oper} {o : Oper} {a : Act} {Q : Exit → Act → World → Prop} (hgd : o.guard = none) (s x : Operand) (t : TypeId)
    (ho : o.op = .call { callee := .builtin .append, args := #[s, x], argTypes := #[t, t] })
    (base : Nat) (e : TypeId) (i : TypeInfo) (z : Value) (bytes : Nat) (ht : P.underlying t = some (.slice e)) (hi : P.info? e = some i) (hz : i.zero = some z)
    (hsize : i.size = 1) (hby : i.bytes = bytes) (hzs : z.cells.size = 1)
    (A : Option Addr) (n c : Nat) (xs : List Value) (hs : a.eval s = .slice A n c) (hown : w.ownsRow base e 1 (.slice A n c) n xs)
    (B : Nat) (A2 : Option Addr) (m c2 : Nat) (news : List Value) (hx : a.eval x = .slice A2 m c2) (hl : news.length = m) (hr : Lies w B A2 news) (h1 : ∀ u ∈ news, u.oneCell' = true)
    (h63 : n + m ≤ maxLen) (hbytes : (n + m) * bytes ≤ 140737488355328) (hbase : base ≤ w.heap.size)
    (h : ∀ A' c' w', w'.ownsRow base e 1 (.slice A' (n + m) c') (n + m) (xs ++ news) → w.grownBy w' (Value.slice A n c).ownBlock → (∀ x, (Value.slice A' (n + m) c').ownBlock = some x → (Value.slice A n c).ownBlock = some x ∨ w.heap.size ≤ x) → wpList P ops Q rest (a.put o.dst (.slice A' (n + m) c')) w') : wpList P ops Q (o :: rest) a w := by
  refine wpList_plain hgd fun K hK => ?_
  obtain ⟨A', c', w', hrun, h2, h3, h4⟩ := run_appx (P := P) w base t o.type e i z bytes ht hi hz hsize hby hzs A n c xs hown B A2 m c2 news hl hr h1 h63 hbytes hbase
  unfold Oper.wp execOp
  simp only [ho, resolve, invoke, builtin, Sem.run_bind, Sem.run_pure, Result.andThen_ok, List.map_toArray, List.map_cons, List.map_nil, hs, hx, hrun]
  exact hK _ _ (h A' c' w' h2 h3 h4)
end

/-- What stands while RingKeeps goes: the two rows, the ring. -/
structure KP (w : World) (M g h size : Nat) (A1 : Option Addr) (c1 il : Nat) (A2 : Option Addr) (c2 ol : Nat) (I O q : List UInt8) : Prop where
  own1 : w.ownsRow M 5 1 (.slice A1 il c1) il (bv I)
  own2 : w.ownsRow M 5 1 (.slice A2 ol c2) ol (bv O)
  dis : ∀ x, (Value.slice A1 il c1).ownBlock = some x → (Value.slice A2 ol c2).ownBlock ≠ some x
  rg : Rg w g h size q
  gM : g < M
  hM : h < M
  l1 : I.length = il
  l2 : O.length = ol
section
variable {w w' : World} {M g h size : Nat} {A1 : Option Addr} {c1 il : Nat} {A2 : Option Addr} {c2 ol : Nat} {I O q q' : List UInt8}
theorem KP.ring (k : KP w M g h size A1 c1 il A2 c2 ol I O q) (hr : Rg w' g h size q') (hb : But [g, h] w w') : KP w' M g h size A1 c1 il A2 c2 ol I O q' :=
  { k with
    own1 := hb.own k.own1 (fun x hx => by have := (k.own1.lt x hx).1; have := k.gM; have := k.hM; simp; omega)
    own2 := hb.own k.own2 (fun x hx => by have := (k.own2.lt x hx).1; have := k.gM; have := k.hM; simp; omega)
    rg := hr }
theorem KP.keep0 (k : KP w M g h size A1 c1 il A2 c2 ol I O q) (hb : But [] w w') : KP w' M g h size A1 c1 il A2 c2 ol I O q :=
  k.ring (k.rg.keep hb (by simp) (by simp)) (hb.mono (by simp))
theorem KP.grow1 {A' : Option Addr} {c' l' : Nat} {I' : List UInt8} (k : KP w M g h size A1 c1 il A2 c2 ol I O q) (hg : w.grownBy w' (Value.slice A1 il c1).ownBlock) (ho : w'.ownsRow M 5 1 (.slice A' l' c') l' (bv I'))
    (hx : ∀ x, (Value.slice A' l' c').ownBlock = some x → (Value.slice A1 il c1).ownBlock = some x ∨ w.heap.size ≤ x) (hl : I'.length = l') : KP w' M g h size A' c' l' A2 c2 ol I' O q := by
  have hb := grown_but hg
  have hlo : ∀ x, (Value.slice A1 il c1).ownBlock = some x → M ≤ x := fun x hx => (k.own1.lt x hx).1
  refine { k with own1 := ho, own2 := hb.own k.own2 (fun x hx2 hx1 => k.dis x (by simpa using hx1) hx2), dis := fun x h1 h2 => ?_, rg := k.rg.keep hb (fun hx => ?_) (fun hx => ?_), l1 := hl }
  · rcases hx x h1 with h3 | h3
    · exact k.dis x h3 h2
    · have := (k.own2.lt x h2).2
      omega
  · have := hlo g (by simpa using hx)
    have := k.gM
    omega
  · have := hlo h (by simpa using hx)
    have := k.hM
    omega
theorem KP.grow2 {A' : Option Addr} {c' l' : Nat} {O' : List UInt8} (k : KP w M g h size A1 c1 il A2 c2 ol I O q) (hg : w.grownBy w' (Value.slice A2 ol c2).ownBlock) (ho : w'.ownsRow M 5 1 (.slice A' l' c') l' (bv O'))
    (hx : ∀ x, (Value.slice A' l' c').ownBlock = some x → (Value.slice A2 ol c2).ownBlock = some x ∨ w.heap.size ≤ x) (hl : O'.length = l') : KP w' M g h size A1 c1 il A' c' l' I O' q := by
  have hb := grown_but hg
  have hlo : ∀ x, (Value.slice A2 ol c2).ownBlock = some x → M ≤ x := fun x hx => (k.own2.lt x hx).1
  refine { k with own1 := hb.own k.own1 (fun x hx2 hx1 => k.dis x hx2 (by simpa using hx1)), own2 := ho, dis := fun x h1 h2 => ?_, rg := k.rg.keep hb (fun hx => ?_) (fun hx => ?_), l2 := hl }
  · rcases hx x h2 with h3 | h3
    · exact k.dis x h1 h3
    · have := (k.own1.lt x h1).2
      omega
  · have := hlo g (by simpa using hx)
    have := k.gM
    omega
  · have := hlo h (by simpa using hx)
    have := k.hM
    omega
/-- A growth of a row of the call's own turns nothing that lies below the call's base. -/
theorem grown_below {base : Nat} {e : TypeId} {n : Nat} {v : Value} {xs : List Value} (hg : w.grownBy w' v.ownBlock) (ho : w.ownsRow base e 1 v n xs) (hb : base ≤ w.heap.size) : Below base w w' :=
  ⟨hg.os, hg.tape, hg.output, hg.size, fun b hb2 => hg.block b (by omega) (fun e => by have := (ho.lt b e.symm).1; omega)⟩
end
end Go.Proofs.Ytidgbojgdllghaa
