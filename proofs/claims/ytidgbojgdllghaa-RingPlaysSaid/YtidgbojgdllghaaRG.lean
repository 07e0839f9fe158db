import Derived.Test.YtidgbojgdllghaaRF
namespace Go.Proofs.Ytidgbojgdllghaa
open Go.RowKit

theorem run_app1 {P : Program} (w : World) (base : Nat) (t ty e : TypeId) (i : TypeInfo) (z : Value) (bytes : Nat) (ht : P.underlying t = some (.slice e)) (hi : P.info? e = some i) (hz : i.zero = some z)
    (hsize : i.size = 1) (hby : i.bytes = bytes) (hzs : z.cells.size = 1)
    (A : Option Addr) (n c : Nat) (xs : List Value) (hown : w.ownsRow base e 1 (.slice A n c) n xs)
    (a : Addr) (c2 : Nat) (u : Value) (hr : w.cell? a = some u) (h1 : u.oneCell' = true)
    (h63 : n + 1 ≤ maxLen) (hbytes : (n + 1) * bytes ≤ 140737488355328) (hbase : base ≤ w.heap.size) :
    ∃ A' c' w', (Builtin.append_ #[t, t] ty #[.slice A n c, .slice (some a) 1 c2]).run P w = .ok (.slice A' (n + 1) c') w' ∧ w'.ownsRow base e 1 (.slice A' (n + 1) c') (n + 1) (xs ++ [u]) ∧
      w.grownBy w' (Value.slice A n c).ownBlock ∧ ∀ x, (Value.slice A' (n + 1) c').ownBlock = some x → (Value.slice A n c).ownBlock = some x ∨ w.heap.size ≤ x := by
  have hn1 : ∀ j v, [u][j]? = some v → w.cell? (a.add j) = some v := fun j v hv => by
    cases j with
    | zero => simp at hv; subst hv; simpa [Addr.add] using hr
    | succ j => simp at hv
  have hl : [u].length = 1 * i.size := by simp [hsize]
  have h63' : n + 1 ≤ 9223372036854775807 := by unfold maxLen at h63; omega
  obtain ⟨v', w', hrun, h2, h3, _⟩ := run_append_own (P := P) w base t ty e i z 1 bytes ht hi hz hsize hby hzs (by decide) (.slice A n c) n xs hown a 1 c2 [u] rfl hn1 (by intro x hx; simp at hx; subst hx; exact h1) h63 hbytes hbase
  obtain ⟨A', c', rfl⟩ : ∃ A' c', v' = .slice A' (n + 1) c' := by
    rcases h2.2 with ⟨_, h0⟩ | ⟨g, cap, cur, hv, _⟩
    · omega
    · exact ⟨_, _, hv⟩
  refine ⟨A', c', w', hrun, h2, h3, ?_⟩
  intro x hx
  rcases hown.2 with ⟨hv, h0⟩ | ⟨g, cap, cur, hv, hbg, hg, hnc, hcm, hcs, htake⟩
  · injection hv with e1 e2 e3
    subst e1; subst e3; subst h0
    have hr2 := run_append_nil (P := P) w t ty e i z ht hi hz a 1 c2 [u] hl hn1 (by omega) (by omega) (by rw [hby]; omega)
    rw [hr2] at hrun
    injection hrun with e4 _
    injection e4 with e5 _ _
    subst e5
    right
    simp [Value.ownBlock] at hx
    omega
  · injection hv with e1 e2 e3
    subst e1; subst e3
    by_cases hroom : n + 1 ≤ c
    · have hr2 := run_append_room (P := P) w t ty e i ht hi g n c cur hg a 1 c2 [u] hl hn1 (by intro x hx; simp at hx; subst hx; exact h1) hroom (by rw [hsize, hcs]; simp; omega)
      rw [hr2] at hrun
      injection hrun with e4 _
      injection e4 with e5 _ _
      subst e5
      exact .inl hx
    · have holds : ∀ j v, xs[j]? = some v → w.cell? ((⟨g, 0, none⟩ : Addr).add j) = some v := hown.cells (g := g) rfl
      have hr2 := run_append_grow (P := P) w t ty e i z ht hi hz ⟨g, 0, none⟩ n c xs (by rw [hown.1, hsize]) holds a 1 c2 [u] hl hn1 (by omega) (by omega) (growslice_fits (by omega) (by rw [hby]; exact hbytes))
      rw [hr2] at hrun
      injection hrun with e4 _
      injection e4 with e5 _ _
      subst e5
      right
      simp [Value.ownBlock] at hx
      omega

theorem step_app1 {P : Program} (w : World) {ops : Array Oper} {o : Oper} {a : Act} {K : Act → World → Prop} {Q : Exit → Act → World → Prop} {E : Prop} (hgd : o.guard = none) (s x : Operand) (t : TypeId)
    (ho : o.op = .call { callee := .builtin .append, args := #[s, x], argTypes := #[t, t] })
    (base : Nat) (e : TypeId) (i : TypeInfo) (z : Value) (bytes : Nat) (ht : P.underlying t = some (.slice e)) (hi : P.info? e = some i) (hz : i.zero = some z)
    (hsize : i.size = 1) (hby : i.bytes = bytes) (hzs : z.cells.size = 1)
    (A : Option Addr) (n c : Nat) (xs : List Value) (hs : a.eval s = .slice A n c) (hown : w.ownsRow base e 1 (.slice A n c) n xs)
    (ad : Addr) (c2 : Nat) (u : Value) (hx : a.eval x = .slice (some ad) 1 c2) (hr : w.cell? ad = some u) (h1 : u.oneCell' = true)
    (h63 : n + 1 ≤ maxLen) (hbytes : (n + 1) * bytes ≤ 140737488355328) (hbase : base ≤ w.heap.size)
    (h : ∀ A' c' w', w'.ownsRow base e 1 (.slice A' (n + 1) c') (n + 1) (xs ++ [u]) → w.grownBy w' (Value.slice A n c).ownBlock → (∀ x, (Value.slice A' (n + 1) c').ownBlock = some x → (Value.slice A n c).ownBlock = some x ∨ w.heap.size ≤ x) → K (a.put o.dst (.slice A' (n + 1) c')) w') :
    if Region.wanted o (yielded ops a.tmps) = true then Oper.wp P o a w K Q else E := by
  have hw : Region.wanted o (yielded ops a.tmps) = true := by simp [Region.wanted, hgd]
  rw [if_pos hw]
  obtain ⟨A', c', w', hrun, h2, h3, h4⟩ := run_app1 (P := P) w base t o.type e i z bytes ht hi hz hsize hby hzs A n c xs hown ad c2 u hr h1 h63 hbytes hbase
  unfold Oper.wp execOp
  simp only [ho, resolve, invoke, builtin, Sem.run_bind, Sem.run_pure, Result.andThen_ok, List.map_toArray, List.map_cons, List.map_nil, hs, hx, hrun]
  exact h A' c' w' h2 h3 h4

/-- The document's ring while bytes are written to it. -/
structure WrK (w0 w : World) (base g size : Nat) (ob : Option Nat) (q : List UInt8) (n : Nat) (A : Option Addr) (c : Nat) : Prop where
  len : q.length = n
  box : Box w g 42 #[.int .i64 size, .slice A n c]
  own : w.ownsRow base 5 1 (.slice A n c) n (bv q)
  blk : ∀ x, (Value.slice A n c).ownBlock = some x → ob = some x ∨ w0.heap.size ≤ x
  but : But (g :: ob.toList) w0 w
theorem WrK.drewN {w0 w : World} {base g size : Nat} {ob : Option Nat} {q : List UInt8} {n : Nat} {A : Option Addr} {c : Nat} (h : WrK w0 w base g size ob q n A c) (d : Nat) : WrK w0 (w.drewN d) base g size ob q n A c := ⟨h.len, h.box, h.own, h.blk, h.but.drewN d⟩
theorem WrK.drew {w0 w : World} {base g size : Nat} {ob : Option Nat} {q : List UInt8} {n : Nat} {A : Option Addr} {c : Nat} (h : WrK w0 w base g size ob q n A c) : WrK w0 w.drew base g size ob q n A c := ⟨h.len, h.box, h.own, h.blk, h.but.drew⟩
theorem WrK.grow {w0 w w8 : World} {base g size : Nat} {ob : Option Nat} {q : List UInt8} {n : Nat} {A A8 : Option Addr} {c c8 : Nat} {o : Obj} {u : UInt8} (h : WrK w0 w base g size ob q n A c) (_hb : base ≤ w0.heap.size)
    (hg : (w.alloc o).grownBy w8 (Value.slice A n c).ownBlock) (ho : w8.ownsRow base 5 1 (.slice A8 (n + 1) c8) (n + 1) (bv q ++ [.int .u8 (u.toNat : Int)]))
    (hbk : ∀ x, (Value.slice A8 (n + 1) c8).ownBlock = some x → (Value.slice A n c).ownBlock = some x ∨ (w.alloc o).heap.size ≤ x) :
    Box w8 g 42 #[.int .i64 size, .slice A n c] ∧ WrK w0 (w8.setCell ⟨g, 1, none⟩ (.slice A8 (n + 1) c8)) base g size ob (q ++ [u]) (n + 1) A8 c8 := by
  have hne : (Value.slice A n c).ownBlock ≠ some g := own_ne h.own h.box (by decide)
  have hlt := h.box.lt
  have k8 : But (g :: ob.toList) w0 w8 := (h.but.alloc o).grown hg (fun x hx => by
    rcases h.blk x hx with h1 | h1
    · left; simp [h1]
    · exact .inr h1)
  have hx8 : Box w8 g 42 #[.int .i64 size, .slice A n c] := by
    have hx1 : Box (w.alloc o) g 42 #[.int .i64 size, .slice A n c] := box_below h.box ((Below.refl _ _).alloc (Nat.le_refl _) o)
    exact hx1.same (hg.block g hx1.lt (fun e => hne e.symm))
  have hne8 : (Value.slice A8 (n + 1) c8).ownBlock ≠ some g := own_ne ho hx8 (by decide)
  refine ⟨hx8, by simp [h.len], ?_, ?_, ?_, k8.store (.inl (by simp)) _⟩
  · have := hx8.store 1 (.slice A8 (n + 1) c8)
    simpa using this
  · have h2 : bv (q ++ [u]) = bv q ++ [.int .u8 (u.toNat : Int)] := by rw [bv_append]; rfl
    rw [h2]
    refine (But.refl [g] w8).store (.inl (by simp)) _ |>.own ho (fun x hx => ?_)
    intro e
    simp at e
    subst e
    exact hne8 hx
  · intro x hx
    rcases hbk x hx with h1 | h1
    · exact h.blk x h1
    · have := h.but.size
      simp at h1
      exact .inr (by omega)

set_option maxHeartbeats 4000000 in
set_option maxRecDepth 100000 in
theorem rwrite_any (w : World) {base g size c : Nat} {q b : List UInt8} {ob : Option Nat} {A : Option Addr} (m : Nat) (hm : m = min b.length (size - q.length)) (hr : Hid (Rf w base g size q ob)) (hqs : q.length ≤ size) (hs : size ≤ 65536) (hbase : base ≤ w.heap.size)
    (hb : Hid (SlB w w.heap.size A c b)) (hA : b ≠ [] → ∀ a, A = some a → a.block ≠ g ∧ ob ≠ some a.block) :
    Calls Try.prog 22 #[.pointer (some ⟨g, 0, none⟩), .slice A b.length c] w fun e w' => e = .returned (.int .i64 m) ∧ Hid ((∃ ob', Rf w' base g size (q ++ b.take m) ob' ∧ ∀ x, ob' = some x → ob = some x ∨ w.heap.size ≤ x) ∧ But (g :: ob.toList) w w') := by
  obtain ⟨i0, hi0, hz0, hz1, hz2⟩ := info_parts Try.info5
  obtain ⟨A0, c0, hx, hown, hob⟩ := hr.out
  obtain ⟨bl, HBL⟩ : ∃ x, Hid (b.length = x) := ⟨_, hid rfl⟩
  obtain ⟨ql, HQL⟩ : ∃ x, Hid (q.length = x) := ⟨_, hid rfl⟩
  rw [HQL.out] at hx hown hm hqs hob
  rw [HBL.out] at hm ⊢
  have HW0 : Hid (WrK w w base g size ob (q ++ b.take 0) (ql + 0) A0 c0) := ⟨by simp [HQL.out], hx, by simpa using hown, fun x hx => .inl (hob.symm.trans hx), But.refl _ _⟩
  have HM := hid hm
  have hmb : m ≤ bl := by omega
  have hml : m ≤ 65536 := by omega
  obtain ⟨hb1, hb2, hb3, hb4⟩ := hb.out
  unfold maxLen at hb2
  rw [HBL.out] at hb1
  have HB4 := hid hb4
  have HA := hid hA
  clear hx hown hm hb3 hb4 hA
  go_enter Try.func22, Try.ntmps22
  go_wp2
  go_loopw [5] (fun n wr => ∃ k : Nat, k ≤ m ∧ n = .int .i64 k ∧ Hid (∃ A' c', WrK w wr base g size ob (q ++ b.take k) (ql + k) A' c')) (fun n _ => m - (intOf n).toNat)
  case atStart => exact ⟨0, Nat.zero_le _, rfl, _, _, HW0.out⟩
  case round =>
    obtain ⟨k, hk, rfl, HK⟩ := hrel
    obtain ⟨A1, c1, hw1⟩ := HK.out
    have cb := hw1.box.cell 1
    have cs := hw1.box.cell 0
    have HW := hid hw1
    clear hw1
    by_cases hlt : k < m
    · have t1 : (k : Int) < bl := by omega
      have t2 : ((ql : Int) + k) < size := by have := HM.out; omega
      have hkb : k < b.length := by rw [HBL.out]; omega
      obtain ⟨bk, bo, rfl, hbk, hbc⟩ := HB4.out (by
        intro e
        have e2 := congrArg List.length e
        rw [bv_length, HBL.out] at e2
        simp at e2
        omega)
      have cc0 : w.cell? ⟨bk, bo + k, none⟩ = some (.int .u8 (b[k].toNat : Int)) := hbc k _ (by simp [bv, List.getElem?_map, List.getElem?_eq_getElem hkb])
      have cc : wr.cell? ⟨bk, bo + k, none⟩ = some (.int .u8 (b[k].toNat : Int)) := by
        have h1 := HA.out (fun e => by rw [e] at hkb; simp at hkb) _ rfl
        rw [HW.out.but.cell (p := ⟨bk, bo + k, none⟩) hbk (by
          have h2 := h1.1
          have h3 := h1.2
          intro e
          rcases List.mem_cons.1 e with e | e
          · exact h2 e
          · cases ob with
            | none => simp at e
            | some y => simp at e; exact h3 (by rw [e]))]
        exact cc0
      have HT : Hid (q ++ b.take (k + 1) = (q ++ b.take k) ++ [b[k]]) := by
        show _ = _
        rw [take_snoc _ _ hkb, List.append_assoc]
      clear cc0
      have HWd : Hid (∀ d, WrK w (wr.drewN d) base g size ob (q ++ b.take k) (ql + k) A1 c1) := fun d => HW.out.drewN d
      go_wp2
      go_quiet (fail)
      go_wp2
      have hzsz := HW.out.but.size
      have cA : ∀ d cs, ((wr.drewN d).alloc (.cells cs 5)).cell? ⟨g, 1, none⟩ = some (.slice A1 (ql + k) c1) := fun d cs => (box_below (HW.out.drewN d).box ((Below.refl _ _).alloc (Nat.le_refl _) _)).cell 1
      go_region_law (first
        | (refine step_app1 _ rfl (.tmp 26) (.tmp 31) 32 rfl base 5 i0 _ 1 Try.underlying32 hi0 hz0 hz1 hz2 rfl A1 (ql + k) c1 (bv (q ++ b.take k)) rfl ((HWd.out _).own.alloc _) _ 1 (.int .u8 (b[k].toNat : Int)) rfl ((Box.new _ 5 #[.int .u8 (b[k].toNat : Int)]).cell 0) rfl (by unfold maxLen; omega) (by omega) (by simp; omega) ?_
           intro A8 c8 w8 ho8 hg8 hb8
           obtain ⟨hx8, hw8⟩ := (HWd.out (nq + 1)).grow hbase hg8 ho8 hb8
           have HW8 := hid hw8
           have f81 := hx8.frozen 1
           have c81 := hx8.cell 1
           clear ho8 hg8 hb8 hx8 hw8))
      all_goals
        go_wp2
        go_roundw
        case rel => exact ⟨k + 1, by omega, by go_num, A8, c8, by rw [HT.out]; exact HW8.out⟩
        case measure => simp [intOf]; omega
    · have hkm : k = m := by omega
      subst hkm
      have hend : Hid (∀ d, (∃ ob', Rf (wr.drewN d) base g size (q ++ b.take k) ob' ∧ ∀ x, ob' = some x → ob = some x ∨ w.heap.size ≤ x) ∧ But (g :: ob.toList) w (wr.drewN d)) := fun d => by
        have h := HW.out.drewN d
        refine ⟨⟨_, ⟨A1, c1, ?_, ?_, rfl⟩, ?_⟩, h.but⟩
        · rw [h.len]; exact h.box
        · rw [h.len]; exact h.own
        · rw [h.len]; exact h.blk
      by_cases t1 : (k : Int) < bl
      · have t2 : ¬ ((ql : Int) + k < size) := by have := HM.out; omega
        go_wp2
        go_quiet (fail)
        go_wp2
        go_ret
        exact ⟨rfl, hend.out _⟩
      · have e : k = bl := by omega
        clear t1
        subst e
        go_wp2
        go_quiet (fail)
        go_wp2
        go_ret
        exact ⟨rfl, hend.out _⟩
end Go.Proofs.Ytidgbojgdllghaa
