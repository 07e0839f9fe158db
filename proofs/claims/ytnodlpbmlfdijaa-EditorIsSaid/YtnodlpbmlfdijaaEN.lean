import Derived.Test.YtnodlpbmlfdijaaEJ
namespace Go.Proofs.Ytnodlpbmlfdijaa
open Go.RowKit

section
variable {P : Program} (w : World)
/-- append of a slice to a row of the call's own: where the row lies behind it. -/
theorem run_appx (base : Nat) (t ty e : TypeId) (i : TypeInfo) (z : Value) (bytes : Nat) (ht : P.underlying t = some (.slice e)) (hi : P.info? e = some i) (hz : i.zero = some z)
    (hsize : i.size = 1) (hby : i.bytes = bytes) (hzs : z.cells.size = 1)
    (A : Option Addr) (n c : Nat) (xs : List Value) (hown : w.ownsRow base e 1 (.slice A n c) n xs)
    (B : Nat) (A2 : Option Addr) (m c2 : Nat) (news : List Value) (hl : news.length = m) (hr : Lies w B A2 news) (h1 : ∀ u ∈ news, u.oneCell' = true)
    (h63 : n + m ≤ maxLen) (hbytes : (n + m) * bytes ≤ 140737488355328) (hbase : base ≤ w.heap.size) :
    ∃ A' c' w', (Builtin.append_ #[t, t] ty #[.slice A n c, .slice A2 m c2]).run P w = .ok (.slice A' (n + m) c') w' ∧ w'.ownsRow base e 1 (.slice A' (n + m) c') (n + m) (xs ++ news) ∧
      w.grownBy w' (Value.slice A n c).ownBlock ∧ ∀ x, (Value.slice A' (n + m) c').ownBlock = some x → (Value.slice A n c).ownBlock = some x ∨ w.heap.size ≤ x := by
  by_cases hm : m = 0
  · subst hm
    have hn : news = [] := List.eq_nil_of_length_eq_zero hl
    subst hn
    refine ⟨A, c, w, ?_, by simpa using hown, ⟨rfl, rfl, rfl, Nat.le_refl _, fun _ _ _ => rfl⟩, fun x hx => .inl hx⟩
    rcases hown.2 with ⟨hv, h0⟩ | ⟨g, cap, cur, hv, _, _, hnc, _⟩
    · subst h0
      injection hv with hA hn hc
      subst hA; subst hc
      cases A2 <;> simp [Builtin.append_, run_underlying ht, sizeOf, typeInfo, hi, Builtin.lenOf, Builtin.firstCells, loadCells, loadCellsFrom]
    · injection hv with hA hn hc
      subst hA; subst hc
      cases A2 <;> simp [Builtin.append_, run_underlying ht, sizeOf, typeInfo, hi, Builtin.lenOf, Builtin.firstCells, loadCells, loadCellsFrom, storeCells, hnc]
  · have hne : news ≠ [] := by
      intro e
      rw [e] at hl
      simp at hl
      omega
    obtain ⟨b, o, rfl, _, hc⟩ := hr hne
    have hnews : ∀ j u, news[j]? = some u → w.cell? (Addr.add ⟨b, o, none⟩ j) = some u := fun j u hu => by rw [Addr.add_lit]; exact hc j u hu
    have hl1 : news.length = m * i.size := by rw [hsize]; omega
    have h63' : n + m ≤ 9223372036854775807 := by unfold maxLen at h63; omega
    obtain ⟨v', w', hrun, h2, h3, h4⟩ := run_append_own (P := P) w base t ty e i z 1 bytes ht hi hz hsize hby hzs (by decide) (.slice A n c) n xs hown ⟨b, o, none⟩ m c2 news (by omega) hnews h1 h63 hbytes hbase
    obtain ⟨A', c', rfl⟩ : ∃ A' c', v' = .slice A' (n + m) c' := by
      rcases h2.2 with ⟨_, h0⟩ | ⟨g, cap, cur, hv, _⟩
      · omega
      · exact ⟨_, _, hv⟩
    refine ⟨A', c', w', hrun, h2, h3, ?_⟩
    intro x hx
    rcases hown.2 with ⟨hv, h0⟩ | ⟨g, cap, cur, hv, hbg, hg, hnc, hcm, hcs, htake⟩
    · injection hv with e1 e2 e3
      subst e1; subst e3; subst h0
      have hr2 := run_append_nil (P := P) w t ty e i z ht hi hz ⟨b, o, none⟩ m c2 news hl1 hnews (by omega) (by omega) (by have := hbytes; rw [hby]; simp only [Nat.zero_add] at this; omega)
      rw [hr2] at hrun
      injection hrun with e4 _
      injection e4 with e5 _ _
      subst e5
      right
      simp [Value.ownBlock] at hx
      omega
    · injection hv with e1 e2 e3
      subst e1; subst e3
      by_cases hroom : n + m ≤ c
      · have hr2 := run_append_room (P := P) w t ty e i ht hi g n c cur hg ⟨b, o, none⟩ m c2 news hl1 hnews h1 hroom (by rw [hsize, hcs]; omega)
        rw [hr2] at hrun
        injection hrun with e4 _
        injection e4 with e5 _ _
        subst e5
        exact .inl hx
      · have holds : ∀ j v, xs[j]? = some v → w.cell? ((⟨g, 0, none⟩ : Addr).add j) = some v := hown.cells (g := g) rfl
        have hr2 := run_append_grow (P := P) w t ty e i z ht hi hz ⟨g, 0, none⟩ n c xs (by rw [hown.1, hsize]) holds ⟨b, o, none⟩ m c2 news hl1 hnews (by omega) (by omega) (growslice_fits (by omega) (by rw [hby]; exact hbytes))
        rw [hr2] at hrun
        injection hrun with e4 _
        injection e4 with e5 _ _
        subst e5
        right
        simp [Value.ownBlock] at hx
        omega
end

/-- An append to the block g: what else there was stands, and where the row lies. -/
def Far (g : Nat) (W u : World) (A : Option Addr) : Prop := W.grownBy u (some g) ∧ ∀ a, A = some a → a.block = g ∨ W.heap.size ≤ a.block
theorem far_box {g g' : Nat} {W u : World} {A : Option Addr} {t : TypeId} {cs : Array Value} (h : Far g W u A) (hb : Box W g' t cs) (hne : g' ≠ g) : Box u g' t cs :=
  hb.same (h.1.block g' hb.lt (fun e => hne (by injection e with e)))
theorem far_own {g : Nat} {W u : World} {A A1 : Option Addr} {B e n c : Nat} {xs : List Value} (h : Far g W u A) (ho : W.ownsRow B e 1 (.slice A1 n c) n xs) (hne : ∀ a, A1 = some a → a.block ≠ g) : u.ownsRow B e 1 (.slice A1 n c) n xs := by
  refine ⟨ho.1, ?_⟩
  rcases ho.2 with hn | ⟨g1, cap, cur, hv, hb, hgg, rest⟩
  · exact .inl hn
  · refine .inr ⟨g1, cap, cur, hv, hb, ?_, rest⟩
    injection hv with hA _ _
    have := hne _ hA
    exact far_box h hgg this
theorem box_nw1 (w : World) (o : Obj) (t : TypeId) (cs : Array Value) : Box ((w.alloc o).alloc (.cells cs t)) (w.heap.size + 1) t cs := box_nw (by simp)
theorem far_new {w : World} {B e n c : Nat} {A : Option Addr} {xs : List Value} (ho : w.ownsRow B e 1 (.slice A n c) n xs) : ∀ a, A = some a → a.block ≠ w.heap.size := fun a h => by
  subst h
  have := (ho.lt a.block rfl).2
  omega
/-- The row lies at neither of these. -/
theorem far_ne {w u : World} {g g' : Nat} {o o' : Obj} {A : Option Addr} (h : Far g ((w.alloc o).alloc o').drew u A) (_h1 : g' < w.heap.size + 1 + 1) (h2 : (g = w.heap.size ∧ g' = w.heap.size + 1) ∨ (g = w.heap.size + 1 ∧ g' = w.heap.size)) : ∀ a, A = some a → a.block ≠ g' := fun a e => by
  have h3 := h.2 a e
  simp at h3
  omega
theorem step_cpy {ops : Array Oper} {o : Oper} {a : Act} {K : Act → World → Prop} {Q : Exit → Act → World → Prop} {E : Prop} {W : World} (w v : World) (hgd : o.guard = none) (s x : Operand) (ho : o.op = .call { callee := .builtin .append, args := #[s, x], argTypes := #[27, 27] })
    (g : Nat) (hs : a.eval s = .slice (some ⟨g, 0, none⟩) 0 0) (hbox : Box W g 5 #[]) (hg : w.heap.size ≤ g) (hbel : Below w.heap.size w W) (hv : Below v.heap.size v W) (A : Option Addr) (n c : Nat) (bs : List UInt8) (hx : a.eval x = .slice A n c) (hS : Hid (SlB v v.heap.size A c bs)) (hn : Hid (bs.length = n)) (hm : n ≤ 1000000)
    (h : ∀ A2 c2 u2, Below w.heap.size w u2 → Hid (u2.ownsRow w.heap.size 5 1 (.slice A2 n c2) n (bv bs)) → Hid (Far g W u2 A2) → K (a.put o.dst (.slice A2 n c2)) u2) :
    if Region.wanted o (yielded ops a.tmps) = true then Oper.wp Try.prog o a W K Q else E := by
  have hw : Region.wanted o (yielded ops a.tmps) = true := by simp [Region.wanted, hgd]
  rw [if_pos hw]
  obtain rfl := hn.out
  obtain ⟨i5, hi5, hz5, hz51, hz52⟩ := info_parts Try.info5
  have how := own_lit hbox hg
  obtain ⟨A2, c2, u2, hrun, ho2, hg2, hp2⟩ := run_appx (P := Try.prog) W w.heap.size 27 o.type 5 i5 _ 1 Try.underlying27 hi5 hz5 hz51 hz52 rfl _ 0 0 [] how v.heap.size A bs.length c (bv bs) (bv_length _) (hS.out.2.2.2.below hv) (bv_one _) (by unfold maxLen; omega) (by omega) hbel.size
  unfold Oper.wp execOp
  simp only [ho, resolve, invoke, builtin, Sem.run_bind, Sem.run_pure, Result.andThen_ok, List.map_toArray, List.map_cons, List.map_nil, hs, hx, hrun]
  simp only [Nat.zero_add, List.nil_append] at ho2 hp2 ⊢
  have hk : Kept w.heap.size [5] W u2 := (Kept.refl _ _ W).grown hg2 (fun k hk => by obtain ⟨a, cs, b⟩ := own_box how k hk; exact ⟨a, 5, cs, by simp, b⟩)
  refine h A2 c2 u2 (hbel.trans (hk.below hbel.size)) (hid ho2) (hid ⟨hg2, fun a e => ?_⟩)
  subst e
  rcases hp2 a.block rfl with h1 | h1
  · left
    injection h1 with h1
    exact h1.symm
  · exact Or.inr h1
set_option maxRecDepth 100000 in
set_option maxHeartbeats 2000000 in
theorem cutr_any (w : World) (A : Option Addr) (n c p k : Nat) (bs : List UInt8) (hb : Hid (SlB w w.heap.size A c bs)) (hn : bs.length = n) (hm : n ≤ 1000000) (hpk : p + k = n) :
    Calls Try.prog 27 #[.slice A n c, .int .i64 (k : Int)] w (Cut w (bs.take p) (bs.drop p)) := by
  have e1 : (n : Int) - (k : Int) = (p : Int) := by omega
  have hf := run_front hb.out hn (show p ≤ n by omega)
  obtain ⟨A5, c5, hr, L5⟩ := run_back hb.out hn (show p ≤ n by omega)
  have e2 : n - p = k := by omega
  rw [e2] at hr
  have LF : Hid (SlB w w.heap.size A c (bs.take p)) := hid (hb.out.take p)
  have hfl : Hid ((bs.take p).length = p) := hid (by rw [List.length_take]; omega)
  have hbl : Hid ((bs.drop p).length = k) := hid (by rw [List.length_drop]; omega)
  have hp : p ≤ 1000000 := by omega
  have hk : k ≤ 1000000 := by omega
  clear e2
  unfold Cut
  obtain ⟨xs, hx⟩ : ∃ xs, Hid (bs.take p = xs) := ⟨_, hid rfl⟩
  obtain ⟨ys, hy⟩ : ∃ ys, Hid (bs.drop p = ys) := ⟨_, hid rfl⟩
  rw [hx.out] at LF hfl ⊢
  rw [hy.out] at L5 hbl ⊢
  go_enter Try.func27, Try.ntmps27
  go_wp2
  go_region_law (first
    | (refine step_cpy w w rfl (.tmp 11) (.tmp 14) rfl _ rfl ?c1 ?c2 ?c3 ?c4 A p c xs rfl LF hfl hp ?_
       case c1 => first | exact box_dr (box_nw rfl) | exact box_dr (box_al (box_nw rfl)) | exact box_dr (box_nw1 _ _ _ _)
       case c2 => first | exact Nat.le_refl _ | exact Nat.le_succ _
       case c3 => repeat (first | exact Below.refl _ _ | with_reducible apply bel_dr | with_reducible apply bel_al)
       case c4 => repeat (first | exact Below.refl _ _ | with_reducible apply bel_dr | with_reducible apply bel_al)
       intro A1 c1 u1 b1 o1 f1)
    | (refine step_cpy w w rfl (.tmp 16) (.tmp 19) rfl _ rfl ?c1 ?c2 ?c3 ?c4 A5 k c5 ys rfl L5 hbl hk ?_
       case c1 => first | exact box_nw rfl | exact far_box f1.out (box_dr (box_nw1 _ _ _ _)) (Nat.ne_of_gt (Nat.lt_succ_self _)) | exact far_box f1.out (box_dr (box_al (box_nw rfl))) (Nat.ne_of_lt (Nat.lt_succ_self _))
       case c2 => first | exact Nat.le_refl _ | exact Nat.le_succ _ | exact b1.size
       case c3 => repeat (first | exact Below.refl _ _ | exact b1 | with_reducible apply bel_dr | with_reducible apply bel_al)
       case c4 => repeat (first | exact Below.refl _ _ | exact b1 | with_reducible apply bel_dr | with_reducible apply bel_al)
       intro A2 c2 u2 b2 o2 f2
       first
         | have o12 := hid (far_own f2.out (own_keep o1.out ((Below.refl _ u1).alloc (Nat.le_refl _) _)) (far_new o1.out))
         | have o12 := hid (far_own f2.out o1.out (far_ne f1.out (Nat.lt_succ_self _) (Or.inl ⟨rfl, rfl⟩)))
         | have o12 := hid (far_own f2.out o1.out (far_ne f1.out (Nat.lt_succ_of_lt (Nat.lt_succ_self _)) (Or.inr ⟨rfl, rfl⟩)))))
  all_goals
    go_wp2
    go_ret2
    exact ⟨A1, p, c1, A2, k, c2, rfl, hfl, hbl, o12, o2, hid b2⟩
end Go.Proofs.Ytnodlpbmlfdijaa
