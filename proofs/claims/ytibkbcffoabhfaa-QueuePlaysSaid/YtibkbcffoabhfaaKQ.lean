import Derived.Test.YtibkbcffoabhfaaKN
namespace Go.Proofs.Ytibkbcffoabhfaa
open Go.RowKit

/-- A slice of slices of bytes: what its cells hold. -/
def LisV (w : World) (B : Nat) (A : Option Addr) (ls : List (List UInt8)) : Prop :=
  ls ≠ [] → ∃ b o, A = some ⟨b, o, none⟩ ∧ b < B ∧ ∀ k (h : k < ls.length), ∃ A' c', w.cell? ⟨b, o + k, none⟩ = some (.slice A' ls[k].length c') ∧ SlB w B A' c' ls[k]
theorem SlB.more {w : World} {B B' : Nat} {A : Option Addr} {c : Nat} {bs : List UInt8} (h : SlB w B A c bs) (hB : B ≤ B') : SlB w B' A c bs := ⟨h.1, h.2.1, h.2.2.1, h.2.2.2.more hB⟩
theorem LisV.below {w w' : World} {B : Nat} {A : Option Addr} {ls : List (List UInt8)} (h : LisV w B A ls) (hb : Below B w w') : LisV w' B A ls := fun hn => by
  obtain ⟨b, o, e, hlt, hc⟩ := h hn
  exact ⟨b, o, e, hlt, fun k hk => by obtain ⟨A', c', h1, h2⟩ := hc k hk; exact ⟨A', c', (hb.cell (p := ⟨b, o + k, none⟩) hlt).trans h1, h2.below hb⟩⟩
theorem LisV.more {w : World} {B B' : Nat} {A : Option Addr} {ls : List (List UInt8)} (h : LisV w B A ls) (hB : B ≤ B') : LisV w B' A ls := fun hn => by
  obtain ⟨b, o, e, hlt, hc⟩ := h hn
  exact ⟨b, o, e, by omega, fun k hk => by obtain ⟨A', c', h1, h2⟩ := hc k hk; exact ⟨A', c', h1, h2.more hB⟩⟩

theorem bytes_n (w : World) (B B2 : Nat) (A A2 : Option Addr) (c c2 n n2 : Nat) (xs ys : List UInt8) (b : Bool) (hx : Hid (Lies w B A (bv xs))) (hy : Hid (Lies w B2 A2 (bv ys))) (hn : Hid (xs.length = n)) (hn2 : Hid (ys.length = n2)) (hl : n ≤ maxLen) (hl2 : n2 ≤ maxLen) (hb : Hid (decide (xs = ys) = b)) :
    Calls Try.prog 13 #[.slice A n c, .slice A2 n2 c2] w fun e w' => ∃ d, e = .returned (.bool b) ∧ w' = w.drewN d := by
  have h1 := hn.out
  have h2 := hn2.out
  subst h1; subst h2
  rw [← hb.out]
  refine (bytes_any w B B2 A A2 c c2 xs ys hx.out hy.out hl hl2).mono ?_
  rintro e w' ⟨rfl, d, rfl⟩
  exact ⟨d, rfl, rfl⟩

set_option maxHeartbeats 1000000 in
set_option maxRecDepth 100000 in
theorem lists_any (w : World) (B B2 : Nat) (A A2 : Option Addr) (c c2 : Nat) (ls ms : List (List UInt8)) (hx : LisV w B A ls) (hy : LisV w B2 A2 ms) (hl : ls.length ≤ maxLen) (hl2 : ms.length ≤ maxLen) (hs : ∀ b ∈ ls, b.length ≤ maxLen) (hs2 : ∀ b ∈ ms, b.length ≤ maxLen) :
    Calls Try.prog 20 #[.slice A ls.length c, .slice A2 ms.length c2] w fun e w' => e = .returned (.bool (decide (ls = ms))) ∧ Quiet w w' := by
  unfold maxLen at hl hl2
  have HX := hid hx
  have HY := hid hy
  have HS := hid hs
  have HS2 := hid hs2
  clear hx hy hs hs2
  by_cases hlen : ls.length = ms.length
  · have ht : ((ls.length : Int) == ms.length) = true := by simp [hlen]
    have ht2 : ((ls.length : Int) != ms.length) = false := by simp [hlen]
    have HL := hid hlen
    clear hlen
    go_enter Try.func20, Try.ntmps20
    go_wp2
    go_loopw [13] (fun i wr => ∃ k d : Nat, k ≤ ls.length ∧ i = .int .i64 k ∧ wr = w.drewN d ∧ Hid (ls.take k = ms.take k)) (fun i _ => ls.length - (intOf i).toNat)
    case atStart => exact ⟨0, 0, Nat.zero_le _, rfl, rfl, rfl⟩
    case round =>
      obtain ⟨k, d, hk, rfl, rfl, HT⟩ := hrel
      by_cases hlt : k < ls.length
      · have hlt2 : k < ms.length := by have := HL.out; omega
        obtain ⟨b, o, rfl, _, hc1⟩ := HX.out (by intro e; rw [e] at hlt; simp at hlt)
        obtain ⟨b2, o2, rfl, _, hc2⟩ := HY.out (by intro e; rw [e] at hlt2; simp at hlt2)
        obtain ⟨A1, c1, g1, s1⟩ := hc1 k hlt
        obtain ⟨A2, c2, g2, s2⟩ := hc2 k hlt2
        have m1 := HS.out ls[k] (List.getElem_mem hlt)
        have m2 := HS2.out ms[k] (List.getElem_mem hlt2)
        have i1 : (k : Int) < ls.length := by omega
        have i2 : (k : Int) < ms.length := by omega
        have HS1 : Hid (∀ d, Lies (w.drewN d) B A1 (bv ls[k])) := fun d => s1.2.2.2
        have HS2' : Hid (∀ d, Lies (w.drewN d) B2 A2 (bv ms[k])) := fun d => s2.2.2.2
        clear hc1 hc2 s1 s2
        obtain ⟨x, Hx⟩ : ∃ x, Hid (ls[k].length = x) := ⟨_, hid rfl⟩
        obtain ⟨y, Hy⟩ : ∃ y, Hid (ms[k].length = y) := ⟨_, hid rfl⟩
        rw [Hx.out] at g1 m1
        rw [Hy.out] at g2 m2
        by_cases he : ls[k] = ms[k]
        · have HD : Hid (decide (ls[k] = ms[k]) = true) := by show _ = _; simp [he]
          have HT2 : Hid (ls.take (k + 1) = ms.take (k + 1)) := by
            show _ = _
            rw [take_snoc _ _ hlt, take_snoc _ _ hlt2, HT.out, he]
          clear he
          go_wp2
          go_region_law (first
            | (go_simp
               go_at_call 13
               ((with_reducible refine (bytes_n _ B B2 A1 A2 c1 c2 x y ls[k] ms[k] true (hid (HS1.out _)) (hid (HS2'.out _)) Hx Hy m1 m2 HD).mono ?_); rintro e w2 ⟨d2, rfl, rfl⟩)))
          all_goals
            go_wp2
            go_roundw
            case rel => exact ⟨k + 1, _, by omega, by go_num, rfl, HT2.out⟩
            case measure => simp [intOf]; omega
        · have HD : Hid (decide (ls[k] = ms[k]) = false) := by show _ = _; simp [he]
          have hF : Hid (decide (ls = ms) = false) := by
            show _ = _
            simp
            exact list_ne k hlt hlt2 he
          clear he
          go_wp2
          go_region_law (first
            | (go_simp
               go_at_call 13
               ((with_reducible refine (bytes_n _ B B2 A1 A2 c1 c2 x y ls[k] ms[k] false (hid (HS1.out _)) (hid (HS2'.out _)) Hx Hy m1 m2 HD).mono ?_); rintro e w2 ⟨d2, rfl, rfl⟩)))
          all_goals
            go_wp2
            go_ret
            rw [hF.out]
            exact ⟨rfl, _, rfl⟩
      · have hF : Hid (decide (ls = ms) = true) := by
          show _ = _
          have h := HT.out
          rw [List.take_of_length_le (by omega), List.take_of_length_le (by have := HL.out; omega)] at h
          simp [h]
        go_wp2
        go_ret
        rw [hF.out]
        exact ⟨rfl, _, rfl⟩
  · have hF : Hid (decide (ls = ms) = false) := by
      show _ = _
      simp
      intro e
      exact hlen (by rw [e])
    have ht : ((ls.length : Int) == ms.length) = false := by simp; omega
    have ht2 : ((ls.length : Int) != ms.length) = true := by simp; omega
    clear hlen
    go_enter Try.func20, Try.ntmps20
    go_wp2
    go_ret
    rw [hF.out]
    exact ⟨rfl, Quiet.refl _⟩
theorem cell_own {w : World} {base n c g : Nat} {q : List UInt8} (_hl : q.length = n) (h : w.ownsRow base 5 1 (.slice (some ⟨g, 0, none⟩) n c) n (bv q)) (k : Nat) (hk : k < q.length) : w.cell? ⟨g, k, none⟩ = some (.int .u8 (q[k].toNat : Int)) := by
  have := h.cells (g := g) rfl k (.int .u8 (q[k].toNat : Int)) (by simp [bv, List.getElem?_map, List.getElem?_eq_getElem hk])
  rw [Addr.add_lit] at this
  simpa using this
theorem own_addr {w : World} {base n c : Nat} {A : Option Addr} {xs : List Value} (h : w.ownsRow base 5 1 (.slice A n c) n xs) (hn : 0 < n) : ∃ g, A = some ⟨g, 0, none⟩ := by
  rcases h.2 with ⟨_, h0⟩ | ⟨g, cap, cur, hv, _⟩
  · omega
  · injection hv with hv
    exact ⟨g, hv⟩
/-- A row that the law turns byte by byte. -/
structure Mt (w0 w : World) (A : Option Addr) (n c : Nat) : Prop where
  but : But (Value.slice A n c).ownBlock.toList w0 w
  row : 0 < n → ∃ g cur, A = some ⟨g, 0, none⟩ ∧ Box w g 5 cur ∧ ∀ j, j < n → ∃ z : Int, cur[j]? = some (.int .u8 z)
theorem Mt.start {w : World} {base n c : Nat} {A : Option Addr} {xs : List UInt8} (hn : xs.length = n) (h : w.ownsRow base 5 1 (.slice A n c) n (bv xs)) : Mt w w A n c := by
  subst hn
  refine ⟨But.refl _ _, fun hp => ?_⟩
  obtain ⟨g, rfl⟩ := own_addr h hp
  rcases h.2 with ⟨hv, _⟩ | ⟨g', cap, cur, hv, _, hx, _⟩
  · cases hv
  · injection hv with e1 _ _
    injection e1 with e1
    injection e1 with e1
    subst e1
    refine ⟨g, cur, rfl, hx, fun j hj => ⟨(xs[j].toNat : Int), ?_⟩⟩
    rw [← Box.cell hx]
    exact cell_own rfl h j hj
theorem Mt.store {w0 w : World} {n c g : Nat} {cur : Array Value} (m : Mt w0 w (some ⟨g, 0, none⟩) n c) (hx : Box w g 5 cur) (hc : ∀ j, j < n → ∃ z : Int, cur[j]? = some (.int .u8 z)) (k : Nat) (z : Int) : Mt w0 (w.setCell ⟨g, k, none⟩ (.int .u8 z)) (some ⟨g, 0, none⟩) n c := by
  refine ⟨m.but.store (.inl (by simp [Value.ownBlock])) _, fun _ => ⟨g, _, rfl, hx.store k _, fun j hj => ?_⟩⟩
  obtain ⟨y, hy⟩ := hc j hj
  by_cases hkj : k = j
  · subst hkj
    have hlt := (Array.getElem?_eq_some_iff.1 hy).1
    exact ⟨z, by simp [Array.getElem?_setIfInBounds, hlt]⟩
  · exact ⟨y, by rw [Array.getElem?_setIfInBounds, if_neg hkj]; exact hy⟩
theorem Mt.drewN {w0 w : World} {A : Option Addr} {n c : Nat} (m : Mt w0 w A n c) (d : Nat) : Mt w0 (w.drewN d) A n c := ⟨m.but.drewN d, m.row⟩


/-- A window on a row of slices, each with a property that asks nothing of the world. -/
structure Wg (E : Value → List UInt8 → Prop) (w : World) (A : Option Addr) (n c : Nat) (rb : Option Nat) (L : List (List UInt8)) : Prop where
  len : L.length = n
  le : n ≤ c
  max : c ≤ maxLen
  row : (A = none ∧ c = 0 ∧ rb = none) ∨ ∃ r f cur, A = some ⟨r, f, none⟩ ∧ rb = some r ∧ Box w r 34 cur ∧ f + c ≤ cur.size ∧ ∀ j (h : j < L.length), ∃ u, cur[f + j]? = some u ∧ E u L[j]
theorem Wg.keep {E : Value → List UInt8 → Prop} {w w' : World} {A : Option Addr} {n c : Nat} {rb : Option Nat} {L : List (List UInt8)} {K : List Nat} (h : Wg E w A n c rb L) (k : But K w w') (hr : ∀ x, rb = some x → x ∉ K) : Wg E w' A n c rb L := by
  refine ⟨h.len, h.le, h.max, ?_⟩
  rcases h.row with h1 | ⟨r, f, cur, e1, e2, hb, hs, he⟩
  · exact .inl h1
  · exact .inr ⟨r, f, cur, e1, e2, k.box hb (hr r e2), hs, he⟩
theorem Wg.nil (E : Value → List UInt8 → Prop) (w : World) : Wg E w none 0 0 none [] := ⟨rfl, Nat.le_refl _, Nat.zero_le _, .inl ⟨rfl, rfl, rfl⟩⟩
theorem Wg.box {E : Value → List UInt8 → Prop} {w : World} {A : Option Addr} {n c : Nat} {rb : Option Nat} {L : List (List UInt8)} (h : Wg E w A n c rb L) : ∀ x, rb = some x → ∃ cs, Box w x 34 cs := fun x hx => by
  rcases h.row with ⟨_, _, e⟩ | ⟨r, f, cur, _, e2, hb, _⟩
  · rw [e] at hx; cases hx
  · rw [e2] at hx
    injection hx with hx
    subst hx
    exact ⟨cur, hb⟩
/-- append of one slice to such a window. -/
theorem Wg.app {E : Value → List UInt8 → Prop} {w : World} {A : Option Addr} {n c : Nat} {rb : Option Nat} {L : List (List UInt8)} (h : Wg E w A n c rb L) (a : Addr) (c2 : Nat) (u : Value) (bs : List UInt8) (ty : TypeId)
    (hc : w.cell? a = some u) (hu : E u bs) (hone1 : u.oneCell' = true) (hn : n + 1 ≤ 1000000) :
    ∃ A' c' w', (Builtin.append_ #[43, 43] ty #[.slice A n c, .slice (some a) 1 c2]).run Try.prog w = .ok (.slice A' (n + 1) c') w' ∧ (∃ rb', Wg E w' A' (n + 1) c' rb' (L ++ [bs]) ∧ ∀ x, rb' = some x → rb = some x ∨ w.heap.size ≤ x) ∧ But rb.toList w w' := by
  obtain ⟨i0, hi0, hz0, hz1, hz2⟩ := info_parts Try.info34
  have h1 := h.len
  have h2 := h.le
  have h3 := h.max
  have hone : ∀ x ∈ [u], x.oneCell' = true := by
    intro x hx
    simp at hx
    subst hx
    exact hone1
  have hn1 : ∀ j v, [u][j]? = some v → w.cell? (a.add j) = some v := fun j v hv => by
    cases j with
    | zero => simp at hv; subst hv; simpa [Addr.add] using hc
    | succ j => simp at hv
  have hl : [u].length = 1 * i0.size := by simp [hz1]
  rcases h.row with ⟨rfl, rfl, rfl⟩ | ⟨r, f, cur, rfl, rfl, hb, hs, he⟩
  · have hn0 : n = 0 := by omega
    subst hn0
    have hL : L = [] := List.eq_nil_of_length_eq_zero h1
    subst hL
    have hr := run_append_nil (P := Try.prog) w 43 ty 34 i0 _ Try.underlying43 hi0 hz0 a 1 c2 [u] hl hn1 (by omega) (by omega) (by rw [hz2]; omega)
    have hge := grownCap_ge w 1 0 34
    have hcm : grownCap w 1 0 34 ≤ maxLen := grownCap_le_maxLen w 1 0 34 (by unfold maxLen; omega)
    refine ⟨_, _, _, hr, ⟨some w.heap.size, ⟨rfl, hge, hcm, .inr ⟨w.heap.size, 0, _, rfl, rfl, heap_alloc_new w.drew _, ?_, fun j hj => ?_⟩⟩, fun x hx => .inr (by injection hx with hx; omega)⟩, ((But.refl _ w).drew).alloc _⟩
    · simp only [Array.size_append, List.size_toArray, size_zeroCells, Value.cells]
      simp
      omega
    · have hj0 : j = 0 := by simp at hj; omega
      subst hj0
      exact ⟨u, by rw [Nat.zero_add, Array.getElem?_append_left (by simp)]; rfl, hu⟩
  · by_cases hroom : n + 1 ≤ c
    · have hcell : f + n < cur.size := by omega
      have hr := run_append_room_cells (P := Try.prog) w 43 ty 34 i0 Try.underlying43 hi0 r f n c a 1 c2 [u] hl hn1 hone hroom
        (fun j hj => by
          have hj0 : j = 0 := by simpa using hj
          subst hj0
          rw [hz1, hb.cell]
          simp [hcell])
        (fun j hj => hb.frozen _)
      rw [hz1] at hr
      simp only [Nat.mul_one, World.setCells] at hr
      have hk : But [r] w (w.setCell ⟨r, f + n, none⟩ u) := (But.refl [r] w).store (.inl (by simp)) _
      refine ⟨_, _, _, hr, ⟨some r, ⟨by simp [h1], hroom, h3, .inr ⟨r, f, _, rfl, rfl, hb.store (f + n) u, by simpa using hs, fun j hj => ?_⟩⟩, fun x hx => .inl hx⟩, hk⟩
      by_cases hjl : j < L.length
      · obtain ⟨v, hv, hel⟩ := he j hjl
        refine ⟨v, ?_, ?_⟩
        · rw [Array.getElem?_setIfInBounds, if_neg (by omega)]
          exact hv
        · rw [List.getElem_append_left hjl]
          exact hel
      · have hjn : j = n := by simp at hj; omega
        subst hjn
        refine ⟨u, by simp [hcell], ?_⟩
        rw [List.getElem_append_right (by omega)]
        simp only [h1, Nat.sub_self, List.getElem_cons_zero]
        exact hu
    · have holds0 : ((cur.toList.drop f).take n).length = n := by
        rw [List.length_take, List.length_drop, Array.length_toList]
        omega
      have hr := run_append_grow (P := Try.prog) w 43 ty 34 i0 _ Try.underlying43 hi0 hz0 ⟨r, f, none⟩ n c ((cur.toList.drop f).take n) (by rw [holds0, hz1]; omega)
        (fun j v hv => by
          rw [Addr.add_lit, hb.cell]
          rw [List.getElem?_take] at hv
          split at hv
          · rw [List.getElem?_drop] at hv
            simpa using hv
          · cases hv) a 1 c2 [u] hl hn1 (by omega) (by omega) (growslice_fits (by omega) (by rw [hz2]; omega))
      have hge := grownCap_ge w (n + 1) c 34
      have hcm : grownCap w (n + 1) c 34 ≤ maxLen := grownCap_le_maxLen w (n + 1) c 34 (by unfold maxLen; omega)
      refine ⟨_, _, _, hr, ⟨some w.heap.size, ⟨by simp [h1], hge, hcm, .inr ⟨w.heap.size, 0, _, rfl, rfl, heap_alloc_new w.drew _, ?_, fun j hj => ?_⟩⟩, fun x hx => .inr (by injection hx with hx; omega)⟩, ((But.refl _ w).drew).alloc _⟩
      · simp only [Array.size_append, List.size_toArray, size_zeroCells, Value.cells, holds0]
        simp
        omega
      · by_cases hjl : j < L.length
        · obtain ⟨v, hv, hel⟩ := he j hjl
          refine ⟨v, ?_, ?_⟩
          · rw [Nat.zero_add, ← hv, Array.append_assoc, Array.getElem?_append_left (by simp; omega)]
            have hjn : j < n := by omega
            simp [List.getElem?_take, List.getElem?_drop, hjn]
          · rw [List.getElem_append_left hjl]
            exact hel
        · have hjn : j = n := by simp at hj; omega
          subst hjn
          refine ⟨u, ?_, ?_⟩
          · rw [Nat.zero_add, Array.append_assoc, Array.getElem?_append_right (by simp; omega)]
            have e0 : j - ((cur.toList.drop f).take j).toArray.size = 0 := by
              have e1 : ((cur.toList.drop f).take j).toArray.size = j := holds0
              rw [e1, Nat.sub_self]
            rw [e0, Array.getElem?_append_left (by simp)]
            rfl
          · rw [List.getElem_append_right (by omega)]
            simp only [h1, Nat.sub_self, List.getElem_cons_zero]
            exact hu

theorem step_wg {E : Value → List UInt8 → Prop} {a : Act} (w : World) {ops : Array Oper} {o : Oper} {rest : List Oper} {Q : Exit → Act → World → Prop} (hgd : o.guard = none) (s x : Operand)
    (ho : o.op = .call { callee := .builtin .append, args := #[s, x], argTypes := #[43, 43] })
    {A : Option Addr} {n c : Nat} {rb : Option Nat} {L : List (List UInt8)} (hs : a.eval s = .slice A n c) (hw : Wg E w A n c rb L) (ad : Addr) (c2 : Nat) (u : Value) (bs : List UInt8)
    (hx : a.eval x = .slice (some ad) 1 c2) (hc : w.cell? ad = some u) (hu : E u bs) (hone : u.oneCell' = true) (hn : n + 1 ≤ 1000000)
    (h : ∀ A' c' w', (∃ rb', Wg E w' A' (n + 1) c' rb' (L ++ [bs]) ∧ ∀ x, rb' = some x → rb = some x ∨ w.heap.size ≤ x) → But rb.toList w w' → wpList Try.prog ops Q rest (a.put o.dst (.slice A' (n + 1) c')) w') : wpList Try.prog ops Q (o :: rest) a w := by
  obtain ⟨A', c', w', hrun, h2, h3⟩ := hw.app ad c2 u bs o.type hc hu hone hn
  refine wpList_plain hgd fun _ hK => ?_
  unfold Oper.wp execOp
  simp only [ho, resolve, invoke, builtin, Sem.run_bind, Sem.run_pure, Result.andThen_ok, List.map_toArray, List.map_cons, List.map_nil, hs, hx, hrun]
  exact hK _ _ (h A' c' w' h2 h3)
theorem list_wn {a : Act} (w : World) {ops : Array Oper} {o : Oper} {rest : List Oper} {Q : Exit → Act → World → Prop} (hgd : o.guard = none) (s x : Operand)
    (ho : o.op = .call { callee := .builtin .append, args := #[s, x], argTypes := #[43, 43] })
    {S : Nat → Prop} {A : Option Addr} {n c : Nat} {rb : Option Nat} {L : List (List UInt8)} (hs : a.eval s = .slice A n c) (hw : Wn w S A n c rb L) (ad : Addr) (c2 : Nat) (u : Value) (bs : List UInt8)
    (hx : a.eval x = .slice (some ad) 1 c2) (hc : w.cell? ad = some u) (hu : El w S u bs) (hn : n + 1 ≤ 1000000)
    (h : ∀ A' c' w', (∃ rb', Wn w' S A' (n + 1) c' rb' (L ++ [bs]) ∧ ∀ x, rb' = some x → rb = some x ∨ w.heap.size ≤ x) → But rb.toList w w' → wpList Try.prog ops Q rest (a.put o.dst (.slice A' (n + 1) c')) w') : wpList Try.prog ops Q (o :: rest) a w := by
  obtain ⟨A', c', w', hrun, h2, h3⟩ := hw.app ad c2 u bs o.type hc hu hn
  refine wpList_plain hgd fun _ hK => ?_
  unfold Oper.wp execOp
  simp only [ho, resolve, invoke, builtin, Sem.run_bind, Sem.run_pure, Result.andThen_ok, List.map_toArray, List.map_cons, List.map_nil, hs, hx, hrun]
  exact hK _ _ (h A' c' w' h2 h3)

/-- A slice of bytes of what came in. -/
def Ea (w2 : World) (u : Value) (bs : List UInt8) : Prop := ∃ tA tc, u = .slice tA bs.length tc ∧ SlB w2 w2.heap.size tA tc bs
abbrev Tt : Nat → Prop := fun _ => True
/-- The queue, what went in, what came out. -/
structure QO (w2 w : World) (C : Cf) (g : Nat) (rb : Option Nat) (L : List (List UInt8)) (ov : Bool) (A1 : Option Addr) (n1 c1 : Nat) (rb1 : Option Nat) (In : List (List UInt8)) (A2 : Option Addr) (n2 c2 : Nat) (rb2 : Option Nat) (Out : List (List UInt8)) : Prop where
  qu : Qu w Tt C g rb L ov
  inn : Wg (Ea w2) w A1 n1 c1 rb1 In
  out : Wn w Tt A2 n2 c2 rb2 Out
  d1 : ∀ x, rb = some x → rb1 ≠ some x ∧ rb2 ≠ some x
  d2 : ∀ x, rb1 = some x → rb2 ≠ some x
  l0 : w2.heap.size ≤ g
  l1 : ∀ x, (rb = some x ∨ rb1 = some x ∨ rb2 = some x) → w2.heap.size ≤ x
  bel : Below w2.heap.size w2 w
section
variable {w2 w w' : World} {C : Cf} {g : Nat} {rb : Option Nat} {L L' : List (List UInt8)} {ov ov' : Bool} {A1 : Option Addr} {n1 c1 : Nat} {rb1 : Option Nat} {In : List (List UInt8)} {A2 : Option Addr} {n2 c2 : Nat} {rb2 : Option Nat} {Out : List (List UInt8)}
theorem QO.keep (h : QO w2 w C g rb L ov A1 n1 c1 rb1 In A2 n2 c2 rb2 Out) (k : Below w.heap.size w w') : QO w2 w' C g rb L ov A1 n1 c1 rb1 In A2 n2 c2 rb2 Out :=
  have kb := But.of_below k []
  ⟨h.qu.keep0 kb, h.inn.keep kb (by simp), h.out.keep kb (by simp) (by simp), h.d1, h.d2, h.l0, h.l1, h.bel.trans (k.mono h.bel.size)⟩
theorem rb_lt {E : Value → List UInt8 → Prop} (h : Wg E w A1 n1 c1 rb1 In) : ∀ x, rb1 = some x → x < w.heap.size := fun x hx => by
  obtain ⟨cs, hb⟩ := h.box x hx
  exact hb.lt
theorem QO.step (h : QO w2 w C g rb L ov A1 n1 c1 rb1 In A2 n2 c2 rb2 Out) (hq : ∃ rb', Qu w' Tt C g rb' L' ov' ∧ ∀ x, rb' = some x → rb = some x ∨ w.heap.size ≤ x) (k : But (g :: rb.toList) w w') : ∃ rb', QO w2 w' C g rb' L' ov' A1 n1 c1 rb1 In A2 n2 c2 rb2 Out := by
  obtain ⟨rb', hq, hx⟩ := hq
  have ht := h.qu.types
  have hne : ∀ x cs, Box w x 34 cs → rb ≠ some x → x ∉ g :: rb.toList := fun x cs hb hn hm => by
    rcases List.mem_cons.1 hm with rfl | hm
    · obtain ⟨A, c, h1, _⟩ := h.qu.body
      exact box_ne h1 hb (by decide) rfl
    · exact hn (by simpa using hm)
  have hz := h.bel.size
  refine ⟨rb', hq, h.inn.keep k (fun x hx => ?_), ((h.out.far ht).keep k (fun x hx => ?_) (fun x _ hx => hx.2)).mono (fun x _ hx => hx.1), fun x hxx => ?_, h.d2, h.l0, fun x hxx => ?_, ?_⟩
  · obtain ⟨cs, hb⟩ := h.inn.box x hx
    exact hne x cs hb (fun e => (h.d1 x e).1 hx)
  · obtain ⟨cs, hb⟩ := h.out.box x hx
    exact hne x cs hb (fun e => (h.d1 x e).2 hx)
  · rcases hx x hxx with e | e
    · exact h.d1 x e
    · exact ⟨fun e2 => by have := rb_lt h.inn x e2; omega, fun e2 => by have := h.out.lt x e2; omega⟩
  · rcases hxx with e | e | e
    · rcases hx x e with e | e
      · exact h.l1 x (.inl e)
      · omega
    · exact h.l1 x (.inr (.inl e))
    · exact h.l1 x (.inr (.inr e))
  · refine h.bel.trans (k.below hz (fun x hx => ?_))
    rcases List.mem_cons.1 hx with rfl | hx
    · exact h.l0
    · exact h.l1 x (.inl (by simpa using hx))
theorem row_types {x : Nat} {rbx : Option Nat} (hb : ∀ x, rbx = some x → ∃ cs, Box w x 34 cs) : ∀ y ∈ rbx.toList, ∃ t cs, t ≠ 5 ∧ Box w y t cs := fun y hy => by
  obtain ⟨cs, h⟩ := hb y (by simpa using hy)
  exact ⟨34, cs, by decide, h⟩
theorem QO.inned (h : QO w2 w C g rb L ov A1 n1 c1 rb1 In A2 n2 c2 rb2 Out) {A1' : Option Addr} {n1' c1' : Nat} {In' : List (List UInt8)} (hw : ∃ rb1', Wg (Ea w2) w' A1' n1' c1' rb1' In' ∧ ∀ x, rb1' = some x → rb1 = some x ∨ w.heap.size ≤ x) (k : But rb1.toList w w') : ∃ rb1', QO w2 w' C g rb L ov A1' n1' c1' rb1' In' A2 n2 c2 rb2 Out := by
  obtain ⟨rb1', hw, hx⟩ := hw
  have ht := row_types (x := 0) h.inn.box
  have hz := h.bel.size
  have hlt := h.qu.lt
  have hne : g ∉ rb1.toList := fun hm => by
    obtain ⟨A, c, h1, _⟩ := h.qu.body
    obtain ⟨cs, hb⟩ := h.inn.box g (by simpa using hm)
    exact box_ne h1 hb (by decide) rfl
  refine ⟨rb1', h.qu.other k hne (fun x hx hm => (h.d1 x hx).1 (by simpa using hm)) ht, hw, ((h.out.far ht).keep k (fun x hx hm => h.d2 x (by simpa using hm) hx) (fun x _ hx => hx.2)).mono (fun x _ hx => hx.1), fun x hxx => ⟨fun e => ?_, (h.d1 x hxx).2⟩, fun x hxx e => ?_, h.l0, fun x hxx => ?_, ?_⟩
  · rcases hx x e with e | e
    · exact (h.d1 x hxx).1 e
    · have := hlt.2 x hxx; omega
  · rcases hx x hxx with e2 | e2
    · exact h.d2 x e2 e
    · have := h.out.lt x e; omega
  · rcases hxx with e | e | e
    · exact h.l1 x (.inl e)
    · rcases hx x e with e | e
      · exact h.l1 x (.inr (.inl e))
      · omega
    · exact h.l1 x (.inr (.inr e))
  · exact h.bel.trans (k.below hz (fun x hx => h.l1 x (.inr (.inl (by simpa using hx)))))
theorem QO.outed (h : QO w2 w C g rb L ov A1 n1 c1 rb1 In A2 n2 c2 rb2 Out) {A2' : Option Addr} {n2' c2' : Nat} {Out' : List (List UInt8)} (hw : ∃ rb2', Wn w' Tt A2' n2' c2' rb2' Out' ∧ ∀ x, rb2' = some x → rb2 = some x ∨ w.heap.size ≤ x) (k : But rb2.toList w w') : ∃ rb2', QO w2 w' C g rb L ov A1 n1 c1 rb1 In A2' n2' c2' rb2' Out' := by
  obtain ⟨rb2', hw, hx⟩ := hw
  have ht := row_types (x := 0) h.out.box
  have hz := h.bel.size
  have hlt := h.qu.lt
  have hne : g ∉ rb2.toList := fun hm => by
    obtain ⟨A, c, h1, _⟩ := h.qu.body
    obtain ⟨cs, hb⟩ := h.out.box g (by simpa using hm)
    exact box_ne h1 hb (by decide) rfl
  refine ⟨rb2', h.qu.other k hne (fun x hx hm => (h.d1 x hx).2 (by simpa using hm)) ht, h.inn.keep k (fun x hx hm => h.d2 x hx (by simpa using hm)), hw, fun x hxx => ⟨(h.d1 x hxx).1, fun e => ?_⟩, fun x hxx e => ?_, h.l0, fun x hxx => ?_, ?_⟩
  · rcases hx x e with e | e
    · exact (h.d1 x hxx).2 e
    · have := hlt.2 x hxx; omega
  · rcases hx x e with e2 | e2
    · exact h.d2 x hxx e2
    · have := rb_lt h.inn x hxx; omega
  · rcases hxx with e | e | e
    · exact h.l1 x (.inl e)
    · exact h.l1 x (.inr (.inl e))
    · rcases hx x e with e | e
      · exact h.l1 x (.inr (.inr e))
      · omega
  · exact h.bel.trans (k.below hz (fun x hx => h.l1 x (.inr (.inr (by simpa using hx)))))
theorem QO.start (hq : Qu w Tt C g none [] false) (hg : w2.heap.size ≤ g) (hb : Below w2.heap.size w2 w) : QO w2 w C g none [] false none 0 0 none [] none 0 0 none [] :=
  ⟨hq, Wg.nil _ _, Wn.nil _ _, by simp, by simp, hg, by simp, hb⟩
theorem QO.lis (h : QO w2 w C g rb L ov A1 n1 c1 rb1 In A2 n2 c2 rb2 Out) : LisV w w.heap.size A1 In ∧ LisV w w.heap.size A2 Out ∧ (∀ b ∈ In, b.length ≤ maxLen) ∧ (∀ b ∈ Out, b.length ≤ maxLen) := by
  have hz := h.bel.size
  have e1 : LisV w w.heap.size A1 In ∧ (∀ b ∈ In, b.length ≤ maxLen) := by
    rcases h.inn.row with ⟨_, e, _⟩ | ⟨r, f, cur, e1, e2, hb, hs, he⟩
    · have hL : In = [] := List.eq_nil_of_length_eq_zero (by have := h.inn.len; have := h.inn.le; omega)
      subst hL
      exact ⟨fun hn => absurd rfl hn, by simp⟩
    · refine ⟨fun hn => ⟨r, f, e1, hb.lt, fun j hj => ?_⟩, fun b hb' => ?_⟩
      · obtain ⟨u, hu, tA, tc, rfl, hs2⟩ := he j hj
        exact ⟨tA, tc, by rw [hb.cell]; exact hu, (hs2.below h.bel).more hz⟩
      · obtain ⟨j, hj, rfl⟩ := List.getElem_of_mem hb'
        obtain ⟨u, hu, tA, tc, rfl, hs2⟩ := he j hj
        exact Nat.le_trans hs2.1 hs2.2.1
  have e2 : LisV w w.heap.size A2 Out ∧ (∀ b ∈ Out, b.length ≤ maxLen) := by
    rcases h.out.row with ⟨_, e, _⟩ | ⟨r, f, cur, e1, e2, hb, hs, he⟩
    · have hL : Out = [] := List.eq_nil_of_length_eq_zero (by have := h.out.len; have := h.out.le; omega)
      subst hL
      exact ⟨fun hn => absurd rfl hn, by simp⟩
    · refine ⟨fun hn => ⟨r, f, e1, hb.lt, fun j hj => ?_⟩, fun b hb' => ?_⟩
      · obtain ⟨u, hu, tA, tc, rfl, ho, _⟩ := he j hj
        exact ⟨tA, tc, by rw [hb.cell]; exact hu, own_slb (base := 0) (_n := 0) ho⟩
      · obtain ⟨j, hj, rfl⟩ := List.getElem_of_mem hb'
        obtain ⟨u, hu, tA, tc, rfl, ho, _⟩ := he j hj
        have := own_caps ho
        omega
  exact ⟨e1.1, e2.1, e1.2, e2.2⟩
end
end Go.Proofs.Ytibkbcffoabhfaa
