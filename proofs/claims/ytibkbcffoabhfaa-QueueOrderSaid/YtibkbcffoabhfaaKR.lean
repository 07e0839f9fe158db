import Derived.Test.YtibkbcffoabhfaaKQ
namespace Go.Proofs.Ytibkbcffoabhfaa
open Go.RowKit

set_option maxHeartbeats 4000000 in
set_option maxRecDepth 100000 in
theorem order_great (w : World) (b r h lo : Int) (A : Option Addr) (c n : Nat) (l : List OpV) (hl : Hid (OpsV w w.heap.size A l)) (hn : Hid (l.length = n)) (hl2 : n ≤ maxLen) (hg : Hid (greatO l = true)) :
    Calls Try.prog 4 #[.agg #[.int .i64 b, .int .i64 r, .int .i64 h, .int .i64 lo], .slice A n c] w fun e w' => e = .returned (.bool true) ∧ Hid (Below w.heap.size w w') := by
  have HB0 : Hid (Below w.heap.size w (w.alloc (.cells #[.int .i64 b, .int .i64 r, .int .i64 h, .int .i64 lo] 23))) := (Below.refl _ _).alloc (Nat.le_refl _) _
  have HL0 := ops_at hl HB0
  go_enter Try.func4, Try.ntmps4
  go_wp2_with (first
    | (go_at_call 7
       ((with_reducible refine (alive_any _).mono ?_); rintro e w1 ⟨rfl, HB1⟩)
       have HL1 : Hid (OpsV w1 w1.heap.size A l) := ops_at HL0 HB1)
    | (go_at_call 8
       ((with_reducible refine (great_any _ A c n l true HL1 hn hl2 hg).mono ?_); rintro e w2 ⟨rfl, HB2⟩)))
  go_ret
  exact ⟨rfl, (bel_trans HB0 (bel_trans HB1 HB2)).out⟩
set_option maxHeartbeats 4000000 in
set_option maxRecDepth 100000 in
theorem order_bad (w : World) (b r h lo : Int) (A : Option Addr) (c n : Nat) (l : List OpV) (hl : Hid (OpsV w w.heap.size A l)) (hn : Hid (l.length = n)) (hl2 : n ≤ maxLen) (hg : Hid (greatO l = false)) (hs : ¬ okI b r h lo) :
    Calls Try.prog 4 #[.agg #[.int .i64 b, .int .i64 r, .int .i64 h, .int .i64 lo], .slice A n c] w fun e w' => e = .returned (.bool true) ∧ Hid (Below w.heap.size w w') := by
  have HB0 : Hid (Below w.heap.size w (w.alloc (.cells #[.int .i64 b, .int .i64 r, .int .i64 h, .int .i64 lo] 23))) := (Below.refl _ _).alloc (Nat.le_refl _) _
  have HX0 : Hid (Box (w.alloc (.cells #[.int .i64 b, .int .i64 r, .int .i64 h, .int .i64 lo] 23)) w.heap.size 23 #[.int .i64 b, .int .i64 r, .int .i64 h, .int .i64 lo]) := Box.new _ _ _
  have HL0 := ops_at hl HB0
  go_enter Try.func4, Try.ntmps4
  go_wp2_with (first
    | (go_at_call 7
       ((with_reducible refine (alive_any _).mono ?_); rintro e w1 ⟨rfl, HB1⟩)
       have HL1 : Hid (OpsV w1 w1.heap.size A l) := ops_at HL0 HB1
       have hx1 := hid (box_below HX0.out HB1.out))
    | (go_at_call 8
       ((with_reducible refine (great_any _ A c n l false HL1 hn hl2 hg).mono ?_); rintro e w2 ⟨rfl, HB2⟩)
       have hx2 := box_below hx1.out HB2.out
       have c0 := hx2.cell 0
       have c1 := hx2.cell 1
       have c2 := hx2.cell 2
       have c3 := hx2.cell 3
       clear hx2)
    | (go_at_call 9
       ((with_reducible refine (made_bad _ b r h lo hs).mono ?_); rintro e w3 ⟨rfl, HB3⟩)))
  go_ret
  exact ⟨rfl, (bel_trans HB0 (bel_trans HB1 (bel_trans HB2 HB3))).out⟩

/-- The state of QueueOrder. -/
def Od (w2 w : World) (C : Cf) (g : Nat) (L : List (List UInt8)) (ov : Bool) (A1 : Option Addr) (n1 c1 : Nat) (In : List (List UInt8)) (A2 : Option Addr) (n2 c2 : Nat) (Out : List (List UInt8)) : Prop :=
  ∃ rb rb1 rb2, QO w2 w C g rb L ov A1 n1 c1 rb1 In A2 n2 c2 rb2 Out
section
variable {w2 w w' : World} {C : Cf} {g : Nat} {L L' : List (List UInt8)} {ov ov' ok : Bool} {A1 A2 : Option Addr} {n1 c1 n2 c2 : Nat} {In Out : List (List UInt8)}
theorem Od.keep (h : Od w2 w C g L ov A1 n1 c1 In A2 n2 c2 Out) (k : Below w.heap.size w w') : Od w2 w' C g L ov A1 n1 c1 In A2 n2 c2 Out := by
  obtain ⟨rb, rb1, rb2, f⟩ := h
  exact ⟨rb, rb1, rb2, f.keep k⟩
theorem Od.bel (h : Od w2 w C g L ov A1 n1 c1 In A2 n2 c2 Out) : Below w2.heap.size w2 w := by
  obtain ⟨rb, rb1, rb2, f⟩ := h
  exact f.bel
theorem od_front (w : World) {n : Nat} {out : List UInt8} (h : Hid (Od w2 w C g L ov A1 n1 c1 In A2 n2 c2 Out)) (hf : Hid (frontF L = (out, ok))) (hn : Hid (out.length = n)) :
    Calls Try.prog 18 #[.pointer (some ⟨g, 0, none⟩)] w fun e w' => ∃ A' c', e = .returned (.tuple #[.slice A' n c', .bool ok]) ∧ Hid (w'.ownsRow w.heap.size 5 1 (.slice A' n c') n (bv out)) ∧ Hid (Od w2 w' C g L ov A1 n1 c1 In A2 n2 c2 Out) ∧ Hid (Below w.heap.size w w') := by
  obtain ⟨rb, rb1, rb2, f⟩ := h.out
  refine (front_any w (hid f.qu) hf hn).mono ?_
  rintro e w' ⟨A', c', rfl, ho, hb⟩
  exact ⟨A', c', rfl, ho, h.out.keep hb.out, hb⟩
theorem od_pop (w : World) {n : Nat} {out : List UInt8} (h : Hid (Od w2 w C g L ov A1 n1 c1 In A2 n2 c2 Out)) (hp : Hid (popF C L ov = (out, ok, L', ov'))) (hn : Hid (out.length = n)) :
    Calls Try.prog 19 #[.pointer (some ⟨g, 0, none⟩)] w fun e w' => ∃ A' c', e = .returned (.tuple #[.slice A' n c', .bool ok]) ∧ Hid (w'.ownsRow w.heap.size 5 1 (.slice A' n c') n (bv out)) ∧ Hid (Od w2 w' C g L' ov' A1 n1 c1 In A2 n2 c2 Out) := by
  obtain ⟨rb, rb1, rb2, f⟩ := h.out
  refine (pop_any w (hid f.qu) hp hn).mono ?_
  rintro e w' ⟨A', c', rfl, ho, hq, hk⟩
  obtain ⟨rb', f'⟩ := f.step ⟨rb, hq.out, fun x hx => .inl hx⟩ hk.out
  exact ⟨A', c', rfl, ho, rb', rb1, rb2, f'⟩
theorem od_do (w : World) {A : Option Addr} {c l bl : Nat} {b out : List UInt8} (k : Int) (h : Hid (Od w2 w C g L ov A1 n1 c1 In A2 n2 c2 Out)) (hb : Hid (SlB w w.heap.size A c b)) (hbl : Hid (b.length = bl)) (hp : Hid (doF C k b L ov = (out, ok, L', ov'))) (hl : Hid (out.length = l)) :
    Calls Try.prog 11 #[.pointer (some ⟨g, 0, none⟩), .agg #[.int .i64 k, .slice A bl c]] w fun e w' => ∃ A' c', e = .returned (.tuple #[.slice A' l c', .bool ok]) ∧ Hid (w'.ownsRow w.heap.size 5 1 (.slice A' l c') l (bv out)) ∧ Hid (Od w2 w' C g L' ov' A1 n1 c1 In A2 n2 c2 Out) ∧ Hid (Keep5 w w') := by
  obtain ⟨rb, rb1, rb2, f⟩ := h.out
  refine (do_any w k (hid f.qu) hb hbl (hid fun _ _ _ => trivial) hp hl).mono ?_
  rintro e w' ⟨A', c', rfl, hd⟩
  obtain ⟨rb', f'⟩ := f.step hd.out.qu hd.out.but
  exact ⟨A', c', rfl, hd.out.own, ⟨rb', rb1, rb2, f'⟩, keep5 f.qu hd.out.but⟩
theorem od_count (w : World) {n : Nat} (hn : Hid (L.length = n)) (h : Hid (Od w2 w C g L ov A1 n1 c1 In A2 n2 c2 Out)) : Calls Try.prog 14 #[.pointer (some ⟨g, 0, none⟩)] w fun e w' => e = .returned (.int .i64 n) ∧ w' = w := by
  obtain ⟨rb, rb1, rb2, f⟩ := h.out
  exact count_any w hn (hid f.qu)
theorem od_used (w : World) {n : Nat} (hn : Hid (sumB L = n)) (h : Hid (Od w2 w C g L ov A1 n1 c1 In A2 n2 c2 Out)) : Calls Try.prog 15 #[.pointer (some ⟨g, 0, none⟩)] w fun e w' => e = .returned (.int .i64 n) ∧ w' = w := by
  obtain ⟨rb, rb1, rb2, f⟩ := h.out
  exact used_any w hn (hid f.qu)
theorem od_over (w : World) (h : Hid (Od w2 w C g L ov A1 n1 c1 In A2 n2 c2 Out)) : Calls Try.prog 17 #[.pointer (some ⟨g, 0, none⟩)] w fun e w' => e = .returned (.bool ov) ∧ w' = w := by
  obtain ⟨rb, rb1, rb2, f⟩ := h.out
  exact over_any w (hid f.qu)
theorem Od.len1 (h : Od w2 w C g L ov A1 n1 c1 In A2 n2 c2 Out) : In.length = n1 ∧ Out.length = n2 ∧ sumB L ≤ C.b ∧ C.b ≤ 65536 ∧ L.length ≤ 4096 := by
  obtain ⟨rb, rb1, rb2, f⟩ := h
  have h2 := f.qu.ok
  have h3 := f.qu.cnt
  have h4 := f.qu.sum
  unfold Cf.ok at h2
  exact ⟨f.inn.len, f.out.len, h4, by omega, by omega⟩
theorem od_lists (w : World) (h : Hid (Od w2 w C g L ov A1 n1 c1 In A2 n2 c2 In)) (hm : n1 ≤ maxLen) : Calls Try.prog 20 #[.slice A1 n1 c1, .slice A2 n2 c2] w fun e w' => ∃ d, e = .returned (.bool true) ∧ w' = w.drewN d := by
  obtain ⟨e1, e2, _⟩ := h.out.len1
  obtain ⟨rb, rb1, rb2, f⟩ := h.out
  obtain ⟨l1, l2, l3, l4⟩ := f.lis
  subst e1
  subst e2
  refine (lists_any w w.heap.size w.heap.size A1 A2 c1 c2 In In l1 l2 hm hm l3 l4).mono ?_
  rintro e w' ⟨rfl, d, rfl⟩
  exact ⟨d, by simp, rfl⟩
end
/-- What becomes of what went in and came out. -/
theorem order_math {C : Cf} {k : Int} {b out : List UInt8} {L L' In Out : List (List UInt8)} {ov ok ov' : Bool} (hp : doF C k b L ov = (out, ok, L', ov')) (he : Out ++ L = In) :
    (k = 1 ∧ ok = true ∧ Out ++ L' = In ++ [b] ∧ k ≠ 2) ∨ (k = 1 ∧ ok = false ∧ Out ++ L' = In ∧ k ≠ 2) ∨ (k = 2 ∧ ok = true ∧ frontF L = (out, true) ∧ (Out ++ [out]) ++ L' = In ∧ k ≠ 1) ∨ (k = 2 ∧ ok = false ∧ frontF L = (out, false) ∧ Out ++ L' = In ∧ k ≠ 1) ∨ (k ≠ 1 ∧ k ≠ 2 ∧ Out ++ L' = In) := by
  subst he
  unfold doF at hp
  split at hp
  · unfold pushF at hp
    split at hp
    · simp only [Prod.mk.injEq] at hp
      obtain ⟨rfl, rfl, rfl, rfl⟩ := hp
      exact .inr (.inl ⟨‹_›, rfl, rfl, by omega⟩)
    · simp only [Prod.mk.injEq] at hp
      obtain ⟨rfl, rfl, rfl, rfl⟩ := hp
      exact .inl ⟨‹_›, rfl, by simp, by omega⟩
  · split at hp
    · unfold popF at hp
      split at hp
      · simp only [Prod.mk.injEq] at hp
        obtain ⟨rfl, rfl, rfl, rfl⟩ := hp
        exact .inr (.inr (.inr (.inl ⟨‹_›, rfl, rfl, rfl, ‹_›⟩)))
      · simp only [Prod.mk.injEq] at hp
        obtain ⟨rfl, rfl, rfl, rfl⟩ := hp
        exact .inr (.inr (.inl ⟨‹_›, rfl, rfl, by simp, ‹_›⟩))
    · split at hp
      · simp only [Prod.mk.injEq] at hp
        obtain ⟨rfl, rfl, rfl, rfl⟩ := hp
        exact .inr (.inr (.inr (.inr ⟨‹_›, ‹_›, rfl⟩)))
      · simp only [Prod.mk.injEq] at hp
        obtain ⟨rfl, rfl, rfl, rfl⟩ := hp
        exact .inr (.inr (.inr (.inr ⟨‹_›, ‹_›, rfl⟩)))
end Go.Proofs.Ytibkbcffoabhfaa
