import Derived.Test.YtidgbojgdllghaaRG
import Derived.Test.YtidgbojgdllghaaRH
namespace Go.Proofs.Ytidgbojgdllghaa
open Go.RowKit

/-- What a step of the document's ring answers, in a world. -/
structure RStepR (w w' : World) (base g size : Nat) (ob ob' : Option Nat) (out q' : List UInt8) (l : Nat) (A : Option Addr) (c : Nat) : Prop where
  own : w'.ownsRow w.heap.size 5 1 (.slice A l c) l (bv out)
  rf : Rf w' base g size q' ob'
  blk : ∀ x, ob' = some x → ob = some x ∨ w.heap.size ≤ x
  but : But (g :: ob.toList) w w'

set_option maxHeartbeats 2000000 in
set_option maxRecDepth 100000 in
theorem rread_any (w : World) {base g size : Nat} {q : List UInt8} {ob : Option Nat} (n : Int) (hr : Hid (Rf w base g size q ob)) (hq : q.length ≤ 65536) (hbase : base ≤ w.heap.size) :
    Calls Try.prog 23 #[.pointer (some ⟨g, 0, none⟩), .int .i64 n] w fun e w' => ∃ A c, e = .returned (.slice A (had n q.length) c) ∧ Hid (w'.ownsRow w.heap.size 5 1 (.slice A (had n q.length) c) (had n q.length) (bv (q.take (had n q.length)))) ∧ Hid ((∃ ob, Rf w' base g size (q.drop (had n q.length)) ob ∧ ∀ x, ob = some x → w.heap.size ≤ x) ∧ But [g] w w') := by
  obtain ⟨hl1, hl2⟩ := hr.out.lt
  go_enter Try.func23, Try.ntmps23
  go_wp2_with (first
    | (go_at_call 24
       ((with_reducible refine (rpeek_any _ n hr hq).mono ?_); rintro e w2 ⟨A, c, rfl, HO, HB⟩)
       have HR2 : Hid (Rf w2 base g size q ob) := hr.out.keep (But.of_below HB.out []) (by simp) (by simp)
       have hb2 : base ≤ w2.heap.size := Nat.le_trans hbase HB.out.size)
    | (go_at_call 25
       ((with_reducible refine (rdrop_any _ n HR2 hq hb2).mono ?_); rintro e w3 ⟨rfl, HD⟩)))
  go_ret
  obtain ⟨⟨ob2, h1, h2⟩, h3⟩ := HD.out
  refine ⟨A, c, rfl, h3.own HO.out (fun k hk => ?_), ⟨⟨ob2, h1, fun x hx => Nat.le_trans HB.out.size (h2 x hx)⟩, (But.of_below HB.out _).same h3⟩⟩
  have := (HO.out.lt k hk).1
  simp
  omega

theorem rf_al {w : World} {base g size : Nat} {q : List UInt8} {ob : Option Nat} (hr : Hid (Rf w base g size q ob)) (o : Obj) : Hid (Rf (w.alloc o) base g size q ob) :=
  hr.out.keep ((But.refl [] w).alloc o) (by simp) (by simp)
theorem but_al0 {L : List Nat} {w w' : World} {o : Obj} (h : But L (w.alloc o) w') : But L w w' := ((But.refl L w).alloc o).same h
theorem g_in {g : Nat} {ob : Option Nat} : ∀ x ∈ [g], x ∈ g :: ob.toList := by simp
set_option maxHeartbeats 2000000 in
set_option maxRecDepth 100000 in
theorem rdo_1 (w : World) {base g size c l m : Nat} {q b out q' : List UInt8} {A : Option Addr} {ob : Option Nat} (n : Int) (hr : Hid (Rf w base g size q ob)) (hqs : q.length ≤ size) (hs6 : size ≤ 65536) (hbase : base ≤ w.heap.size) (hb : Hid (SlB w w.heap.size A c b)) (hA : Hid (b ≠ [] → ∀ a, A = some a → a.block ≠ g ∧ ob ≠ some a.block)) (bl : Nat) (hbl : Hid (b.length = bl)) (hs : Hid (stepF size 1 n b q = (out, m, q'))) (hl : Hid (out.length = l)) :
    Calls Try.prog 12 #[.pointer (some ⟨g, 0, none⟩), .agg #[.int .i64 1, .int .i64 n, .slice A bl c]] w fun e w' => ∃ A' c', e = .returned (.tuple #[.slice A' l c', .int .i64 m]) ∧ Hid (∃ ob', RStepR w w' base g size ob ob' out q' l A' c') := by
  have hb0 := hbl.out
  subst hb0
  have hlt := hr.out.lt
  have HRa := rf_al hr (.cells #[.int .i64 1, .int .i64 n, .slice A b.length c] 38)
  have hba : base ≤ (w.alloc (.cells #[.int .i64 1, .int .i64 n, .slice A b.length c] 38)).heap.size := by simp; omega
  have hq6 : q.length ≤ 65536 := by omega
  have hs0 := hs.out
  rw [stepF, if_pos rfl] at hs0
  injection hs0 with e1 e2
  injection e2 with e2 e3
  have hl0 := hl.out
  have E1 := hid e1
  have E2 := hid e2
  have E3 := hid e3
  clear e1 e2 e3
  have HBa := slb_al hb (.cells #[.int .i64 1, .int .i64 n, .slice A b.length c] 38)
  have HMm : Hid (m = min b.length (size - q.length)) := E2.out.symm
  go_enter Try.func12, Try.ntmps12
  go_wp2_with (first
    | (go_at_call 22
       ((with_reducible refine (rwrite_any _ m HMm.out HRa hqs hs6 hba HBa hA.out).mono ?_); rintro e w2 ⟨rfl, HD⟩)))
  go_ret2
  have e1 := E1.out
  subst e1
  have hl1 : l = 0 := by rw [← hl0]; rfl
  subst hl1
  obtain ⟨⟨ob2, h1, h2⟩, h3⟩ := HD.out
  refine ⟨none, 0, rfl, ob2, ⟨World.ownsRow_nil _ _ _ _, ?_, fun x hx => (h2 x hx).imp id (fun h => by simp at h; omega), but_al0 h3⟩⟩
  rw [← E3.out, E2.out]
  exact h1
set_option maxHeartbeats 2000000 in
set_option maxRecDepth 100000 in
theorem rdo_2 (w : World) {base g size c l m : Nat} {q b out q' : List UInt8} {A : Option Addr} {ob : Option Nat} (n : Int) (hr : Hid (Rf w base g size q ob)) (hqs : q.length ≤ size) (hs6 : size ≤ 65536) (hbase : base ≤ w.heap.size) (_hb : Hid (SlB w w.heap.size A c b)) (_hA : Hid (b ≠ [] → ∀ a, A = some a → a.block ≠ g ∧ ob ≠ some a.block)) (bl : Nat) (hbl : Hid (b.length = bl)) (hs : Hid (stepF size 2 n b q = (out, m, q'))) (hl : Hid (out.length = l)) :
    Calls Try.prog 12 #[.pointer (some ⟨g, 0, none⟩), .agg #[.int .i64 2, .int .i64 n, .slice A bl c]] w fun e w' => ∃ A' c', e = .returned (.tuple #[.slice A' l c', .int .i64 m]) ∧ Hid (∃ ob', RStepR w w' base g size ob ob' out q' l A' c') := by
  have hb0 := hbl.out
  subst hb0
  have hlt := hr.out.lt
  have HRa := rf_al hr (.cells #[.int .i64 2, .int .i64 n, .slice A b.length c] 38)
  have hba : base ≤ (w.alloc (.cells #[.int .i64 2, .int .i64 n, .slice A b.length c] 38)).heap.size := by simp; omega
  have hq6 : q.length ≤ 65536 := by omega
  have hs0 := hs.out
  rw [stepF, if_neg (by decide), if_pos rfl] at hs0
  injection hs0 with e1 e2
  injection e2 with e2 e3
  have hl0 := hl.out
  have E1 := hid e1
  have E2 := hid e2
  have E3 := hid e3
  clear e1 e2 e3
  go_enter Try.func12, Try.ntmps12
  go_wp2_with (first
    | (go_at_call 23
       ((with_reducible refine (rread_any _ n HRa hq6 hba).mono ?_); rintro e w2 ⟨A2, c2, rfl, HO2, HD⟩)))
  go_ret2
  have e1 := E1.out
  have hl1 : l = had n q.length := by
    rw [← hl0, ← e1, List.length_take]
    have := had_le n q.length
    omega
  have e2 := E2.out
  subst hl1
  subst e2
  obtain ⟨⟨ob2, h1, h2⟩, h3⟩ := HD.out
  refine ⟨A2, c2, rfl, ob2, ⟨?_, ?_, fun x hx => .inr (by have h := h2 x hx; simp at h; omega), but_al0 (h3.mono g_in)⟩⟩
  · rw [← e1]; exact own_al HO2.out
  · rw [← E3.out]; exact h1
set_option maxHeartbeats 2000000 in
set_option maxRecDepth 100000 in
theorem rdo_3 (w : World) {base g size c l m : Nat} {q b out q' : List UInt8} {A : Option Addr} {ob : Option Nat} (n : Int) (hr : Hid (Rf w base g size q ob)) (hqs : q.length ≤ size) (hs6 : size ≤ 65536) (hbase : base ≤ w.heap.size) (_hb : Hid (SlB w w.heap.size A c b)) (_hA : Hid (b ≠ [] → ∀ a, A = some a → a.block ≠ g ∧ ob ≠ some a.block)) (bl : Nat) (hbl : Hid (b.length = bl)) (hs : Hid (stepF size 3 n b q = (out, m, q'))) (hl : Hid (out.length = l)) :
    Calls Try.prog 12 #[.pointer (some ⟨g, 0, none⟩), .agg #[.int .i64 3, .int .i64 n, .slice A bl c]] w fun e w' => ∃ A' c', e = .returned (.tuple #[.slice A' l c', .int .i64 m]) ∧ Hid (∃ ob', RStepR w w' base g size ob ob' out q' l A' c') := by
  have hb0 := hbl.out
  subst hb0
  have hlt := hr.out.lt
  have HRa := rf_al hr (.cells #[.int .i64 3, .int .i64 n, .slice A b.length c] 38)
  have hba : base ≤ (w.alloc (.cells #[.int .i64 3, .int .i64 n, .slice A b.length c] 38)).heap.size := by simp; omega
  have hq6 : q.length ≤ 65536 := by omega
  have hs0 := hs.out
  rw [stepF, if_neg (by decide), if_neg (by decide), if_pos rfl] at hs0
  injection hs0 with e1 e2
  injection e2 with e2 e3
  have hl0 := hl.out
  have E1 := hid e1
  have E2 := hid e2
  have E3 := hid e3
  clear e1 e2 e3
  go_enter Try.func12, Try.ntmps12
  go_wp2_with (first
    | (go_at_call 24
       ((with_reducible refine (rpeek_any _ n HRa hq6).mono ?_); rintro e w2 ⟨A2, c2, rfl, HO2, HB2⟩)))
  go_ret2
  have e1 := E1.out
  have hl1 : l = had n q.length := by
    rw [← hl0, ← e1, List.length_take]
    have := had_le n q.length
    omega
  have e2 := E2.out
  subst hl1
  subst e2
  refine ⟨A2, c2, rfl, ob, ⟨?_, ?_, fun x hx => .inl hx, but_al0 (But.of_below HB2.out _)⟩⟩
  · rw [← e1]; exact own_al HO2.out
  · rw [← E3.out]; exact HRa.out.keep (But.of_below HB2.out []) (by simp) (by simp)
set_option maxHeartbeats 2000000 in
set_option maxRecDepth 100000 in
theorem rdo_4 (w : World) {base g size c l m : Nat} {q b out q' : List UInt8} {A : Option Addr} {ob : Option Nat} (n : Int) (hr : Hid (Rf w base g size q ob)) (hqs : q.length ≤ size) (hs6 : size ≤ 65536) (hbase : base ≤ w.heap.size) (_hb : Hid (SlB w w.heap.size A c b)) (_hA : Hid (b ≠ [] → ∀ a, A = some a → a.block ≠ g ∧ ob ≠ some a.block)) (bl : Nat) (hbl : Hid (b.length = bl)) (hs : Hid (stepF size 4 n b q = (out, m, q'))) (hl : Hid (out.length = l)) :
    Calls Try.prog 12 #[.pointer (some ⟨g, 0, none⟩), .agg #[.int .i64 4, .int .i64 n, .slice A bl c]] w fun e w' => ∃ A' c', e = .returned (.tuple #[.slice A' l c', .int .i64 m]) ∧ Hid (∃ ob', RStepR w w' base g size ob ob' out q' l A' c') := by
  have hb0 := hbl.out
  subst hb0
  have hlt := hr.out.lt
  have HRa := rf_al hr (.cells #[.int .i64 4, .int .i64 n, .slice A b.length c] 38)
  have hba : base ≤ (w.alloc (.cells #[.int .i64 4, .int .i64 n, .slice A b.length c] 38)).heap.size := by simp; omega
  have hq6 : q.length ≤ 65536 := by omega
  have hs0 := hs.out
  rw [stepF, if_neg (by decide), if_neg (by decide), if_neg (by decide), if_pos rfl] at hs0
  injection hs0 with e1 e2
  injection e2 with e2 e3
  have hl0 := hl.out
  have E1 := hid e1
  have E2 := hid e2
  have E3 := hid e3
  clear e1 e2 e3
  go_enter Try.func12, Try.ntmps12
  go_wp2_with (first
    | (go_at_call 25
       ((with_reducible refine (rdrop_any _ n HRa hq6 hba).mono ?_); rintro e w2 ⟨rfl, HD⟩)))
  go_ret2
  have e1 := E1.out
  subst e1
  have hl1 : l = 0 := by rw [← hl0]; rfl
  subst hl1
  have e2 := E2.out
  subst e2
  obtain ⟨⟨ob2, h1, h2⟩, h3⟩ := HD.out
  refine ⟨none, 0, rfl, ob2, ⟨World.ownsRow_nil _ _ _ _, ?_, fun x hx => .inr (by have h := h2 x hx; simp at h; omega), but_al0 (h3.mono g_in)⟩⟩
  rw [← E3.out]
  exact h1
set_option maxHeartbeats 2000000 in
set_option maxRecDepth 100000 in
theorem rdo_5 (w : World) {base g size c l m : Nat} {q b out q' : List UInt8} {A : Option Addr} {ob : Option Nat} (n : Int) (hr : Hid (Rf w base g size q ob)) (hqs : q.length ≤ size) (hs6 : size ≤ 65536) (hbase : base ≤ w.heap.size) (_hb : Hid (SlB w w.heap.size A c b)) (_hA : Hid (b ≠ [] → ∀ a, A = some a → a.block ≠ g ∧ ob ≠ some a.block)) (bl : Nat) (hbl : Hid (b.length = bl)) (hs : Hid (stepF size 5 n b q = (out, m, q'))) (hl : Hid (out.length = l)) :
    Calls Try.prog 12 #[.pointer (some ⟨g, 0, none⟩), .agg #[.int .i64 5, .int .i64 n, .slice A bl c]] w fun e w' => ∃ A' c', e = .returned (.tuple #[.slice A' l c', .int .i64 m]) ∧ Hid (∃ ob', RStepR w w' base g size ob ob' out q' l A' c') := by
  have hb0 := hbl.out
  subst hb0
  have hlt := hr.out.lt
  have HRa := rf_al hr (.cells #[.int .i64 5, .int .i64 n, .slice A b.length c] 38)
  have hba : base ≤ (w.alloc (.cells #[.int .i64 5, .int .i64 n, .slice A b.length c] 38)).heap.size := by simp; omega
  have hq6 : q.length ≤ 65536 := by omega
  have hs0 := hs.out
  rw [stepF, if_neg (by decide), if_neg (by decide), if_neg (by decide), if_neg (by decide), if_pos rfl] at hs0
  injection hs0 with e1 e2
  injection e2 with e2 e3
  have hl0 := hl.out
  have E1 := hid e1
  have E2 := hid e2
  have E3 := hid e3
  clear e1 e2 e3
  obtain ⟨A0, c0, hx0, hown0, hob⟩ := hr.out
  have hx1 := box_below hx0 ((Below.refl _ _).alloc (Nat.le_refl _) (.cells #[.int .i64 5, .int .i64 n, .slice A b.length c] 38))
  have c1 := hx1.cell 1
  have f1 := hx1.frozen 1
  have HX := hid hx0
  clear hx1
  clear hx0 hown0 hob
  go_enter Try.func12, Try.ntmps12
  go_wp2
  go_ret2
  have e1 := E1.out
  subst e1
  have hl1 : l = 0 := by rw [← hl0]; rfl
  subst hl1
  have e2 := E2.out
  subst e2
  refine ⟨none, 0, rfl, none, ⟨World.ownsRow_nil _ _ _ _, ?_, fun x hx => (by cases hx), ((But.refl _ _).store (.inl (by simp)) _).alloc _⟩⟩
  rw [← E3.out]
  refine ⟨none, 0, ?_, World.ownsRow_nil _ _ _ _, rfl⟩
  have hz := box_below (HX.out.store 1 (.slice none 0 0)) ((Below.refl _ _).alloc (Nat.le_refl _) (.cells #[.int .i64 5, .int .i64 n, .slice A b.length c] 38))
  simpa using hz
set_option maxHeartbeats 2000000 in
set_option maxRecDepth 100000 in
theorem rdo_else (w : World) {base g size c l m : Nat} {q b out q' : List UInt8} {A : Option Addr} {ob : Option Nat} (k n : Int) (hk : k ≠ 1 ∧ k ≠ 2 ∧ k ≠ 3 ∧ k ≠ 4 ∧ k ≠ 5) (hr : Hid (Rf w base g size q ob)) (hqs : q.length ≤ size) (hs6 : size ≤ 65536) (hbase : base ≤ w.heap.size) (_hb : Hid (SlB w w.heap.size A c b)) (_hA : Hid (b ≠ [] → ∀ a, A = some a → a.block ≠ g ∧ ob ≠ some a.block)) (bl : Nat) (hbl : Hid (b.length = bl)) (hs : Hid (stepF size k n b q = (out, m, q'))) (hl : Hid (out.length = l)) :
    Calls Try.prog 12 #[.pointer (some ⟨g, 0, none⟩), .agg #[.int .i64 k, .int .i64 n, .slice A bl c]] w fun e w' => ∃ A' c', e = .returned (.tuple #[.slice A' l c', .int .i64 m]) ∧ Hid (∃ ob', RStepR w w' base g size ob ob' out q' l A' c') := by
  have hb0 := hbl.out
  subst hb0
  have hlt := hr.out.lt
  have HRa := rf_al hr (.cells #[.int .i64 k, .int .i64 n, .slice A b.length c] 38)
  have hba : base ≤ (w.alloc (.cells #[.int .i64 k, .int .i64 n, .slice A b.length c] 38)).heap.size := by simp; omega
  have hq6 : q.length ≤ 65536 := by omega
  have hs0 := hs.out
  obtain ⟨n1, n2, n3, n4, n5⟩ := hk
  rw [stepF, if_neg n1, if_neg n2, if_neg n3, if_neg n4, if_neg n5] at hs0
  injection hs0 with e1 e2
  injection e2 with e2 e3
  have hl0 := hl.out
  have E1 := hid e1
  have E2 := hid e2
  have E3 := hid e3
  clear e1 e2 e3
  have m1 : (k == 1) = false := by simpa using n1
  have m2 : (k == 2) = false := by simpa using n2
  have m3 : (k == 3) = false := by simpa using n3
  have m4 : (k == 4) = false := by simpa using n4
  have m5 : (k == 5) = false := by simpa using n5
  go_enter Try.func12, Try.ntmps12
  go_wp2
  go_ret2
  have e1 := E1.out
  subst e1
  have hl1 : l = 0 := by rw [← hl0]; rfl
  subst hl1
  have e2 := E2.out
  subst e2
  refine ⟨none, 0, rfl, ob, ⟨World.ownsRow_nil _ _ _ _, ?_, fun x hx => .inl hx, (But.refl _ _).alloc _⟩⟩
  rw [← E3.out]
  exact HRa.out
theorem rdo_any (w : World) {base g size c l m : Nat} {q b out q' : List UInt8} {A : Option Addr} {ob : Option Nat} (k n : Int) (hr : Hid (Rf w base g size q ob)) (hqs : q.length ≤ size) (hs6 : size ≤ 65536) (hbase : base ≤ w.heap.size) (hb : Hid (SlB w w.heap.size A c b)) (hA : Hid (b ≠ [] → ∀ a, A = some a → a.block ≠ g ∧ ob ≠ some a.block)) (bl : Nat) (hbl : Hid (b.length = bl)) (hs : Hid (stepF size k n b q = (out, m, q'))) (hl : Hid (out.length = l)) :
    Calls Try.prog 12 #[.pointer (some ⟨g, 0, none⟩), .agg #[.int .i64 k, .int .i64 n, .slice A bl c]] w fun e w' => ∃ A' c', e = .returned (.tuple #[.slice A' l c', .int .i64 m]) ∧ Hid (∃ ob', RStepR w w' base g size ob ob' out q' l A' c') := by
  by_cases k1 : k = 1
  · subst k1; exact rdo_1 w n hr hqs hs6 hbase hb hA bl hbl hs hl
  by_cases k2 : k = 2
  · subst k2; exact rdo_2 w n hr hqs hs6 hbase hb hA bl hbl hs hl
  by_cases k3 : k = 3
  · subst k3; exact rdo_3 w n hr hqs hs6 hbase hb hA bl hbl hs hl
  by_cases k4 : k = 4
  · subst k4; exact rdo_4 w n hr hqs hs6 hbase hb hA bl hbl hs hl
  by_cases k5 : k = 5
  · subst k5; exact rdo_5 w n hr hqs hs6 hbase hb hA bl hbl hs hl
  exact rdo_else w k n ⟨k1, k2, k3, k4, k5⟩ hr hqs hs6 hbase hb hA bl hbl hs hl
end Go.Proofs.Ytidgbojgdllghaa
