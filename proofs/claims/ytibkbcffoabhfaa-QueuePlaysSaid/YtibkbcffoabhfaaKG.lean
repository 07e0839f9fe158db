import Derived.Test.YtibkbcffoabhfaaKF
namespace Go.Proofs.Ytibkbcffoabhfaa
open Go.RowKit

/-- What a step answers, and what waits behind it. -/
def doF (C : Cf) (k : Int) (b : List UInt8) (L : List (List UInt8)) (ov : Bool) : List UInt8 × Bool × List (List UInt8) × Bool :=
  if k = 1 then ([], pushF C L ov b)
  else if k = 2 then popF C L ov
  else if k = 3 then ((frontF L).1, (frontF L).2, L, ov)
  else ([], false, L, ov)
theorem slb_al {w : World} {A : Option Addr} {c : Nat} {bs : List UInt8} (h : Hid (SlB w w.heap.size A c bs)) (o : Obj) : Hid (SlB (w.alloc o) (w.alloc o).heap.size A c bs) :=
  slb_at h (hid ((Below.refl w.heap.size w).alloc (Nat.le_refl _) o))
theorem qu_al {w : World} {S : Nat → Prop} {C : Cf} {g : Nat} {rb : Option Nat} {L : List (List UInt8)} {ov : Bool} (hq : Hid (Qu w S C g rb L ov)) (o : Obj) : Hid (Qu (w.alloc o) S C g rb L ov) :=
  hq.out.keep0 ((But.refl [] w).alloc o)
theorem but_al {L : List Nat} {w w' : World} {o : Obj} (h : But L (w.alloc o) w') : But L w w' := ((But.refl L w).alloc o).same h
theorem own_al {w w' : World} {o : Obj} {e : TypeId} {n : Nat} {v : Value} {xs : List Value} (h : w'.ownsRow (w.alloc o).heap.size e 1 v n xs) : w'.ownsRow w.heap.size e 1 v n xs := own_mono h (by simp)
/-- What a step answers, in a world. -/
structure DoR (w w' : World) (S : Nat → Prop) (C : Cf) (g : Nat) (rb : Option Nat) (out : List UInt8) (L' : List (List UInt8)) (ov' : Bool) (l : Nat) (A : Option Addr) (c : Nat) : Prop where
  own : w'.ownsRow w.heap.size 5 1 (.slice A l c) l (bv out)
  qu : ∃ rb', Qu w' S C g rb' L' ov' ∧ ∀ x, rb' = some x → rb = some x ∨ w.heap.size ≤ x
  but : But (g :: rb.toList) w w'
theorem blk_al {w : World} {o : Obj} {rb rb' : Option Nat} (h : ∀ x, rb' = some x → rb = some x ∨ (w.alloc o).heap.size ≤ x) : ∀ x, rb' = some x → rb = some x ∨ w.heap.size ≤ x := fun x hx => (h x hx).imp id fun h1 => by simp at h1; omega

section
variable (w : World) {S : Nat → Prop} {C : Cf} {g c l bl : Nat} {rb : Option Nat} {L L' : List (List UInt8)} {b out : List UInt8} {A : Option Addr} {ov ok ov' : Bool}
set_option maxHeartbeats 2000000 in
set_option maxRecDepth 100000 in
theorem do_1 (hq : Hid (Qu w S C g rb L ov)) (hb : Hid (SlB w w.heap.size A c b)) (hbl : Hid (b.length = bl)) (hS : Hid (∀ x, w.heap.size ≤ x → S x)) (hp : Hid (doF C 1 b L ov = (out, ok, L', ov'))) (hl : Hid (out.length = l)) :
    Calls Try.prog 11 #[.pointer (some ⟨g, 0, none⟩), .agg #[.int .i64 1, .slice A bl c]] w fun e w' => ∃ A' c', e = .returned (.tuple #[.slice A' l c', .bool ok]) ∧ Hid (DoR w w' S C g rb out L' ov' l A' c') := by
  have hp' := hp.out
  rw [doF, if_pos rfl] at hp'
  injection hp' with e1 e2
  subst e1
  have e2 := hid e2
  have HQ := qu_al hq (.cells #[.int .i64 1, .slice A bl c] 36)
  have hb2 := slb_al hb (.cells #[.int .i64 1, .slice A bl c] 36)
  have HL : Hid (Lies (w.alloc (.cells #[.int .i64 1, .slice A bl c] 36)) (w.alloc (.cells #[.int .i64 1, .slice A bl c] 36)).heap.size A (bv b)) := hb2.out.2.2.2
  have HS2 : Hid (∀ x, (w.alloc (.cells #[.int .i64 1, .slice A bl c] 36)).heap.size ≤ x → S x) := fun x hx => hS.out x (by simp at hx; omega)
  have hm : bl ≤ maxLen := by have h1 := hb.out.1; have h2 := hb.out.2.1; rw [hbl.out] at h1; omega
  have hl0 := hl.out
  subst hl0
  clear hb2 hb hS hq hp
  go_enter Try.func11, Try.ntmps11
  go_wp2_with (first
    | (go_at_call 22
       ((with_reducible refine (push_any _ HQ hbl hm HL HS2 e2).mono ?_); rintro e w2 ⟨rfl, HP⟩)))
  go_ret2
  obtain ⟨⟨rb', h1, h2⟩, h3⟩ := HP.out
  exact ⟨none, 0, rfl, World.ownsRow_nil _ _ _ _, ⟨rb', h1, blk_al h2⟩, but_al h3⟩
set_option maxHeartbeats 2000000 in
set_option maxRecDepth 100000 in
theorem do_2 (hq : Hid (Qu w S C g rb L ov)) (hp : Hid (doF C 2 b L ov = (out, ok, L', ov'))) (hl : Hid (out.length = l)) :
    Calls Try.prog 11 #[.pointer (some ⟨g, 0, none⟩), .agg #[.int .i64 2, .slice A bl c]] w fun e w' => ∃ A' c', e = .returned (.tuple #[.slice A' l c', .bool ok]) ∧ Hid (DoR w w' S C g rb out L' ov' l A' c') := by
  have hp' := hp.out
  rw [doF, if_neg (by decide), if_pos rfl] at hp'
  have e2 := hid hp'
  have HQ := qu_al hq (.cells #[.int .i64 2, .slice A bl c] 36)
  clear hq hp hp'
  go_enter Try.func11, Try.ntmps11
  go_wp2_with (first
    | (go_at_call 19
       ((with_reducible refine (pop_any _ HQ e2 hl).mono ?_); rintro e w2 ⟨A2, c2, rfl, HO, HQ2, HK2⟩)))
  go_ret2
  exact ⟨A2, c2, rfl, own_al HO.out, ⟨rb, HQ2.out, fun x hx => .inl hx⟩, but_al HK2.out⟩
set_option maxHeartbeats 2000000 in
set_option maxRecDepth 100000 in
theorem do_3 (hq : Hid (Qu w S C g rb L ov)) (hp : Hid (doF C 3 b L ov = (out, ok, L', ov'))) (hl : Hid (out.length = l)) :
    Calls Try.prog 11 #[.pointer (some ⟨g, 0, none⟩), .agg #[.int .i64 3, .slice A bl c]] w fun e w' => ∃ A' c', e = .returned (.tuple #[.slice A' l c', .bool ok]) ∧ Hid (DoR w w' S C g rb out L' ov' l A' c') := by
  have hp' := hp.out
  rw [doF, if_neg (by decide), if_neg (by decide), if_pos rfl] at hp'
  injection hp' with e1 e2
  injection e2 with e2 e3
  injection e3 with e3 e4
  subst e3; subst e4
  have HF : Hid (frontF L = (out, ok)) := by
    show _ = _
    rw [← e1, ← e2]
  have HQ := qu_al hq (.cells #[.int .i64 3, .slice A bl c] 36)
  clear hq hp e1 e2
  go_enter Try.func11, Try.ntmps11
  go_wp2_with (first
    | (go_at_call 18
       ((with_reducible refine (front_any _ HQ HF hl).mono ?_); rintro e w2 ⟨A2, c2, rfl, HO, HB2⟩)))
  go_ret2
  exact ⟨A2, c2, rfl, own_al HO.out, ⟨rb, HQ.out.keep0 (But.of_below HB2.out _), fun x hx => .inl hx⟩, but_al (But.of_below HB2.out _)⟩
set_option maxHeartbeats 2000000 in
set_option maxRecDepth 100000 in
theorem do_else (k : Int) (hk : k ≠ 1 ∧ k ≠ 2 ∧ k ≠ 3) (hq : Hid (Qu w S C g rb L ov)) (hp : Hid (doF C k b L ov = (out, ok, L', ov'))) (hl : Hid (out.length = l)) :
    Calls Try.prog 11 #[.pointer (some ⟨g, 0, none⟩), .agg #[.int .i64 k, .slice A bl c]] w fun e w' => ∃ A' c', e = .returned (.tuple #[.slice A' l c', .bool ok]) ∧ Hid (DoR w w' S C g rb out L' ov' l A' c') := by
  have hp' := hp.out
  obtain ⟨n1, n2, n3⟩ := hk
  rw [doF, if_neg n1, if_neg n2, if_neg n3] at hp'
  injection hp' with e1 e2
  injection e2 with e2 e3
  injection e3 with e3 e4
  subst e1; subst e2; subst e3; subst e4
  have hl0 := hl.out
  subst hl0
  have HQ := qu_al hq (.cells #[.int .i64 k, .slice A bl c] 36)
  clear hq hp
  have m1 : (k == 1) = false := by simpa using n1
  have m2 : (k == 2) = false := by simpa using n2
  have m3 : (k == 3) = false := by simpa using n3
  go_enter Try.func11, Try.ntmps11
  go_wp2
  go_ret2
  exact ⟨none, 0, rfl, World.ownsRow_nil _ _ _ _, ⟨rb, HQ.out, fun x hx => .inl hx⟩, (But.refl _ _).alloc _⟩
theorem do_any (k : Int) (hq : Hid (Qu w S C g rb L ov)) (hb : Hid (SlB w w.heap.size A c b)) (hbl : Hid (b.length = bl)) (hS : Hid (k = 1 → ∀ x, w.heap.size ≤ x → S x)) (hp : Hid (doF C k b L ov = (out, ok, L', ov'))) (hl : Hid (out.length = l)) :
    Calls Try.prog 11 #[.pointer (some ⟨g, 0, none⟩), .agg #[.int .i64 k, .slice A bl c]] w fun e w' => ∃ A' c', e = .returned (.tuple #[.slice A' l c', .bool ok]) ∧ Hid (DoR w w' S C g rb out L' ov' l A' c') := by
  by_cases k1 : k = 1
  · subst k1; exact do_1 w hq hb hbl (hid (hS.out rfl)) hp hl
  by_cases k2 : k = 2
  · subst k2; exact do_2 w hq hp hl
  by_cases k3 : k = 3
  · subst k3; exact do_3 w hq hp hl
  exact do_else w k ⟨k1, k2, k3⟩ hq hp hl
set_option maxHeartbeats 2000000 in
set_option maxRecDepth 100000 in
theorem made_any (hok : Hid C.ok) : Calls Try.prog 9 #[.agg #[.int .i64 C.b, .int .i64 C.r, .int .i64 C.h, .int .i64 C.l]] w fun e w' => ∃ g, e = .returned (.tuple #[.pointer (some ⟨g, 0, none⟩), .int .i64 0]) ∧ Hid (∀ S, Qu w' S C g none [] false) ∧ w.heap.size ≤ g ∧ Hid (Below w.heap.size w w') := by
  obtain ⟨T, hT⟩ : ∃ T : Nat → Prop, T = fun _ => False := ⟨_, rfl⟩
  go_enter Try.func9, Try.ntmps9
  go_wp2_with (first
    | (go_at_call 21
       ((with_reducible refine (new_any _ T C hok).mono ?_); rintro e w2 ⟨g, rfl, HQ, hg, HB⟩)))
  go_ret2
  refine ⟨g, rfl, fun S => HQ.out.mono (fun x _ hx => by rw [hT] at hx; exact hx.elim), by simp at hg; omega, ?_⟩
  exact ((Below.refl w.heap.size w).alloc (Nat.le_refl _) _).trans (HB.out.mono (by simp))
set_option maxHeartbeats 2000000 in
set_option maxRecDepth 100000 in
theorem made_bad (b r h l : Int) (hb : ¬ okI b r h l) : Calls Try.prog 9 #[.agg #[.int .i64 b, .int .i64 r, .int .i64 h, .int .i64 l]] w fun e w' => e = .returned (.tuple #[.pointer none, .int .i64 2]) ∧ Hid (Below w.heap.size w w') := by
  go_enter Try.func9, Try.ntmps9
  go_wp2_with (first
    | (go_at_call 21
       ((with_reducible refine (new_bad _ b r h l hb).mono ?_); rintro e w2 ⟨rfl, rfl⟩)))
  go_ret2
  exact ⟨rfl, (Below.refl w.heap.size w).alloc (Nat.le_refl _) _⟩
end
end Go.Proofs.Ytibkbcffoabhfaa
