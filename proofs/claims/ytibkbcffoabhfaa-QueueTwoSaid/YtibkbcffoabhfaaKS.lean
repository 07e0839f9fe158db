import Derived.Test.YtibkbcffoabhfaaKN
namespace Go.Proofs.Ytibkbcffoabhfaa
open Go.RowKit

abbrev Tt : Nat → Prop := fun _ => True
/-- Two queues share no block. -/
def Ap (g : Nat) (r : Option Nat) (g' : Nat) (r' : Option Nat) : Prop := g ≠ g' ∧ ∀ x, r = some x → r' ≠ some x
theorem Ap.symm {g g' : Nat} {r r' : Option Nat} (h : Ap g r g' r') : Ap g' r' g r := ⟨Ne.symm h.1, fun x hx e => h.2 x e hx⟩
/-- Four queues. -/
structure Fq (w2 w : World) (C : Cf) (g1 : Nat) (r1 : Option Nat) (L1 : List (List UInt8)) (o1 : Bool) (g2 : Nat) (r2 : Option Nat) (L2 : List (List UInt8)) (o2 : Bool) (g3 : Nat) (r3 : Option Nat) (L3 : List (List UInt8)) (o3 : Bool) (g4 : Nat) (r4 : Option Nat) (L4 : List (List UInt8)) (o4 : Bool) : Prop where
  q1 : Qu w Tt C g1 r1 L1 o1
  l1 : w2.heap.size ≤ g1 ∧ ∀ x, r1 = some x → w2.heap.size ≤ x
  q2 : Qu w Tt C g2 r2 L2 o2
  l2 : w2.heap.size ≤ g2 ∧ ∀ x, r2 = some x → w2.heap.size ≤ x
  q3 : Qu w Tt C g3 r3 L3 o3
  l3 : w2.heap.size ≤ g3 ∧ ∀ x, r3 = some x → w2.heap.size ≤ x
  q4 : Qu w Tt C g4 r4 L4 o4
  l4 : w2.heap.size ≤ g4 ∧ ∀ x, r4 = some x → w2.heap.size ≤ x
  a12 : Ap g1 r1 g2 r2
  a13 : Ap g1 r1 g3 r3
  a14 : Ap g1 r1 g4 r4
  a23 : Ap g2 r2 g3 r3
  a24 : Ap g2 r2 g4 r4
  a34 : Ap g3 r3 g4 r4
  bel : Below w2.heap.size w2 w
section
variable {w2 w w' : World} {C : Cf} {g1 g2 g3 g4 : Nat} {r1 r2 r3 r4 : Option Nat} {L1 L2 L3 L4 L' : List (List UInt8)} {o1 o2 o3 o4 ov' : Bool}
theorem Fq.p2 (f : Fq w2 w C g1 r1 L1 o1 g2 r2 L2 o2 g3 r3 L3 o3 g4 r4 L4 o4) : Fq w2 w C g2 r2 L2 o2 g1 r1 L1 o1 g3 r3 L3 o3 g4 r4 L4 o4 := ⟨f.q2, f.l2, f.q1, f.l1, f.q3, f.l3, f.q4, f.l4, f.a12.symm, f.a23, f.a24, f.a13, f.a14, f.a34, f.bel⟩
theorem Fq.p3 (f : Fq w2 w C g1 r1 L1 o1 g2 r2 L2 o2 g3 r3 L3 o3 g4 r4 L4 o4) : Fq w2 w C g3 r3 L3 o3 g2 r2 L2 o2 g1 r1 L1 o1 g4 r4 L4 o4 := ⟨f.q3, f.l3, f.q2, f.l2, f.q1, f.l1, f.q4, f.l4, f.a23.symm, f.a13.symm, f.a34, f.a12.symm, f.a24, f.a14, f.bel⟩
theorem Fq.p4 (f : Fq w2 w C g1 r1 L1 o1 g2 r2 L2 o2 g3 r3 L3 o3 g4 r4 L4 o4) : Fq w2 w C g4 r4 L4 o4 g2 r2 L2 o2 g3 r3 L3 o3 g1 r1 L1 o1 := ⟨f.q4, f.l4, f.q2, f.l2, f.q3, f.l3, f.q1, f.l1, f.a24.symm, f.a34.symm, f.a14.symm, f.a23, f.a12.symm, f.a13.symm, f.bel⟩
theorem Fq.keep (f : Fq w2 w C g1 r1 L1 o1 g2 r2 L2 o2 g3 r3 L3 o3 g4 r4 L4 o4) (k : But [] w w') (hb : Below w2.heap.size w2 w') : Fq w2 w' C g1 r1 L1 o1 g2 r2 L2 o2 g3 r3 L3 o3 g4 r4 L4 o4 :=
  ⟨f.q1.keep0 k, f.l1, f.q2.keep0 k, f.l2, f.q3.keep0 k, f.l3, f.q4.keep0 k, f.l4, f.a12, f.a13, f.a14, f.a23, f.a24, f.a34, hb⟩
theorem Fq.below (f : Fq w2 w C g1 r1 L1 o1 g2 r2 L2 o2 g3 r3 L3 o3 g4 r4 L4 o4) (k : Below w.heap.size w w') : Fq w2 w' C g1 r1 L1 o1 g2 r2 L2 o2 g3 r3 L3 o3 g4 r4 L4 o4 := f.keep (But.of_below k []) (f.bel.trans (k.mono f.bel.size))
theorem ap_other {w : World} {S S' : Nat → Prop} {C : Cf} {g g' : Nat} {r r' : Option Nat} {L L2 : List (List UInt8)} {o o2 : Bool} (hq : Qu w S C g r L o) (hq' : Qu w S' C g' r' L2 o2) (ha : Ap g r g' r') : g' ∉ g :: r.toList ∧ ∀ x, r' = some x → x ∉ g :: r.toList := by
  obtain ⟨A, c, h1, h2⟩ := hq.body
  obtain ⟨A', c', h1', h2'⟩ := hq'.body
  refine ⟨fun hm => ?_, fun x hx hm => ?_⟩
  · rcases List.mem_cons.1 hm with e | e
    · exact ha.1 e.symm
    · obtain ⟨cs, hb⟩ := h2.box g' (by simpa using e)
      exact box_ne h1' hb (by decide) rfl
  · obtain ⟨cs, hb⟩ := h2'.box x hx
    rcases List.mem_cons.1 hm with e | e
    · subst e
      exact box_ne h1 hb (by decide) rfl
    · exact ha.2 x (by simpa using e) hx
theorem Fq.step (f : Fq w2 w C g1 r1 L1 o1 g2 r2 L2 o2 g3 r3 L3 o3 g4 r4 L4 o4) (hq : ∃ rb', Qu w' Tt C g1 rb' L' ov' ∧ ∀ x, rb' = some x → r1 = some x ∨ w.heap.size ≤ x) (k : But (g1 :: r1.toList) w w') : ∃ r1', Fq w2 w' C g1 r1' L' ov' g2 r2 L2 o2 g3 r3 L3 o3 g4 r4 L4 o4 := by
  obtain ⟨rb', hq, hx⟩ := hq
  have ht := f.q1.types
  have hz := f.bel.size
  have e2 := ap_other f.q1 f.q2 f.a12
  have e3 := ap_other f.q1 f.q3 f.a13
  have e4 := ap_other f.q1 f.q4 f.a14
  have key : ∀ (g' : Nat) (r' : Option Nat), Ap g1 r1 g' r' → (∀ x, r' = some x → x < w.heap.size) → Ap g1 rb' g' r' := fun g' r' ha hlt => ⟨ha.1, fun x hxx e => by
    rcases hx x hxx with e1 | e1
    · exact ha.2 x e1 e
    · have := hlt x e
      omega⟩
  refine ⟨rb', hq, ⟨f.l1.1, fun x hxx => ?_⟩, f.q2.other k e2.1 e2.2 ht, f.l2, f.q3.other k e3.1 e3.2 ht, f.l3, f.q4.other k e4.1 e4.2 ht, f.l4, key _ _ f.a12 f.q2.lt.2, key _ _ f.a13 f.q3.lt.2, key _ _ f.a14 f.q4.lt.2, f.a23, f.a24, f.a34, ?_⟩
  · rcases hx x hxx with e | e
    · exact f.l1.2 x e
    · omega
  · refine f.bel.trans (k.below hz (fun x hm => ?_))
    rcases List.mem_cons.1 hm with rfl | hm
    · exact f.l1.1
    · exact f.l1.2 x (by simpa using hm)
end
theorem bytes_q (w : World) (A A2 : Option Addr) (c c2 n n2 : Nat) (xs ys : List UInt8) (d : Bool) (hx : Hid (Lies w w.heap.size A (bv xs))) (hy : Hid (Lies w w.heap.size A2 (bv ys))) (hn : Hid (xs.length = n)) (hn2 : Hid (ys.length = n2)) (hl : n ≤ maxLen) (hl2 : n2 ≤ maxLen) (hd : Hid (decide (xs = ys) = d)) :
    Calls Try.prog 13 #[.slice A n c, .slice A2 n2 c2] w fun e w' => ∃ k, e = .returned (.bool d) ∧ w' = w.drewN k := by
  have h1 := hn.out
  have h2 := hn2.out
  subst h1; subst h2
  have h3 := hd.out
  subst h3
  refine (bytes_any w w.heap.size w.heap.size A A2 c c2 xs ys hx.out hy.out hl hl2).mono ?_
  rintro e w' ⟨rfl, k, rfl⟩
  exact ⟨k, rfl, rfl⟩
theorem do_len {C : Cf} {k : Int} {b out : List UInt8} {L L' : List (List UInt8)} {ov ok ov' : Bool} (hs : sumB L ≤ C.b) (hp : doF C k b L ov = (out, ok, L', ov')) : out.length ≤ C.b := by
  have hf : ∀ L : List (List UInt8), sumB L ≤ C.b → (frontF L).1.length ≤ C.b := fun L h => by
    cases L with
    | nil => simp [frontF]
    | cons x r => rw [sumB] at h; simp only [frontF]; omega
  unfold doF at hp
  split at hp
  · simp only [Prod.mk.injEq] at hp
    obtain ⟨rfl, _⟩ := hp
    simp
  · split at hp
    · unfold popF at hp
      split at hp
      · simp only [Prod.mk.injEq] at hp
        obtain ⟨rfl, _⟩ := hp
        simp
      · simp only [Prod.mk.injEq] at hp
        obtain ⟨rfl, _⟩ := hp
        rw [sumB] at hs
        omega
    · split at hp
      · simp only [Prod.mk.injEq] at hp
        obtain ⟨rfl, _⟩ := hp
        exact hf L hs
      · simp only [Prod.mk.injEq] at hp
        obtain ⟨rfl, _⟩ := hp
        simp

set_option maxHeartbeats 4000000 in
set_option maxRecDepth 100000 in
theorem two_great (w : World) (b r h lo : Int) (A A2 : Option Addr) (c n c2 n2 : Nat) (l : List OpV) (hl : Hid (OpsV w w.heap.size A l)) (hn : Hid (l.length = n)) (hl2 : n ≤ maxLen) (hg : Hid (greatO l = true)) :
    Calls Try.prog 6 #[.agg #[.int .i64 b, .int .i64 r, .int .i64 h, .int .i64 lo], .slice A n c, .slice A2 n2 c2] w fun e w' => e = .returned (.bool true) ∧ Hid (Below w.heap.size w w') := by
  have HB0 : Hid (Below w.heap.size w (w.alloc (.cells #[.int .i64 b, .int .i64 r, .int .i64 h, .int .i64 lo] 23))) := (Below.refl _ _).alloc (Nat.le_refl _) _
  have HL0 := ops_at hl HB0
  go_enter Try.func6, Try.ntmps6
  go_wp2_with (first
    | (go_at_call 7
       ((with_reducible refine (alive_any _).mono ?_); rintro e w1 ⟨rfl, HB1⟩)
       have HL1 : Hid (OpsV w1 w1.heap.size A l) := ops_at HL0 HB1)
    | (go_at_call 8
       ((with_reducible refine (great_any _ A c n l true HL1 hn hl2 hg).mono ?_); rintro e w2 ⟨rfl, HB2⟩)))
  go_ret
  exact ⟨rfl, (bel_trans HB0 (bel_trans HB1 HB2)).out⟩
set_option maxHeartbeats 4000000 in
set_option maxRecDepth 100000 in
theorem two_bad (w : World) (b r h lo : Int) (A A2 : Option Addr) (c n c2 n2 : Nat) (l : List OpV) (hl : Hid (OpsV w w.heap.size A l)) (hn : Hid (l.length = n)) (hl2 : n ≤ maxLen) (hg : Hid (greatO l = false)) (hs : ¬ okI b r h lo) :
    Calls Try.prog 6 #[.agg #[.int .i64 b, .int .i64 r, .int .i64 h, .int .i64 lo], .slice A n c, .slice A2 n2 c2] w fun e w' => e = .returned (.bool true) ∧ Hid (Below w.heap.size w w') := by
  have HB0 : Hid (Below w.heap.size w (w.alloc (.cells #[.int .i64 b, .int .i64 r, .int .i64 h, .int .i64 lo] 23))) := (Below.refl _ _).alloc (Nat.le_refl _) _
  have HX0 : Hid (Box (w.alloc (.cells #[.int .i64 b, .int .i64 r, .int .i64 h, .int .i64 lo] 23)) w.heap.size 23 #[.int .i64 b, .int .i64 r, .int .i64 h, .int .i64 lo]) := Box.new _ _ _
  have HL0 := ops_at hl HB0
  go_enter Try.func6, Try.ntmps6
  go_wp2_with (first
    | (go_at_call 7
       ((with_reducible refine (alive_any _).mono ?_); rintro e w1 ⟨rfl, HB1⟩)
       have HL1 : Hid (OpsV w1 w1.heap.size A l) := ops_at HL0 HB1
       have hx1 := hid (box_below HX0.out HB1.out))
    | (go_at_call 8
       ((with_reducible refine (great_any _ A c n l false HL1 hn hl2 hg).mono ?_); rintro e w2 ⟨rfl, HB2⟩)
       have hx2 := hid (box_below hx1.out HB2.out)
       have c0 := hx2.out.cell 0
       have c1 := hx2.out.cell 1
       have c2 := hx2.out.cell 2
       have c3 := hx2.out.cell 3
       have HBw2 := bel_trans HB0 (bel_trans HB1 HB2))
    | (go_at_call 9
       ((with_reducible refine (made_bad _ b r h lo hs).mono ?_); rintro e w3 ⟨rfl, HB3⟩)
       have hx3 := hid (box_below hx2.out HB3.out)
       have c30 := hx3.out.cell 0
       have c31 := hx3.out.cell 1
       have c32 := hx3.out.cell 2
       have c33 := hx3.out.cell 3)
    | (go_at_call 9
       ((with_reducible refine (made_bad _ b r h lo hs).mono ?_); rintro e w4 ⟨rfl, HB4⟩)
       have hx4 := hid (box_below hx3.out HB4.out)
       have c40 := hx4.out.cell 0
       have c41 := hx4.out.cell 1
       have c42 := hx4.out.cell 2
       have c43 := hx4.out.cell 3)
    | (go_at_call 9
       ((with_reducible refine (made_bad _ b r h lo hs).mono ?_); rintro e w5 ⟨rfl, HB5⟩)
       have hx5 := hid (box_below hx4.out HB5.out)
       have c50 := hx5.out.cell 0
       have c51 := hx5.out.cell 1
       have c52 := hx5.out.cell 2
       have c53 := hx5.out.cell 3)
    | (go_at_call 9
       ((with_reducible refine (made_bad _ b r h lo hs).mono ?_); rintro e w6 ⟨rfl, HB6⟩)))
  go_ret
  exact ⟨rfl, (bel_trans HBw2 (bel_trans HB3 (bel_trans HB4 (bel_trans HB5 HB6)))).out⟩
end Go.Proofs.Ytibkbcffoabhfaa
