import Derived.Test.YtibkbcffoabhfaaKC
namespace Go.Proofs.Ytibkbcffoabhfaa
open Go.RowKit

def frontF : List (List UInt8) → List UInt8 × Bool
  | [] => ([], false)
  | b :: _ => (b, true)
theorem lies_in {w w' : World} {B B' : Nat} {A : Option Addr} {xs : List Value} (h : Lies w B A xs) (hb : Below B w w') (hB : B ≤ B') : Lies w' B' A xs := (h.below hb).more hB
section
variable (w : World)
set_option maxHeartbeats 1000000 in
set_option maxRecDepth 100000 in
theorem front_any {S : Nat → Prop} {C : Cf} {g n : Nat} {rb : Option Nat} {L : List (List UInt8)} {ov ok : Bool} {out : List UInt8} (hq : Hid (Qu w S C g rb L ov)) (hf : Hid (frontF L = (out, ok))) (hn : Hid (out.length = n)) :
    Calls Try.prog 18 #[.pointer (some ⟨g, 0, none⟩)] w fun e w' => ∃ A' c', e = .returned (.tuple #[.slice A' n c', .bool ok]) ∧ Hid (w'.ownsRow w.heap.size 5 1 (.slice A' n c') n (bv out)) ∧ Hid (Below w.heap.size w w') := by
  obtain ⟨m, HM⟩ : ∃ m, Hid (L.length = m) := ⟨_, hid rfl⟩
  cases L with
  | nil =>
    have e := hf.out
    rw [frontF] at e
    injection e with e1 e2
    subst e1; subst e2
    have hn0 := hn.out
    have e3 : n = 0 := by rw [← hn0]; rfl
    subst e3
    go_enter Try.func18, Try.ntmps18
    go_wp2_with (first
      | (go_at_call 14
         ((with_reducible refine (count_any _ (n := 0) (hid rfl) hq).mono ?_); rintro e w2 ⟨rfl, rfl⟩)))
    go_ret2
    exact ⟨none, 0, rfl, World.ownsRow_nil _ _ _ _, Below.refl _ _⟩
  | cons b L =>
    have e := hf.out
    rw [frontF] at e
    injection e with e1 e2
    subst e1; subst e2
    obtain ⟨A, c, h1, h2⟩ := hq.out.body
    have hsum := hq.out.sum
    have hok := hq.out.ok
    unfold Cf.ok at hok
    rw [HM.out] at h1 h2
    have hm : m = L.length + 1 := by rw [← HM.out]; rfl
    have hmi : ((m : Int) == 0) = false := by simp; omega
    have hmi2 : ¬ ((m : Int) = 0) := by omega
    have hml := h2.le
    have c2 := h1.cell 2
    unfold quC at c2
    rcases h2.row with ⟨_, e, _⟩ | ⟨r, f, cur, rfl, _, hb, hs, he⟩
    · omega
    · obtain ⟨u, hu, tA, tc, rfl, ho, _⟩ := he 0 (by simp)
      have cr : w.cell? ⟨r, f, none⟩ = some (.slice tA n tc) := by
        rw [hb.cell]
        rw [← hn.out]
        simpa using hu
      have hl : n ≤ 100000 := by rw [sumB] at hsum; have := hn.out; omega
      have HL : Hid (Lies w w.heap.size tA (bv b)) := Lies.own (e := 5) (by simpa using ho)
      have i0 : (0 : Int) < m := by omega
      clear hu he h1 h2 ho hb
      go_enter Try.func18, Try.ntmps18
      go_wp2_with (first
        | (go_at_call 14
           ((with_reducible refine (count_any _ HM hq).mono ?_); rintro e w2 ⟨rfl, rfl⟩))
        | (go_at_call 26
           ((with_reducible refine (copied_any _ HL hn hl).mono ?_); rintro e w3 ⟨A3, c3, rfl, HO3, HB3⟩)))
      go_ret2
      exact ⟨A3, c3, rfl, HO3, HB3⟩
end

/-- What the stores of Pop make. -/
theorem pop_boxes {w : World} {S : Nat → Prop} {C : Cf} {g n c c' r f s s1 : Nat} {cur : Array Value} {ov : Bool} {L : List (List UInt8)} {b : List UInt8} (h1 : Box w g 57 (quC C g (.slice (some ⟨r, f, none⟩) (n + 1) c) s ov)) (h2 : Wn w S (some ⟨r, f, none⟩) (n + 1) c (some r) (b :: L)) (hb : Box w r 34 cur) (hc' : c' = c - 1) (A' : Addr) (hA : A' = if c = 1 then ⟨r, f, none⟩ else ⟨r, f + 1, none⟩) :
    Box (w.setCell ⟨r, f, none⟩ (.slice none 0 0)) g 57 (quC C g (.slice (some ⟨r, f, none⟩) (n + 1) c) s ov) ∧
    Box ((w.setCell ⟨r, f, none⟩ (.slice none 0 0)).setCell ⟨g, 2, none⟩ (.slice (some A') n c')) g 57 (quC C g (.slice (some A') n c') s ov) ∧
    Box (((w.setCell ⟨r, f, none⟩ (.slice none 0 0)).setCell ⟨g, 2, none⟩ (.slice (some A') n c')).setCell ⟨g, 3, none⟩ (.int .i64 s1)) g 57 (quC C g (.slice (some A') n c') s1 ov) ∧
    Wn (((w.setCell ⟨r, f, none⟩ (.slice none 0 0)).setCell ⟨g, 2, none⟩ (.slice (some A') n c')).setCell ⟨g, 3, none⟩ (.int .i64 s1)) S (some A') n c' (some r) L ∧
    But (g :: (some r).toList) w (((w.setCell ⟨r, f, none⟩ (.slice none 0 0)).setCell ⟨g, 2, none⟩ (.slice (some A') n c')).setCell ⟨g, 3, none⟩ (.int .i64 s1)) := by
  have hne : g ≠ r := box_ne h1 hb (by decide)
  have k1 : But [r] w (w.setCell ⟨r, f, none⟩ (.slice none 0 0)) := (But.refl [r] w).store (.inl (by simp)) _
  have b3 := k1.box h1 (by simpa using hne)
  have r3 : Box (w.setCell ⟨r, f, none⟩ (.slice none 0 0)) r 34 (cur.setIfInBounds f (.slice none 0 0)) := hb.store f _
  have b4 := b3.store 2 (.slice (some A') n c')
  have k2 : But [g] (w.setCell ⟨r, f, none⟩ (.slice none 0 0)) ((w.setCell ⟨r, f, none⟩ (.slice none 0 0)).setCell ⟨g, 2, none⟩ (.slice (some A') n c')) := (But.refl [g] _).store (.inl (by simp)) _
  have b4' : Box ((w.setCell ⟨r, f, none⟩ (.slice none 0 0)).setCell ⟨g, 2, none⟩ (.slice (some A') n c')) g 57 (quC C g (.slice (some A') n c') s ov) := by
    unfold quC at b4 ⊢
    simpa using b4
  have b5 := b4'.store 3 (.int .i64 s1)
  have k3 : But [g] w.drew w.drew := But.refl _ _
  have k12 : But (g :: (some r).toList) w (((w.setCell ⟨r, f, none⟩ (.slice none 0 0)).setCell ⟨g, 2, none⟩ (.slice (some A') n c')).setCell ⟨g, 3, none⟩ (.int .i64 s1)) :=
    ((k1.mono (by simp)).store (.inl (by simp)) _).store (.inl (by simp)) _
  refine ⟨b3, b4', by unfold quC at b5 ⊢; simpa using b5, ?_, k12⟩
  have k23 : But [g] (w.setCell ⟨r, f, none⟩ (.slice none 0 0)) (((w.setCell ⟨r, f, none⟩ (.slice none 0 0)).setCell ⟨g, 2, none⟩ (.slice (some A') n c')).setCell ⟨g, 3, none⟩ (.int .i64 s1)) := k2.store (.inl (by simp)) _
  have h1' := h2.len
  have h2' := h2.le
  have h3' := h2.max
  have hrow := k23.box r3 (by simp; exact Ne.symm hne)
  refine ⟨by simpa using h1', by omega, by omega, ?_⟩
  rcases h2.row with ⟨e, _⟩ | ⟨r0, f0, cur0, e1, e2, hb0, hs, he⟩
  · cases e
  · injection e1 with e1
    injection e1 with e1 e1b
    subst e1; subst e1b
    have hcc : cur0 = cur := by
      unfold Box at hb hb0
      rw [hb] at hb0
      injection hb0 with hb0
      injection hb0 with hb0
      exact hb0.symm
    subst hcc
    by_cases hc : c = 1
    · rw [if_pos hc] at hA
      subst hA
      have hL : L = [] := by
        apply List.eq_nil_of_length_eq_zero
        simp at h1'
        omega
      subst hL
      exact .inr ⟨r, f, _, rfl, rfl, hrow, by simp; omega, fun j hj => absurd hj (by simp)⟩
    · rw [if_neg hc] at hA
      subst hA
      refine .inr ⟨r, f + 1, _, rfl, rfl, hrow, by simp; omega, fun j hj => ?_⟩
      obtain ⟨u, hu, hel⟩ := he (j + 1) (by simpa using hj)
      refine ⟨u, by rw [Array.getElem?_setIfInBounds, if_neg (by omega), show f + 1 + j = f + (j + 1) by omega]; exact hu, ?_⟩
      have hel2 : El w S u L[j] := by simpa using hel
      exact ((hel2.far (K := [g, r]) (fun y hy => by
        rcases List.mem_cons.1 hy with rfl | hy
        · exact ⟨57, _, by decide, h1⟩
        · simp at hy; subst hy; exact ⟨34, _, by decide, hb⟩)).keep (k12.mono (by simp)) (fun x _ hx => hx.2)).mono (fun x _ hx => hx.1)

theorem box_drew {w : World} {g : Nat} {t : TypeId} {cs : Array Value} (h : Hid (Box w g t cs)) : Hid (Box w.drew g t cs) := h
theorem pop_end {w w2 w5 w6 : World} {S : Nat → Prop} {C : Cf} {g r m s1 c' : Nat} {A' : Addr} {L : List (List UInt8)} {b : List UInt8} {ov ov' : Bool} (hq : Hid (Qu w S C g (some r) (b :: L) ov)) (hm : Hid (L.length = m)) (hs1 : Hid (sumB L = s1)) (hb2 : Hid (Below w.heap.size w w2))
    (_h5 : Hid (Box w5.drew g 57 (quC C g (.slice (some A') m c') s1 ov))) (hw5 : Hid (Wn w5 S (some A') m c' (some r) L)) (hk5 : Hid (But (g :: (some r).toList) w2 w5)) (h6 : Hid (Box w6 g 57 (quC C g (.slice (some A') m c') s1 ov'))) (hk6 : Hid (But [g] w5.drew w6)) :
    Qu w6 S C g (some r) L ov' ∧ But (g :: (some r).toList) w w6 ∧ But (g :: (some r).toList) w2 w6 := by
  have h5 : Box w5 g 57 (quC C g (.slice (some A') m c') s1 ov) := _h5.out
  have hk6' : But [g] w5 w6 := ((But.refl [g] w5).drew).same hk6.out
  have hm' := hm.out
  have hs' := hs1.out
  subst hm'
  subst hs'
  have hsum := hq.out.sum
  have hcnt := hq.out.cnt
  rw [sumB] at hsum
  simp only [List.length_cons] at hcnt
  refine ⟨⟨hq.out.ok, by omega, by omega, some A', c', h6.out, ?_⟩, (But.of_below hb2.out _).same (hk5.out.same (hk6'.mono (by simp))), hk5.out.same (hk6'.mono (by simp))⟩
  have hwn := hw5.out
  have hrg : ∀ x, (some r) = some x → x ∉ [g] := by
    intro x hx
    obtain ⟨cs, hb⟩ := hwn.box x hx
    have := box_ne h5 hb (by decide)
    simp
    exact Ne.symm this
  exact ((hwn.far (K := [g]) (fun y hy => ⟨57, _, by decide, by simp at hy; subst hy; exact h5⟩)).keep hk6' hrg (fun x _ hx => hx.2)).mono (fun x _ hx => hx.1)

set_option maxHeartbeats 4000000 in
set_option maxRecDepth 100000 in
theorem pop_cons (w : World) {S : Nat → Prop} {C : Cf} {g n s1 : Nat} {rb : Option Nat} {L : List (List UInt8)} {b : List UInt8} {ov ov' : Bool} (hq : Hid (Qu w S C g rb (b :: L) ov)) (hn : Hid (b.length = n)) (hs1 : Hid (sumB L = s1)) (hv : Hid (fallF C s1 ov = ov')) :
    Calls Try.prog 19 #[.pointer (some ⟨g, 0, none⟩)] w fun e w' => ∃ A' c', e = .returned (.tuple #[.slice A' n c', .bool true]) ∧ Hid (w'.ownsRow w.heap.size 5 1 (.slice A' n c') n (bv b)) ∧ Hid (Qu w' S C g rb L ov') ∧ Hid (But (g :: rb.toList) w w') := by
  obtain ⟨m, HM⟩ : ∃ m, Hid (L.length = m) := ⟨_, hid rfl⟩
  obtain ⟨A, c, h1, h2⟩ := hq.out.body
  have hsum := hq.out.sum
  have hcnt := hq.out.cnt
  have hok := hq.out.ok
  unfold Cf.ok at hok
  have hm : (b :: L).length = m + 1 := by rw [← HM.out]; rfl
  have hss : sumB (b :: L) = n + s1 := by rw [sumB, hn.out, hs1.out]
  rw [hss] at hsum
  rw [hm] at h1 h2 hcnt
  rw [hss] at h1
  have hml := h2.le
  have hfr : Hid (frontF (b :: L) = (b, true)) := rfl
  rcases h2.row with ⟨_, e, _⟩ | ⟨r, f, cur, rfl, rfl, hb, hs, he⟩
  · omega
  · have HP : ∀ w2, Below w.heap.size w w2 → Hid (Box w2 g 57 (quC C g (.slice (some ⟨r, f, none⟩) (m + 1) c) (n + s1) ov) ∧ Box w2 r 34 cur ∧ Wn w2 S (some ⟨r, f, none⟩) (m + 1) c (some r) (b :: L)) := fun w2 hb2 =>
      hid ⟨box_below h1 hb2, box_below hb hb2, h2.keep (But.of_below hb2 []) (by simp) (by simp)⟩
    have HP := hid HP
    have hcur : f < cur.size := by omega
    have hc9 := h2.max
    unfold maxLen at hc9
    have i0 : (0 : Int) < (m : Int) + 1 := by omega
    have hne : g ≠ r := box_ne h1 hb (by decide)
    clear he h1 h2 hb hcnt
    have k1 : 1 ≤ m + 1 := by omega
    obtain ⟨A', hA'⟩ : ∃ A' : Addr, A' = if c = 1 then ⟨r, f, none⟩ else ⟨r, f + 1, none⟩ := ⟨_, rfl⟩
    obtain ⟨c', hc'⟩ : ∃ c', c' = c - 1 := ⟨_, rfl⟩
    by_cases hc1 : c = 1
    all_goals
      have HA' := hid hA'
      have HC' := hid hc'
      first | rw [if_pos hc1] at hA' | rw [if_neg hc1] at hA'
      first | (subst hc1; simp only [Nat.sub_self] at hc'; have hm0 : m = 0 := by omega
               subst hm0) | (clear hc'; have hc' := HC'.out)
      subst hc'
      have e5 : ((n : Int) + s1) - n = s1 := by omega
      subst hA'
      go_enter Try.func19, Try.ntmps19
      go_wp2_with (first
        | (go_at_call 18
           ((with_reducible refine (front_any _ hq hfr hn).mono ?_); rintro e w2 ⟨A2, c2, rfl, HO2, HB2⟩)
           have hp2 := (HP.out w2 HB2.out).out
           obtain ⟨b21, b22, wn2⟩ := hp2
           obtain ⟨b31, b41, b51, wn5, k5⟩ := pop_boxes (s1 := s1) b21 wn2 b22 HC'.out _ HA'.out
           have c22 := b21.cell 2
           have c23 := b21.cell 3
           have c28 := b21.cell 8
           have cr2 : w2.cell? ⟨r, f, none⟩ = some (cur[f]) := by rw [b22.cell]; simp
           have fr2 := b22.frozen f
           have f22 := b21.frozen 2
           have f23 := b21.frozen 3
           unfold quC at c22 c23 c28
           have HB5 := box_drew (hid b51)
           have HW5 := hid wn5
           have HK5 := hid k5
           clear b21 b22 wn2 b31 b41 b51 wn5 k5))
      go_region_law (first
        | (go_simp
           go_at_call 28
           ((with_reducible refine (fall_any _ hv HB5).mono ?_); rintro e w6 ⟨rfl, HB6, HK6⟩)
           have hp6 := pop_end hq HM hs1 HB2 HB5 HW5 HK5 HB6 HK6
           have HF := hid hp6
           clear hp6))
      all_goals
        go_wp2
        go_ret2
        refine ⟨A2, c2, rfl, HF.out.2.2.own HO2.out (fun x hx => ?_), hid HF.out.1, hid HF.out.2.1⟩
        have h1 := (HO2.out.lt x hx).1
        obtain ⟨h2, h3⟩ := hq.out.lt
        have h3 := h3 r rfl
        simp
        omega
set_option maxHeartbeats 1000000 in
set_option maxRecDepth 100000 in
theorem pop_none (w : World) {S : Nat → Prop} {C : Cf} {g : Nat} {rb : Option Nat} {ov : Bool} (hq : Hid (Qu w S C g rb [] ov)) :
    Calls Try.prog 19 #[.pointer (some ⟨g, 0, none⟩)] w fun e w' => ∃ A' c', e = .returned (.tuple #[.slice A' 0 c', .bool false]) ∧ Hid (w'.ownsRow w.heap.size 5 1 (.slice A' 0 c') 0 (bv [])) ∧ Hid (Qu w' S C g rb [] ov) ∧ Hid (But (g :: rb.toList) w w') := by
  go_enter Try.func19, Try.ntmps19
  go_wp2_with (first
    | (go_at_call 18
       ((with_reducible refine (front_any _ (n := 0) hq (out := []) (ok := false) (hid rfl) (hid rfl)).mono ?_); rintro e w2 ⟨A2, c2, rfl, HO2, HB2⟩)))
  go_ret2
  exact ⟨none, 0, rfl, World.ownsRow_nil _ _ _ _, hq.out.keep0 (But.of_below HB2.out _), But.of_below HB2.out _⟩

/-- What Pop answers, and what waits behind it. -/
def popF (C : Cf) (L : List (List UInt8)) (ov : Bool) : List UInt8 × Bool × List (List UInt8) × Bool :=
  match L with
  | [] => ([], false, [], ov)
  | b :: r => (b, true, r, fallF C (sumB r) ov)
theorem pop_any (w : World) {S : Nat → Prop} {C : Cf} {g n : Nat} {rb : Option Nat} {L L' : List (List UInt8)} {ov ok ov' : Bool} {out : List UInt8} (hq : Hid (Qu w S C g rb L ov)) (hp : Hid (popF C L ov = (out, ok, L', ov'))) (hn : Hid (out.length = n)) :
    Calls Try.prog 19 #[.pointer (some ⟨g, 0, none⟩)] w fun e w' => ∃ A' c', e = .returned (.tuple #[.slice A' n c', .bool ok]) ∧ Hid (w'.ownsRow w.heap.size 5 1 (.slice A' n c') n (bv out)) ∧ Hid (Qu w' S C g rb L' ov') ∧ Hid (But (g :: rb.toList) w w') := by
  have hp' := hp.out
  have hn' := hn.out
  cases L with
  | nil =>
    rw [popF] at hp'
    injection hp' with e1 e2
    injection e2 with e2 e3
    injection e3 with e3 e4
    subst e1; subst e2; subst e3; subst e4
    subst hn'
    exact pop_none w hq
  | cons b r =>
    rw [popF] at hp'
    injection hp' with e1 e2
    injection e2 with e2 e3
    injection e3 with e3 e4
    subst e1; subst e2; subst e3
    exact pop_cons w hq hn (hid rfl) (hid e4)
end Go.Proofs.Ytibkbcffoabhfaa
