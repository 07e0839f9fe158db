import Derived.Test.YtibkbcffoabhfaaKB
namespace Go.Proofs.Ytibkbcffoabhfaa
open Go.RowKit

/-- How a queue is to be. -/
structure Cf where
  b : Nat
  r : Nat
  h : Nat
  l : Nat
def Cf.ok (C : Cf) : Prop := 1 ≤ C.b ∧ C.b ≤ 65536 ∧ 1 ≤ C.r ∧ C.r ≤ 4096 ∧ C.l < C.h ∧ C.h ≤ C.b
def sumB : List (List UInt8) → Nat
  | [] => 0
  | b :: r => b.length + sumB r
theorem sumB_app (L : List (List UInt8)) (b : List UInt8) : sumB (L ++ [b]) = sumB L + b.length := by
  induction L with
  | nil => simp [sumB]
  | cons x r ih => simp only [List.cons_append, sumB, ih]; omega
/-- The cells of a queue. -/
def quC (C : Cf) (g : Nat) (v : Value) (s : Nat) (ov : Bool) : Array Value :=
  #[.int .i64 C.b, .int .i64 C.r, v, .int .i64 s, .int .i64 C.h, .int .i64 C.l, .bool ov, .func (.func 27) #[.pointer (some ⟨g, 4, none⟩)] #[], .func (.func 28) #[.pointer (some ⟨g, 4, none⟩)] #[]]
/-- A queue: its block, its row's block, what waits, whether it is too much. -/
structure Qu (w : World) (S : Nat → Prop) (C : Cf) (g : Nat) (rb : Option Nat) (L : List (List UInt8)) (ov : Bool) : Prop where
  ok : C.ok
  sum : sumB L ≤ C.b
  cnt : L.length ≤ C.r
  body : ∃ A c, Box w g 57 (quC C g (.slice A L.length c) (sumB L) ov) ∧ Wn w S A L.length c rb L
section
variable {w w' : World} {S S' : Nat → Prop} {C : Cf} {g : Nat} {rb : Option Nat} {L : List (List UInt8)} {ov : Bool} {K : List Nat}
theorem Qu.keep (h : Qu w S C g rb L ov) (k : But K w w') (hg : g ∉ K) (hr : ∀ x, rb = some x → x ∉ K) (hS : ∀ x, x < w.heap.size → S x → x ∉ K) : Qu w' S C g rb L ov := by
  obtain ⟨A, c, h1, h2⟩ := h.body
  exact ⟨h.ok, h.sum, h.cnt, A, c, k.box h1 hg, h2.keep k hr hS⟩
theorem Qu.mono (h : Qu w S C g rb L ov) (hS : ∀ x, x < w.heap.size → S x → S' x) : Qu w S' C g rb L ov := by
  obtain ⟨A, c, h1, h2⟩ := h.body
  exact ⟨h.ok, h.sum, h.cnt, A, c, h1, h2.mono hS⟩
theorem Qu.lt (h : Qu w S C g rb L ov) : g < w.heap.size ∧ ∀ x, rb = some x → x < w.heap.size := by
  obtain ⟨A, c, h1, h2⟩ := h.body
  exact ⟨h1.lt, h2.lt⟩
theorem Qu.keep0 (h : Qu w S C g rb L ov) (k : But [] w w') : Qu w' S C g rb L ov := h.keep k (by simp) (by simp) (by simp)
theorem Qu.ne (h : Qu w S C g rb L ov) : rb ≠ some g := fun e => by
  obtain ⟨A, c, h1, h2⟩ := h.body
  obtain ⟨cs, hb⟩ := h2.box g e
  exact box_ne h1 hb (by decide) rfl
end
/-- What others have is kept where blocks of queues and rows of their own turn. -/
theorem Qu.other {w w' : World} {S : Nat → Prop} {C : Cf} {g : Nat} {rb : Option Nat} {L : List (List UInt8)} {ov : Bool} {K : List Nat} (h : Qu w S C g rb L ov) (k : But K w w') (hg : g ∉ K) (hr : ∀ x, rb = some x → x ∉ K) (hK : ∀ y ∈ K, ∃ t cs, t ≠ 5 ∧ Box w y t cs) : Qu w' S C g rb L ov := by
  obtain ⟨A, c, h1, h2⟩ := h.body
  exact ⟨h.ok, h.sum, h.cnt, A, c, k.box h1 hg, ((h2.far hK).keep k hr (fun x _ hx => hx.2)).mono (fun x _ hx => hx.1)⟩
/-- The blocks of a queue are none of bytes. -/
theorem Qu.types {w : World} {S : Nat → Prop} {C : Cf} {g : Nat} {rb : Option Nat} {L : List (List UInt8)} {ov : Bool} (h : Qu w S C g rb L ov) : ∀ y ∈ g :: rb.toList, ∃ t cs, t ≠ 5 ∧ Box w y t cs := by
  obtain ⟨A, c, h1, h2⟩ := h.body
  intro y hy
  rcases List.mem_cons.1 hy with rfl | hy
  · exact ⟨57, _, by decide, h1⟩
  · cases rb with
    | none => simp at hy
    | some r =>
      simp at hy
      subst hy
      obtain ⟨cs, hb⟩ := h2.box y rfl
      exact ⟨34, cs, by decide, hb⟩

section
variable (w : World)
set_option maxHeartbeats 1000000 in
set_option maxRecDepth 100000 in
theorem copied_any {A : Option Addr} {c n : Nat} {b : List UInt8} {B : Nat} (hb : Hid (Lies w B A (bv b))) (hn : Hid (b.length = n)) (hl : n ≤ 100000) :
    Calls Try.prog 26 #[.slice A n c] w fun e w' => ∃ A' c', e = .returned (.slice A' n c') ∧ Hid (w'.ownsRow w.heap.size 5 1 (.slice A' n c') n (bv b)) ∧ Hid (Below w.heap.size w w') := by
  obtain ⟨i0, hi0, hz0, hz1, hz2⟩ := info_parts Try.info5
  have hl1 : n ≤ 1000000 := by omega
  go_enter Try.func26, Try.ntmps26
  go_wp2_with (first
    | (at_builtin
       (refine wpList_app _ rfl (.const (.slice none 0 0)) (.tmp 3) 34 rfl w.heap.size 5 i0 _ 1 1 Try.underlying34 hi0 hz0 hz1 hz2 rfl (by decide) none 0 0 [] rfl (World.ownsRow_nil _ _ _ _) B A n c (bv b) rfl (by rw [bv_length, hn.out]; omega) hb.out (bv_one _) (by unfold maxLen; omega) (by omega) (Nat.le_refl _) ?_
        intro A4 c4 w4 ho4 hg4
        have HO4 : Hid (w4.ownsRow w.heap.size 5 1 (.slice A4 n c4) n (bv b)) := by
          show World.ownsRow _ _ _ _ _ _ _
          simpa using ho4
        have HB4 : Hid (Below w.heap.size w w4) := app_bel (Below.refl _ _) (World.ownsRow_nil _ _ 5 1) hg4
        clear ho4 hg4)))
  go_ret
  exact ⟨A4, c4, by simp, HO4, HB4⟩

set_option maxHeartbeats 1000000 in
theorem count_nil : Calls Try.prog 14 #[.pointer none] w fun e w' => e = .returned (.int .i64 0) ∧ w' = w := by
  go_enter Try.func14, Try.ntmps14
  go_wp2
  go_ret
  exact ⟨rfl, rfl⟩
set_option maxHeartbeats 1000000 in
theorem push_nil : Calls Try.prog 22 #[.pointer none, .slice none 0 0] w fun e w' => ∃ d, e = .returned (.bool false) ∧ w' = w.drewN d := by
  go_enter Try.func22, Try.ntmps22
  go_wp2
  go_quiet (fail)
  go_wp2
  go_ret
  exact ⟨_, rfl, rfl⟩
set_option maxHeartbeats 1000000 in
theorem count_any {S : Nat → Prop} {C : Cf} {g n : Nat} {rb : Option Nat} {L : List (List UInt8)} {ov : Bool} (hn : Hid (L.length = n)) (hq : Hid (Qu w S C g rb L ov)) : Calls Try.prog 14 #[.pointer (some ⟨g, 0, none⟩)] w fun e w' => e = .returned (.int .i64 n) ∧ w' = w := by
  obtain ⟨A, c, h1, _⟩ := hq.out.body
  rw [hn.out] at h1
  have c2 := h1.cell 2
  clear h1
  unfold quC at c2
  go_enter Try.func14, Try.ntmps14
  go_wp2
  go_ret
  exact ⟨rfl, rfl⟩
set_option maxHeartbeats 1000000 in
theorem used_any {S : Nat → Prop} {C : Cf} {g s : Nat} {rb : Option Nat} {L : List (List UInt8)} {ov : Bool} (hn : Hid (sumB L = s)) (hq : Hid (Qu w S C g rb L ov)) : Calls Try.prog 15 #[.pointer (some ⟨g, 0, none⟩)] w fun e w' => e = .returned (.int .i64 s) ∧ w' = w := by
  obtain ⟨A, c, h1, _⟩ := hq.out.body
  rw [hn.out] at h1
  have c2 := h1.cell 3
  clear h1
  unfold quC at c2
  go_enter Try.func15, Try.ntmps15
  go_wp2
  go_ret
  exact ⟨rfl, rfl⟩
set_option maxHeartbeats 1000000 in
theorem over_any {S : Nat → Prop} {C : Cf} {g : Nat} {rb : Option Nat} {L : List (List UInt8)} {ov : Bool} (hq : Hid (Qu w S C g rb L ov)) : Calls Try.prog 17 #[.pointer (some ⟨g, 0, none⟩)] w fun e w' => e = .returned (.bool ov) ∧ w' = w := by
  obtain ⟨A, c, h1, _⟩ := hq.out.body
  have c2 := h1.cell 6
  clear h1
  unfold quC at c2
  go_enter Try.func17, Try.ntmps17
  go_wp2
  go_ret
  exact ⟨rfl, rfl⟩
/-- Behind the high mark. -/
def riseF (C : Cf) (s : Nat) (ov : Bool) : Bool := if C.h ≤ s then true else ov
def fallF (C : Cf) (s : Nat) (ov : Bool) : Bool := if s ≤ C.l then false else ov
set_option maxHeartbeats 1000000 in
theorem rise_any {C : Cf} {g s s0 : Nat} {v : Value} {ov ov' : Bool} (hv : Hid (riseF C s ov = ov')) (hb : Hid (Box w g 57 (quC C g v s0 ov))) : Calls Try.prog 27 #[.pointer (some ⟨g, 4, none⟩), .int .i64 s] w fun e w' => e = .returned (.tuple #[]) ∧ Hid (Box w' g 57 (quC C g v s0 ov')) ∧ Hid (But [g] w w') := by
  have c4 := hb.out.cell 4
  have c6 := hb.out.cell 6
  have f6 := hb.out.frozen 6
  unfold quC at c4 c6
  by_cases h : C.h ≤ s
  · have t1 : (s : Int) ≥ C.h := by omega
    have e : ov' = true := by rw [← hv.out, riseF, if_pos h]
    subst e
    have HX : Hid (Box (w.setCell ⟨g, 6, none⟩ (.bool true)) g 57 (quC C g v s0 true)) := by
      have := hb.out.store 6 (.bool true)
      show Box _ _ _ _
      unfold quC at this ⊢
      simpa using this
    have HK : Hid (But [g] w (w.setCell ⟨g, 6, none⟩ (.bool true))) := (But.refl [g] w).store (.inl (by simp)) _
    go_enter Try.func27, Try.ntmps27
    go_wp2
    go_end0
    exact ⟨rfl, HX, HK⟩
  · have t1 : ¬ ((s : Int) ≥ C.h) := by omega
    have e : ov' = ov := by rw [← hv.out, riseF, if_neg h]
    subst e
    go_enter Try.func27, Try.ntmps27
    go_wp2
    go_end0
    exact ⟨rfl, hb, But.refl _ _⟩
set_option maxHeartbeats 1000000 in
theorem fall_any {C : Cf} {g s s0 : Nat} {v : Value} {ov ov' : Bool} (hv : Hid (fallF C s ov = ov')) (hb : Hid (Box w g 57 (quC C g v s0 ov))) : Calls Try.prog 28 #[.pointer (some ⟨g, 4, none⟩), .int .i64 s] w fun e w' => e = .returned (.tuple #[]) ∧ Hid (Box w' g 57 (quC C g v s0 ov')) ∧ Hid (But [g] w w') := by
  have c4 := hb.out.cell 5
  have c6 := hb.out.cell 6
  have f6 := hb.out.frozen 6
  unfold quC at c4 c6
  by_cases h : s ≤ C.l
  · have t1 : (s : Int) ≤ C.l := by omega
    have e : ov' = false := by rw [← hv.out, fallF, if_pos h]
    subst e
    have HX : Hid (Box (w.setCell ⟨g, 6, none⟩ (.bool false)) g 57 (quC C g v s0 false)) := by
      have := hb.out.store 6 (.bool false)
      show Box _ _ _ _
      unfold quC at this ⊢
      simpa using this
    have HK : Hid (But [g] w (w.setCell ⟨g, 6, none⟩ (.bool false))) := (But.refl [g] w).store (.inl (by simp)) _
    go_enter Try.func28, Try.ntmps28
    go_wp2
    go_end0
    exact ⟨rfl, HX, HK⟩
  · have t1 : ¬ ((s : Int) ≤ C.l) := by omega
    have e : ov' = ov := by rw [← hv.out, fallF, if_neg h]
    subst e
    go_enter Try.func28, Try.ntmps28
    go_wp2
    go_end0
    exact ⟨rfl, hb, But.refl _ _⟩
end
end Go.Proofs.Ytibkbcffoabhfaa
