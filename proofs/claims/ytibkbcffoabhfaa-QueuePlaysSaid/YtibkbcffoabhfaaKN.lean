import Derived.Test.YtibkbcffoabhfaaKM
namespace Go.Proofs.Ytibkbcffoabhfaa
open Go.RowKit

theorem ops_at {w w' : World} {A : Option Addr} {l : List OpV} (h : Hid (OpsV w w.heap.size A l)) (hb : Hid (Below w.heap.size w w')) : Hid (OpsV w' w'.heap.size A l) := fun hn => by
  obtain ⟨b, o, e, hlt, hk⟩ := (OpsV.below h.out hb.out) hn
  refine ⟨b, o, e, by have := hb.out.size; omega, fun k hkl => ?_⟩
  obtain ⟨tA, tc, h0, h1⟩ := hk k hkl
  exact ⟨tA, tc, ⟨h0.1, h0.2.1, h0.2.2.1, h0.2.2.2.more hb.out.size⟩, h1⟩
/-- What a queue's mark says of its bytes. -/
def Iv (C : Cf) (L : List (List UInt8)) (ov : Bool) : Prop := (C.h ≤ sumB L → ov = true) ∧ (sumB L = 0 → ov = false)
theorem Iv.start (C : Cf) (h : C.ok) : Iv C [] false := ⟨fun h1 => by unfold Cf.ok at h; rw [sumB] at h1; omega, fun _ => rfl⟩
theorem Iv.step {C : Cf} {k : Int} {b out : List UInt8} {L L' : List (List UInt8)} {ov ok ov' : Bool} (h : C.ok) (hi : Iv C L ov) (hp : doF C k b L ov = (out, ok, L', ov')) :
    Iv C L' ov' ∧ (C.h ≤ sumB L' → ov' = true) ∧ (sumB L' = 0 → ov' = false) ∧ (C.l < sumB L' → sumB L' < C.h → ov' = ov) ∧ (sumB L' ≤ C.l → k = 2 → ok = true → ov' = false) ∧
    (k = 1 → ok = false → L' = L ∧ ov' = ov) ∧ (k = 1 → ok = true → L'.length = L.length + 1 ∧ sumB L' = sumB L + b.length) := by
  obtain ⟨h1, h2⟩ := hi
  unfold Cf.ok at h
  have key : Iv C L' ov' ∧ (C.l < sumB L' → sumB L' < C.h → ov' = ov) ∧ (sumB L' ≤ C.l → k = 2 → ok = true → ov' = false) ∧
    (k = 1 → ok = false → L' = L ∧ ov' = ov) ∧ (k = 1 → ok = true → L'.length = L.length + 1 ∧ sumB L' = sumB L + b.length) := by
    unfold doF at hp
    split at hp
    · unfold pushF at hp
      split at hp
      · simp only [Prod.mk.injEq] at hp
        obtain ⟨rfl, rfl, rfl, rfl⟩ := hp
        exact ⟨⟨h1, h2⟩, fun _ _ => rfl, fun _ _ e => (by cases e), fun _ _ => ⟨rfl, rfl⟩, fun _ e => (by cases e)⟩
      · simp only [Prod.mk.injEq] at hp
        obtain ⟨rfl, rfl, rfl, rfl⟩ := hp
        have hs := sumB_app L b
        refine ⟨⟨fun h3 => ?_, fun h3 => ?_⟩, fun h3 h4 => ?_, fun _ e => (by omega), fun _ e => (by cases e), fun _ _ => ⟨by simp, hs⟩⟩
        · rw [hs] at h3
          rw [riseF, if_pos h3]
        · rw [hs] at h3
          rw [riseF, if_neg (by omega)]
          exact h2 (by omega)
        · rw [hs] at h4
          rw [riseF, if_neg (by omega)]
    · split at hp
      · unfold popF at hp
        split at hp
        · simp only [Prod.mk.injEq] at hp
          obtain ⟨rfl, rfl, rfl, rfl⟩ := hp
          exact ⟨⟨h1, h2⟩, fun _ _ => rfl, fun _ _ e => (by cases e), fun e => (by omega), fun e => (by omega)⟩
        · rename_i b' r
          simp only [Prod.mk.injEq] at hp
          obtain ⟨rfl, rfl, rfl, rfl⟩ := hp
          rw [sumB] at h1 h2
          refine ⟨⟨fun h3 => ?_, fun h3 => ?_⟩, fun h3 h4 => ?_, fun h3 _ _ => ?_, fun e => (by omega), fun e => (by omega)⟩
          · rw [fallF, if_neg (by omega)]
            exact h1 (by omega)
          · rw [fallF, if_pos (by omega)]
          · rw [fallF, if_neg (by omega)]
          · rw [fallF, if_pos (by omega)]
      · split at hp
        · simp only [Prod.mk.injEq] at hp
          obtain ⟨rfl, rfl, rfl, rfl⟩ := hp
          exact ⟨⟨h1, h2⟩, fun _ _ => rfl, fun _ e => (by omega), fun e => (by omega), fun e => (by omega)⟩
        · simp only [Prod.mk.injEq] at hp
          obtain ⟨rfl, rfl, rfl, rfl⟩ := hp
          exact ⟨⟨h1, h2⟩, fun _ _ => rfl, fun _ e => (by omega), fun e => (by omega), fun e => (by omega)⟩
  exact ⟨key.1, key.1.1, key.1.2, key.2⟩
/-- The cells of what a queue is to be. -/
abbrev cfC (b r h l : Int) : Array Value := #[.int .i64 b, .int .i64 r, .int .i64 h, .int .i64 l]

set_option maxHeartbeats 4000000 in
set_option maxRecDepth 100000 in
theorem marks_great (w : World) (b r h lo : Int) (A : Option Addr) (c n : Nat) (l : List OpV) (hl : Hid (OpsV w w.heap.size A l)) (hn : Hid (l.length = n)) (hl2 : n ≤ maxLen) (hg : Hid (greatO l = true)) :
    Calls Try.prog 5 #[.agg #[.int .i64 b, .int .i64 r, .int .i64 h, .int .i64 lo], .slice A n c] w fun e w' => e = .returned (.bool true) ∧ Hid (Below w.heap.size w w') := by
  have HB0 : Hid (Below w.heap.size w (w.alloc (.cells #[.int .i64 b, .int .i64 r, .int .i64 h, .int .i64 lo] 23))) := (Below.refl _ _).alloc (Nat.le_refl _) _
  have HL0 := ops_at hl HB0
  go_enter Try.func5, Try.ntmps5
  go_wp2_with (first
    | (go_at_call 7
       ((with_reducible refine (alive_any _).mono ?_); rintro e w1 ⟨rfl, HB1⟩)
       have HL1 : Hid (OpsV w1 w1.heap.size A l) := ops_at HL0 HB1)
    | (go_at_call 8
       ((with_reducible refine (great_any _ A c n l true HL1 hn hl2 hg).mono ?_); rintro e w2 ⟨rfl, HB2⟩)))
  go_ret
  exact ⟨rfl, (bel_trans HB0 (bel_trans HB1 HB2)).out⟩
set_option maxHeartbeats 4000000 in
set_option maxRecDepth 100000 in
theorem marks_bad (w : World) (b r h lo : Int) (A : Option Addr) (c n : Nat) (l : List OpV) (hl : Hid (OpsV w w.heap.size A l)) (hn : Hid (l.length = n)) (hl2 : n ≤ maxLen) (hg : Hid (greatO l = false)) (hs : ¬ okI b r h lo) :
    Calls Try.prog 5 #[.agg #[.int .i64 b, .int .i64 r, .int .i64 h, .int .i64 lo], .slice A n c] w fun e w' => e = .returned (.bool true) ∧ Hid (Below w.heap.size w w') := by
  have HB0 : Hid (Below w.heap.size w (w.alloc (.cells #[.int .i64 b, .int .i64 r, .int .i64 h, .int .i64 lo] 23))) := (Below.refl _ _).alloc (Nat.le_refl _) _
  have HX0 : Hid (Box (w.alloc (.cells #[.int .i64 b, .int .i64 r, .int .i64 h, .int .i64 lo] 23)) w.heap.size 23 #[.int .i64 b, .int .i64 r, .int .i64 h, .int .i64 lo]) := Box.new _ _ _
  have HL0 := ops_at hl HB0
  go_enter Try.func5, Try.ntmps5
  go_wp2_with (first
    | (go_at_call 7
       ((with_reducible refine (alive_any _).mono ?_); rintro e w1 ⟨rfl, HB1⟩)
       have HL1 : Hid (OpsV w1 w1.heap.size A l) := ops_at HL0 HB1
       have hx1 := hid (box_below HX0.out HB1.out))
    | (go_at_call 8
       ((with_reducible refine (great_any _ A c n l false HL1 hn hl2 hg).mono ?_); rintro e w2 ⟨rfl, HB2⟩)
       have hx2 := box_below hx1.out HB2.out
       have c0 := hx2.cell 0
       have c1 := hx2.cell 1
       have c2 := hx2.cell 2
       have c3 := hx2.cell 3
       clear hx2)
    | (go_at_call 9
       ((with_reducible refine (made_bad _ b r h lo hs).mono ?_); rintro e w3 ⟨rfl, HB3⟩)))
  go_ret
  exact ⟨rfl, (bel_trans HB0 (bel_trans HB1 (bel_trans HB2 HB3))).out⟩
end Go.Proofs.Ytibkbcffoabhfaa
