import Derived.Test.YtibkbcffoabhfaaKE
import Derived.Laws.EntriesVeiled
namespace Go.Proofs.Ytibkbcffoabhfaa
open Go.RowKit

def okI (b r h l : Int) : Prop := 1 ≤ b ∧ b ≤ 65536 ∧ 1 ≤ r ∧ r ≤ 4096 ∧ 0 ≤ l ∧ l < h ∧ h ≤ b
theorem ok_or (b r h l : Int) : okI b r h l ∨ (b < 1) ∨ (¬ (b < 1) ∧ 65536 < b) ∨ (¬ (b < 1) ∧ ¬ (65536 < b) ∧ r < 1) ∨ (¬ (b < 1) ∧ ¬ (65536 < b) ∧ ¬ (r < 1) ∧ 4096 < r) ∨ (¬ (b < 1) ∧ ¬ (65536 < b) ∧ ¬ (r < 1) ∧ ¬ (4096 < r) ∧ l < 0) ∨
    (¬ (b < 1) ∧ ¬ (65536 < b) ∧ ¬ (r < 1) ∧ ¬ (4096 < r) ∧ ¬ (l < 0) ∧ h ≤ l) ∨ (¬ (b < 1) ∧ ¬ (65536 < b) ∧ ¬ (r < 1) ∧ ¬ (4096 < r) ∧ ¬ (l < 0) ∧ ¬ (h ≤ l) ∧ b < h) := by
  unfold okI
  omega
set_option maxHeartbeats 2000000 in
set_option maxRecDepth 100000 in
theorem new_bad (w : World) (b r h l : Int) (hb : ¬ okI b r h l) : Calls Try.prog 21 #[.int .i64 b, .int .i64 r, .int .i64 h, .int .i64 l] w fun e w' => e = .returned (.tuple #[.pointer none, .int .i64 2]) ∧ w' = w := by
  rcases ok_or b r h l with h0 | h0 | h0 | h0 | h0 | h0 | h0 | h0
  · exact absurd h0 hb
  · have t0 := h0
    clear hb
    go_enter Try.func21, Try.ntmps21
    go_wp2
    go_ret2
    exact ⟨rfl, rfl⟩
  · obtain ⟨n0, t1⟩ := h0
    clear hb
    go_enter Try.func21, Try.ntmps21
    go_wp2
    go_ret2
    exact ⟨rfl, rfl⟩
  · obtain ⟨n0, n1, t2⟩ := h0
    clear hb
    go_enter Try.func21, Try.ntmps21
    go_wp2
    go_ret2
    exact ⟨rfl, rfl⟩
  · obtain ⟨n0, n1, n2, t3⟩ := h0
    clear hb
    go_enter Try.func21, Try.ntmps21
    go_wp2
    go_ret2
    exact ⟨rfl, rfl⟩
  · obtain ⟨n0, n1, n2, n3, t4⟩ := h0
    clear hb
    go_enter Try.func21, Try.ntmps21
    go_wp2
    go_ret2
    exact ⟨rfl, rfl⟩
  · obtain ⟨n0, n1, n2, n3, n4, t5⟩ := h0
    clear hb
    go_enter Try.func21, Try.ntmps21
    go_wp2
    go_ret2
    exact ⟨rfl, rfl⟩
  · obtain ⟨n0, n1, n2, n3, n4, n5, t6⟩ := h0
    clear hb
    go_enter Try.func21, Try.ntmps21
    go_wp2
    go_ret2
    exact ⟨rfl, rfl⟩
set_option maxHeartbeats 2000000 in
set_option maxRecDepth 100000 in
theorem new_any (w : World) (S : Nat → Prop) (C : Cf) (hok : Hid C.ok) : Calls Try.prog 21 #[.int .i64 C.b, .int .i64 C.r, .int .i64 C.h, .int .i64 C.l] w fun e w' => ∃ g, e = .returned (.tuple #[.pointer (some ⟨g, 0, none⟩), .int .i64 0]) ∧ Hid (Qu w' S C g none [] false) ∧ w.heap.size ≤ g ∧ Hid (Below w.heap.size w w') := by
  have h0 := hok.out
  obtain ⟨b, r, h, l⟩ := C
  unfold Cf.ok at h0
  simp only at h0 ⊢
  have n0 : ¬ ((b : Int) < 1) := by omega
  have n1 : ¬ ((65536 : Int) < b) := by omega
  have n2 : ¬ ((r : Int) < 1) := by omega
  have n3 : ¬ ((4096 : Int) < r) := by omega
  have n4 : ¬ ((l : Int) < 0) := by omega
  have n5 : ¬ ((h : Int) ≤ l) := by omega
  have n6 : ¬ ((b : Int) < h) := by omega
  have d1 : decide (b < 1) = false := by simp; omega
  have d5 : decide (h ≤ l) = false := by simp; omega
  have d6 : decide (b < h) = false := by simp; omega
  go_enter Try.func21, Try.ntmps21
  go_wp2
  have HX : Hid (Box (w.alloc (.cells #[.int .i64 b, .int .i64 r, .slice none 0 0, .int .i64 0, .int .i64 h, .int .i64 l, .bool false, .nilFunc, .nilFunc] 57)) w.heap.size 57 #[.int .i64 b, .int .i64 r, .slice none 0 0, .int .i64 0, .int .i64 h, .int .i64 l, .bool false, .nilFunc, .nilFunc]) := Box.new _ _ _
  have HB : Hid (Below w.heap.size w (w.alloc (.cells #[.int .i64 b, .int .i64 r, .slice none 0 0, .int .i64 0, .int .i64 h, .int .i64 l, .bool false, .nilFunc, .nilFunc] 57))) := (Below.refl _ _).alloc (Nat.le_refl _) _
  have hmf : ∀ (fn : Fn) (first cap : Array Value) (w : World), (Instr.makeFunc fn first cap).run Try.prog w = .ok (.func fn first cap) w := fun _ _ _ _ => rfl
  generalize w.alloc (.cells #[.int .i64 b, .int .i64 r, .slice none 0 0, .int .i64 0, .int .i64 h, .int .i64 l, .bool false, .nilFunc, .nilFunc] 57) = w1 at HX HB ⊢
  obtain ⟨g, hg⟩ : ∃ z, w.heap.size = z := ⟨_, rfl⟩
  rw [hg] at HX ⊢
  have c7 : w1.drew.cell? ⟨g, 7, none⟩ = some .nilFunc := HX.out.cell 7
  have c8 : w1.drew.cell? ⟨g, 8, none⟩ = some .nilFunc := HX.out.cell 8
  have f7 : w1.drew.frozen? ⟨g, 7, none⟩ = false := HX.out.frozen 7
  have f8 : w1.drew.frozen? ⟨g, 8, none⟩ = false := HX.out.frozen 8
  have c70 : w1.cell? ⟨g, 7, none⟩ = some .nilFunc := c7
  have c80 : w1.cell? ⟨g, 8, none⟩ = some .nilFunc := c8
  have f70 : w1.frozen? ⟨g, 7, none⟩ = false := f7
  have f80 : w1.frozen? ⟨g, 8, none⟩ = false := f8
  go_region
  all_goals
    go_wp2
    go_ret2
    refine ⟨g, rfl, ⟨hok.out, Nat.zero_le _, Nat.zero_le _, none, 0, ?_, Wn.nil _ _⟩, by omega, ?_⟩
    · have := (HX.out.store 7 (.func (.func 27) #[.pointer (some ⟨g, 4, none⟩)] #[])).store 8 (.func (.func 28) #[.pointer (some ⟨g, 4, none⟩)] #[])
      have h2 : Box ((w1.setCell ⟨g, 7, none⟩ (.func (.func 27) #[.pointer (some ⟨g, 4, none⟩)] #[])).setCell ⟨g, 8, none⟩ (.func (.func 28) #[.pointer (some ⟨g, 4, none⟩)] #[])) g 57 (quC ⟨b, r, h, l⟩ g (.slice none 0 0) 0 false) := by
        unfold quC
        simpa using this
      exact h2
    · have hb := HB.out
      exact (((But.of_below hb []).store (.inr (by omega)) _).store (.inr (by omega)) _ |>.drew).below (Nat.le_refl _) (by simp)

end Go.Proofs.Ytibkbcffoabhfaa
