import Derived.Test.YtoefcdefbfdngaaSRBb
import Derived.Laws.EntriesVeiled
namespace Go.Proofs.Ytoefcdefbfdngaa
open Go.RowKit
section
variable {A B C W D E : Int}
theorem q22 {u0 : World} {z : Gr u0} {k : Int} (hk : Hid ((if 0 < B then 1 else 0) + (if 0 < A then 2 else 0) = k)) : Calls Try.prog 22 #[.agg #[.int .i64 A, .int .i64 B, .int .i64 C, .int .i64 W, .int .i64 D, .int .i64 E]] (grw z) fun e w'' => e = .returned (.int .i64 k) ∧ ∃ z' : Gr u0, w'' = grw z' := gr_call (sort_any _ hk)
theorem q0 {u0 : World} {z : Gr u0} : Calls Try.prog 18 #[.agg #[.int .i64 A, .int .i64 B, .int .i64 C, .int .i64 W, .int .i64 D, .int .i64 E]] (grw z) fun e w'' => e = .returned (.tuple #[.int .i64 0, .bool true]) ∧ ∃ z' : Gr u0, w'' = grw z' := gr_call (atOnce_any _)
theorem q1 {u0 : World} {z : Gr u0} (hb0 : 0 ≤ B) (hb1 : B ≤ 9223372036854775807) (he0 : 0 ≤ E) (he1 : E ≤ 9223372036854775807) {n : Int} (hn : Hid ((if 0 < C then 0 else pz (B - E)) = n)) : Calls Try.prog 19 #[.agg #[.int .i64 A, .int .i64 B, .int .i64 C, .int .i64 W, .int .i64 D, .int .i64 E]] (grw z) fun e w'' => e = .returned (.tuple #[.int .i64 n, .bool true]) ∧ ∃ z' : Gr u0, w'' = grw z' := gr_call (some_any _ hb0 hb1 he0 he1 hn)
theorem q2 {u0 : World} {z : Gr u0} {b : Bool} (hb : Hid ((if A ≤ C then true else if W ≤ C then true else false) = b)) : Calls Try.prog 20 #[.agg #[.int .i64 A, .int .i64 B, .int .i64 C, .int .i64 W, .int .i64 D, .int .i64 E]] (grw z) fun e w'' => e = .returned (.tuple #[.int .i64 0, .bool b]) ∧ ∃ z' : Gr u0, w'' = grw z' := gr_call (count_any _ hb)
theorem q3 {u0 : World} {z : Gr u0} (hb0 : 0 ≤ B) (hb1 : B ≤ 9223372036854775807) (he0 : 0 ≤ D) (he1 : D ≤ 9223372036854775807) (hc0 : 0 ≤ C) {b : Bool} (hb : Hid ((if A ≤ C then true else if W ≤ C then true else false) = b)) {n : Int} {r : Bool} (hn : Hid ((if b = true then (0, true) else if C = 0 then (0, false) else (pz (B - D), true)) = (n, r))) : Calls Try.prog 21 #[.agg #[.int .i64 A, .int .i64 B, .int .i64 C, .int .i64 W, .int .i64 D, .int .i64 E]] (grw z) fun e w'' => e = .returned (.tuple #[.int .i64 n, .bool r]) ∧ ∃ z' : Gr u0, w'' = grw z' := gr_call (gap_any _ hb0 hb1 he0 he1 hc0 hb hn)
/-- What the program counts. -/
def tickP (A B C W D E : Int) : Int × Bool :=
  if W = 0 then (0, true) else if 0 < A then
    (if 0 < B then (if (if A ≤ C then true else if W ≤ C then true else false) = true then (0, true) else if C = 0 then (0, false) else (pz (B - D), true))
     else (0, if A ≤ C then true else if W ≤ C then true else false))
  else if 0 < B then (if 0 < C then 0 else pz (B - E), true) else (0, true)
set_option maxRecDepth 100000 in
set_option maxHeartbeats 4000000 in
theorem ticks_any (w : World) (hb0 : 0 ≤ B) (hb1 : B ≤ 9223372036854775807) (hd0 : 0 ≤ D) (hd1 : D ≤ 9223372036854775807) (he0 : 0 ≤ E) (he1 : E ≤ 9223372036854775807) (hc0 : 0 ≤ C) {n : Int} {r : Bool} (hn : Hid (tickP A B C W D E = (n, r))) :
    Calls Try.prog 16 #[.agg #[.int .i64 A, .int .i64 B, .int .i64 C, .int .i64 W, .int .i64 D, .int .i64 E]] w fun e w' => e = .returned (.tuple #[.int .i64 n, .bool r]) ∧ Hid (Below w.heap.size w w') := by
  by_cases h0 : W = 0
  · obtain ⟨rfl, rfl⟩ : 0 = n ∧ true = r := by have := hn.out; simpa [tickP, h0] using this
    subst h0
    clear hb0 hb1 hd0 hd1 he0 he1 hc0 hn
    go_enter Try.func16, Try.ntmps16
    go_wp2
    go_ret2
    exact ⟨rfl, bel_one w _⟩
  have hW : (W == 0) = false := beq_eq_false_iff_ne.2 h0
  obtain ⟨b, hb⟩ : ∃ b, Hid ((if A ≤ C then true else if W ≤ C then true else false) = b) := ⟨_, hid rfl⟩
  obtain ⟨k, hk⟩ : ∃ k : Int, Hid ((if 0 < B then 1 else 0) + (if 0 < A then 2 else 0) = k) := ⟨_, hid rfl⟩
  go_enter Try.func16, Try.ntmps16
  go_wp2
  obtain ⟨u, hu⟩ : ∃ u, u = (w.alloc (.cells #[.int .i64 A, .int .i64 B, .int .i64 C, .int .i64 W, .int .i64 D, .int .i64 E] 34)).alloc (.cells #[.func (.func 18) #[] #[], .func (.func 19) #[] #[], .func (.func 20) #[] #[], .func (.func 21) #[] #[]] 38) := ⟨_, rfl⟩
  have B0 : Box u w.heap.size 34 #[.int .i64 A, .int .i64 B, .int .i64 C, .int .i64 W, .int .i64 D, .int .i64 E] := by rw [hu]; exact box_below (Box.new w _ _) (bel_one _ _).out
  have B1 : Box u (w.heap.size + 1) 38 #[.func (.func 18) #[] #[], .func (.func 19) #[] #[], .func (.func 20) #[] #[], .func (.func 21) #[] #[]] := by
    have h := Box.new (w.alloc (.cells #[.int .i64 A, .int .i64 B, .int .i64 C, .int .i64 W, .int .i64 D, .int .i64 E] 34)) 38 #[.func (.func 18) #[] #[], .func (.func 19) #[] #[], .func (.func 20) #[] #[], .func (.func 21) #[] #[]]
    rw [← hu] at h
    simpa using h
  have K0 : Hid (Below w.heap.size w u) := by rw [hu]; exact bel_t (bel_one _ _) (bel_one _ _).out
  rw [← hu]
  clear hu
  obtain ⟨g, hg⟩ : ∃ g, w.heap.size = g := ⟨_, rfl⟩
  obtain ⟨f, hf⟩ : ∃ f, w.heap.size + 1 = f := ⟨_, rfl⟩
  rw [hg] at B0
  rw [hf] at B1
  simp only [hf]
  simp only [hg]
  have g0 : ∀ z : Gr u, (grw z).cell? ⟨g, 0, none⟩ = some (.int .i64 A) := fun z => gr_cell z (B0.cell 0)
  have g1 : ∀ z : Gr u, (grw z).cell? ⟨g, 1, none⟩ = some (.int .i64 B) := fun z => gr_cell z (B0.cell 1)
  have g2 : ∀ z : Gr u, (grw z).cell? ⟨g, 2, none⟩ = some (.int .i64 C) := fun z => gr_cell z (B0.cell 2)
  have g3 : ∀ z : Gr u, (grw z).cell? ⟨g, 3, none⟩ = some (.int .i64 W) := fun z => gr_cell z (B0.cell 3)
  have g4 : ∀ z : Gr u, (grw z).cell? ⟨g, 4, none⟩ = some (.int .i64 D) := fun z => gr_cell z (B0.cell 4)
  have g5 : ∀ z : Gr u, (grw z).cell? ⟨g, 5, none⟩ = some (.int .i64 E) := fun z => gr_cell z (B0.cell 5)
  clear B0
  by_cases h1 : 0 < A
  · by_cases h2 : 0 < B
    · obtain rfl : 3 = k := by rw [← hk.out]; simp [h1, h2]
      have gf : ∀ z : Gr u, (grw z).cell? ⟨f, 3, none⟩ = some (.func (.func 21) #[] #[]) := fun z => gr_cell z (B1.cell 3)
      have hn2 : Hid ((if b = true then (0, true) else if C = 0 then (0, false) else (pz (B - D), true)) = (n, r)) := hid (by rw [← hb.out, ← hn.out]; simp [tickP, h0, h1, h2])
      clear B1 h1 h2 hn hW h0
      refine wp_region_grown (by kernel_rfl) (by kernel_rfl) ?_
      repeat (go_big_quiet_step (first
        | (go_at_call 22; with_reducible exact q22 hk)
        | (go_at_call 21; with_reducible exact q3 hb0 hb1 hd0 hd1 hc0 hb hn2)))
      refine wpQuiet_nil ?_
      intro z
      have K6 := bel_t K0 z.b
      clear g0 g1 g2 g3 g4 g5 gf
      go_wp2
      go_ret2
      exact ⟨rfl, K6⟩
    · obtain rfl : 2 = k := by rw [← hk.out]; simp [h1, h2]
      have gf : ∀ z : Gr u, (grw z).cell? ⟨f, 2, none⟩ = some (.func (.func 20) #[] #[]) := fun z => gr_cell z (B1.cell 2)
      obtain ⟨rfl, rfl⟩ : 0 = n ∧ b = r := by have h := hn.out; rw [← hb.out]; simpa [tickP, h0, h1, h2] using h
      clear B1 h1 h2 hn hW h0
      refine wp_region_grown (by kernel_rfl) (by kernel_rfl) ?_
      repeat (go_big_quiet_step (first
        | (go_at_call 22; with_reducible exact q22 hk)
        | (go_at_call 20; with_reducible exact q2 hb)))
      refine wpQuiet_nil ?_
      intro z
      have K6 := bel_t K0 z.b
      clear g0 g1 g2 g3 g4 g5 gf
      go_wp2
      go_ret2
      exact ⟨rfl, K6⟩
  · by_cases h2 : 0 < B
    · obtain rfl : 1 = k := by rw [← hk.out]; simp [h1, h2]
      have gf : ∀ z : Gr u, (grw z).cell? ⟨f, 1, none⟩ = some (.func (.func 19) #[] #[]) := fun z => gr_cell z (B1.cell 1)
      obtain ⟨hn3, rfl⟩ : ((if 0 < C then 0 else pz (B - E)) = n) ∧ r = true := by have h := hn.out; simpa [tickP, h0, h1, h2] using h
      have hn2 := hid hn3
      clear hn3
      clear B1 h1 h2 hn hW h0
      refine wp_region_grown (by kernel_rfl) (by kernel_rfl) ?_
      repeat (go_big_quiet_step (first
        | (go_at_call 22; with_reducible exact q22 hk)
        | (go_at_call 19; with_reducible exact q1 hb0 hb1 he0 he1 hn2)))
      refine wpQuiet_nil ?_
      intro z
      have K6 := bel_t K0 z.b
      clear g0 g1 g2 g3 g4 g5 gf
      go_wp2
      go_ret2
      exact ⟨rfl, K6⟩
    · obtain rfl : 0 = k := by rw [← hk.out]; simp [h1, h2]
      have gf : ∀ z : Gr u, (grw z).cell? ⟨f, 0, none⟩ = some (.func (.func 18) #[] #[]) := fun z => gr_cell z (B1.cell 0)
      obtain ⟨rfl, rfl⟩ : 0 = n ∧ true = r := by have h := hn.out; simpa [tickP, h0, h1, h2] using h
      clear B1 h1 h2 hn hW h0
      refine wp_region_grown (by kernel_rfl) (by kernel_rfl) ?_
      repeat (go_big_quiet_step (first
        | (go_at_call 22; with_reducible exact q22 hk)
        | (go_at_call 18; with_reducible exact q0)))
      refine wpQuiet_nil ?_
      intro z
      have K6 := bel_t K0 z.b
      clear g0 g1 g2 g3 g4 g5 gf
      go_wp2
      go_ret2
      exact ⟨rfl, K6⟩
end
end Go.Proofs.Ytoefcdefbfdngaa
