import Derived.Test.YtoefcdefbfdngaaSRBa
namespace Go.Proofs.Ytoefcdefbfdngaa
open Go.RowKit
theorem box_below {u W : World} {g : Nat} {t : TypeId} {cs : Array Value} (h : Box u g t cs) (hb : Below u.heap.size u W) : Box W g t cs := (hb.block g h.lt).trans h
section
variable {A B C W D E : Int}
set_option maxRecDepth 100000 in
set_option maxHeartbeats 4000000 in
theorem enough_any (w : World) {b : Bool} (hb : Hid ((if A ≤ C then true else if W ≤ C then true else false) = b)) :
    Calls Try.prog 23 #[.agg #[.int .i64 A, .int .i64 B, .int .i64 C, .int .i64 W, .int .i64 D, .int .i64 E]] w fun e w' => e = .returned (.bool b) ∧ Hid (Below w.heap.size w w') := by
  by_cases h1 : A ≤ C
  · obtain rfl : true = b := by rw [← hb.out]; simp [h1]
    go_enter Try.func23, Try.ntmps23
    go_wp2
    go_ret
    exact ⟨rfl, bel_one w _⟩
  · by_cases h2 : W ≤ C
    · obtain rfl : true = b := by rw [← hb.out]; simp [h2]
      go_enter Try.func23, Try.ntmps23
      go_wp2
      go_ret
      exact ⟨rfl, bel_one w _⟩
    · obtain rfl : false = b := by rw [← hb.out]; simp [h1, h2]
      go_enter Try.func23, Try.ntmps23
      go_wp2
      go_ret
      exact ⟨rfl, bel_one w _⟩
set_option maxRecDepth 100000 in
set_option maxHeartbeats 4000000 in
theorem sort_any (w : World) {k : Int} (hk : Hid ((if 0 < B then 1 else 0) + (if 0 < A then 2 else 0) = k)) :
    Calls Try.prog 22 #[.agg #[.int .i64 A, .int .i64 B, .int .i64 C, .int .i64 W, .int .i64 D, .int .i64 E]] w fun e w' => e = .returned (.int .i64 k) ∧ Hid (Below w.heap.size w w') := by
  by_cases h1 : 0 < B
  · by_cases h2 : 0 < A
    · obtain rfl : 3 = k := by rw [← hk.out]; simp [h1, h2]
      go_enter Try.func22, Try.ntmps22
      go_wp2
      go_ret
      exact ⟨rfl, bel_one w _⟩
    · obtain rfl : 1 = k := by rw [← hk.out]; simp [h1, h2]
      go_enter Try.func22, Try.ntmps22
      go_wp2
      go_ret
      exact ⟨rfl, bel_one w _⟩
  · by_cases h2 : 0 < A
    · obtain rfl : 2 = k := by rw [← hk.out]; simp [h1, h2]
      go_enter Try.func22, Try.ntmps22
      go_wp2
      go_ret
      exact ⟨rfl, bel_one w _⟩
    · obtain rfl : 0 = k := by rw [← hk.out]; simp [h1, h2]
      go_enter Try.func22, Try.ntmps22
      go_wp2
      go_ret
      exact ⟨rfl, bel_one w _⟩
set_option maxRecDepth 100000 in
set_option maxHeartbeats 4000000 in
theorem bytes_any (w : World) {m : Int} (hm : Hid ((if C ≤ W then C else W) = m)) :
    Calls Try.prog 17 #[.agg #[.int .i64 A, .int .i64 B, .int .i64 C, .int .i64 W, .int .i64 D, .int .i64 E]] w fun e w' => e = .returned (.int .i64 m) ∧ Hid (Below w.heap.size w w') := by
  by_cases h1 : C ≤ W
  · obtain rfl : C = m := by rw [← hm.out]; simp [h1]
    have hmm : min C W = C := by omega
    go_enter Try.func17, Try.ntmps17
    go_wp2
    go_ret
    exact ⟨rfl, bel_one w _⟩
  · obtain rfl : W = m := by rw [← hm.out]; simp [h1]
    have hmm : min C W = W := by omega
    go_enter Try.func17, Try.ntmps17
    go_wp2
    go_ret
    exact ⟨rfl, bel_one w _⟩
set_option maxRecDepth 100000 in
set_option maxHeartbeats 4000000 in
theorem atOnce_any (w : World)  :
    Calls Try.prog 18 #[.agg #[.int .i64 A, .int .i64 B, .int .i64 C, .int .i64 W, .int .i64 D, .int .i64 E]] w fun e w' => e = .returned (.tuple #[.int .i64 0, .bool true]) ∧ Hid (Below w.heap.size w w') := by
  go_enter Try.func18, Try.ntmps18
  go_wp2
  go_ret2
  exact ⟨rfl, bel_one w _⟩
set_option maxRecDepth 100000 in
set_option maxHeartbeats 4000000 in
theorem some_any (w : World) (hb0 : 0 ≤ B) (hb1 : B ≤ 9223372036854775807) (he0 : 0 ≤ E) (he1 : E ≤ 9223372036854775807) {n : Int} (hn : Hid ((if 0 < C then 0 else pz (B - E)) = n)) :
    Calls Try.prog 19 #[.agg #[.int .i64 A, .int .i64 B, .int .i64 C, .int .i64 W, .int .i64 D, .int .i64 E]] w fun e w' => e = .returned (.tuple #[.int .i64 n, .bool true]) ∧ Hid (Below w.heap.size w w') := by
  by_cases h1 : 0 < C
  · obtain rfl : 0 = n := by rw [← hn.out]; simp [h1]
    clear hb0 hb1 he0 he1
    go_enter Try.func19, Try.ntmps19
    go_wp2
    go_ret2
    exact ⟨rfl, bel_one w _⟩
  · have hn2 : pz (B - E) = n := by rw [← hn.out]; simp [h1]
    have hw : IntKind.i64.wrap (B - E) = B - E := by rw [IntKind.wrap_i64]; omega
    obtain ⟨z, hz⟩ : ∃ z, B - E = z := ⟨_, rfl⟩
    rw [hz] at hn2
    have hw2 : wrap64 (B - E) = z := by unfold wrap64; exact (IntKind.wrap_i64 _).symm.trans (hw.trans hz)
    clear hw hz hb0 hb1 he0 he1 hn
    by_cases h2 : 0 < z
    · rw [pz_pos h2] at hn2
      subst hn2
      go_enter Try.func19, Try.ntmps19
      go_wp2
      go_ret2
      exact ⟨rfl, bel_one w _⟩
    · rw [pz_neg (by omega)] at hn2
      subst hn2
      go_enter Try.func19, Try.ntmps19
      go_wp2
      go_ret2
      exact ⟨rfl, bel_one w _⟩
set_option maxRecDepth 100000 in
set_option maxHeartbeats 4000000 in
theorem count_any (w : World) {b : Bool} (hb : Hid ((if A ≤ C then true else if W ≤ C then true else false) = b)) :
    Calls Try.prog 20 #[.agg #[.int .i64 A, .int .i64 B, .int .i64 C, .int .i64 W, .int .i64 D, .int .i64 E]] w fun e w' => e = .returned (.tuple #[.int .i64 0, .bool b]) ∧ Hid (Below w.heap.size w w') := by
  go_enter Try.func20, Try.ntmps20
  go_wp2_with (first
    | (go_at_call 23
       (with_reducible refine (enough_any _ hb).mono ?_)
       rintro e u1 ⟨rfl, k1⟩
       have K1 := bel_t (bel_one w _) k1.out))
  go_ret2
  exact ⟨rfl, K1⟩
set_option maxRecDepth 100000 in
set_option maxHeartbeats 4000000 in
theorem gap_any (w : World) (hb0 : 0 ≤ B) (hb1 : B ≤ 9223372036854775807) (he0 : 0 ≤ D) (he1 : D ≤ 9223372036854775807) (hc0 : 0 ≤ C) {b : Bool} (hb : Hid ((if A ≤ C then true else if W ≤ C then true else false) = b)) {n : Int} {r : Bool} (hn : Hid ((if b = true then (0, true) else if C = 0 then (0, false) else (pz (B - D), true)) = (n, r))) :
    Calls Try.prog 21 #[.agg #[.int .i64 A, .int .i64 B, .int .i64 C, .int .i64 W, .int .i64 D, .int .i64 E]] w fun e w' => e = .returned (.tuple #[.int .i64 n, .bool r]) ∧ Hid (Below w.heap.size w w') := by
  have B0 : Hid (Box (w.alloc (.cells #[.int .i64 A, .int .i64 B, .int .i64 C, .int .i64 W, .int .i64 D, .int .i64 E] 34)) w.heap.size 34 #[.int .i64 A, .int .i64 B, .int .i64 C, .int .i64 W, .int .i64 D, .int .i64 E]) := hid (Box.new w _ _)
  cases b
  · by_cases h1 : C = 0
    · obtain ⟨rfl, rfl⟩ : 0 = n ∧ false = r := by have := hn.out; simpa [h1] using this
      subst h1
      clear hb0 hb1 he0 he1 hc0 hn
      go_enter Try.func21, Try.ntmps21
      go_wp2_with (first
        | (go_at_call 23
           (with_reducible refine (enough_any _ hb).mono ?_)
           rintro e u1 ⟨rfl, k1⟩
           have K1 := bel_t (bel_one w _) k1.out
           have c2 := (box_below B0.out k1.out).cell 2))
      go_ret2
      exact ⟨rfl, K1⟩
    · obtain ⟨hn2, rfl⟩ : pz (B - D) = n ∧ true = r := by have := hn.out; simpa [h1] using this
      have hw : IntKind.i64.wrap (B - D) = B - D := by rw [IntKind.wrap_i64]; omega
      have hc : (C == 0) = false := beq_eq_false_iff_ne.2 h1
      obtain ⟨z, hz⟩ : ∃ z, B - D = z := ⟨_, rfl⟩
      rw [hz] at hn2
      have hw2 : wrap64 (B - D) = z := by unfold wrap64; exact (IntKind.wrap_i64 _).symm.trans (hw.trans hz)
      clear hw hz hb0 hb1 he0 he1 hc0 hn
      by_cases h2 : 0 < z
      · rw [pz_pos h2] at hn2
        subst hn2
        go_enter Try.func21, Try.ntmps21
        go_wp2_with (first
          | (go_at_call 23
             (with_reducible refine (enough_any _ hb).mono ?_)
             rintro e u1 ⟨rfl, k1⟩
             have K1 := bel_t (bel_one w _) k1.out
             have c1 := (box_below B0.out k1.out).cell 1
             have c2 := (box_below B0.out k1.out).cell 2
             have c4 := (box_below B0.out k1.out).cell 4))
        go_ret2
        exact ⟨rfl, K1⟩
      · rw [pz_neg (by omega)] at hn2
        subst hn2
        go_enter Try.func21, Try.ntmps21
        go_wp2_with (first
          | (go_at_call 23
             (with_reducible refine (enough_any _ hb).mono ?_)
             rintro e u1 ⟨rfl, k1⟩
             have K1 := bel_t (bel_one w _) k1.out
             have c1 := (box_below B0.out k1.out).cell 1
             have c2 := (box_below B0.out k1.out).cell 2
             have c4 := (box_below B0.out k1.out).cell 4))
        go_ret2
        exact ⟨rfl, K1⟩
  · obtain ⟨rfl, rfl⟩ : 0 = n ∧ true = r := by have := hn.out; simpa using this
    clear hb0 hb1 he0 he1 hc0 hn
    go_enter Try.func21, Try.ntmps21
    go_wp2_with (first
      | (go_at_call 23
         (with_reducible refine (enough_any _ hb).mono ?_)
         rintro e u1 ⟨rfl, k1⟩
         have K1 := bel_t (bel_one w _) k1.out
))
    go_ret2
    exact ⟨rfl, K1⟩
end
end Go.Proofs.Ytoefcdefbfdngaa
