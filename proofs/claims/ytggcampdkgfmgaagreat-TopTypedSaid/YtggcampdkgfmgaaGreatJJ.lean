import Derived.Test.YtggcampdkgfmgaaGreatJB
import Derived.Deep.DeepCutAuto
import Derived.Laws.EntriesVeiled
namespace Go.Proofs.YtggcampdkgfmgaaGreat.L14
open Go.RowKit

/-! Layer 14's maths: when a read is done, how long it takes; the document's Ready and Wait. -/
def pz (x : Int) : Int := max 0 x
theorem pz_pos {x : Int} (h : 0 < x) : pz x = x := by unfold pz; omega
theorem pz_neg {x : Int} (h : x ≤ 0) : pz x = 0 := by unfold pz; omega
theorem pz_le (x : Int) : 0 ≤ pz x := by unfold pz; omega
def doneP (A B C wn D E : Int) : Bool :=
  if wn ≤ 0 then true else if 0 < A then (if A ≤ C then true else if wn ≤ C then true else if 0 < B then (if 0 < C then decide (B ≤ D) else false) else false)
  else if B ≤ 0 then true else if 0 < C then true else decide (B ≤ E)
def readyP (A B C wn D E : Int) : Int × Bool := if doneP A B C wn D E = true then (if wn ≤ 0 then 0 else if C ≤ wn then C else wn, true) else (0, false)
def waitP (A B C wn D E : Int) : Int × Bool :=
  if doneP A B C wn D E = true then (0, true) else if B ≤ 0 then (0, false) else if 0 < A then (if C ≤ 0 then (0, false) else (B - D, true)) else (B - E, true)
def readyI (mn tm hv wn idl wt : Int) : Int × Bool := readyP (pz mn) (pz tm) (pz hv) wn (pz idl) (pz wt)
def waitI (mn tm hv wn idl wt : Int) : Int × Bool := waitP (pz mn) (pz tm) (pz hv) wn (pz idl) (pz wt)
theorem pair_eq {p q : Int × Bool} {n : Int} {b : Bool} (h : p = (n, b)) (hq : p = q) : n = q.1 ∧ b = q.2 := by rw [hq] at h; rw [h]; exact ⟨rfl, rfl⟩
end Go.Proofs.YtggcampdkgfmgaaGreat.L14
namespace Go.Proofs.YtggcampdkgfmgaaGreat.L14
open Go.RowKit

/-! Layer 14: the program's Ready and Wait. -/
instance (u0 : World) : Nonempty (Gr u0) := ⟨⟨u0, Below.refl _ _⟩⟩
theorem bel_one (w : World) (o : Obj) : Hid (Below w.heap.size w (w.alloc o)) := hid ((Below.refl _ w).alloc (Nat.le_refl _) _)
set_option maxRecDepth 100000 in
set_option maxHeartbeats 4000000 in
theorem newr_any (w : World) (mn tm hv wn idl wt : Int) :
    Calls Tryz.prog 135 #[.int .i64 mn, .int .i64 tm, .int .i64 hv, .int .i64 wn, .int .i64 idl, .int .i64 wt] w fun e w' => e = .returned (.agg #[.int .i64 (pz mn), .int .i64 (pz tm), .int .i64 (pz hv), .int .i64 (pz wn), .int .i64 (pz idl), .int .i64 (pz wt)]) ∧ Hid (Below w.heap.size w w') := by
  go_enter Tryz.func135, Tryz.ntmps135
  go_wp2
  all_goals
    refine bodyPost_ret (v := .agg #[.int .i64 (pz mn), .int .i64 (pz tm), .int .i64 (pz hv), .int .i64 (pz wn), .int .i64 (pz idl), .int .i64 (pz wt)]) (by simp [results, go_sem, pz_pos, pz_neg, *]) rfl ?_
    exact ⟨rfl, bel_one w _⟩
end Go.Proofs.YtggcampdkgfmgaaGreat.L14
namespace Go.Proofs.YtggcampdkgfmgaaGreat.L14
open Go.RowKit
theorem box_below {u W : World} {g : Nat} {t : TypeId} {cs : Array Value} (h : Box u g t cs) (hb : Below u.heap.size u W) : Box W g t cs := (hb.block g h.lt).trans h
section
variable {A B C W D E : Int}
set_option maxRecDepth 100000 in
set_option maxHeartbeats 4000000 in
theorem enough_any (w : World) {b : Bool} (hb : Hid ((if A ≤ C then true else if W ≤ C then true else false) = b)) :
    Calls Tryz.prog 187 #[.agg #[.int .i64 A, .int .i64 B, .int .i64 C, .int .i64 W, .int .i64 D, .int .i64 E]] w fun e w' => e = .returned (.bool b) ∧ Hid (Below w.heap.size w w') := by
  by_cases h1 : A ≤ C
  · obtain rfl : true = b := by rw [← hb.out]; simp [h1]
    go_enter Tryz.func187, Tryz.ntmps187
    go_wp2
    go_ret
    exact ⟨rfl, bel_one w _⟩
  · by_cases h2 : W ≤ C
    · obtain rfl : true = b := by rw [← hb.out]; simp [h2]
      go_enter Tryz.func187, Tryz.ntmps187
      go_wp2
      go_ret
      exact ⟨rfl, bel_one w _⟩
    · obtain rfl : false = b := by rw [← hb.out]; simp [h1, h2]
      go_enter Tryz.func187, Tryz.ntmps187
      go_wp2
      go_ret
      exact ⟨rfl, bel_one w _⟩
set_option maxRecDepth 100000 in
set_option maxHeartbeats 4000000 in
theorem sort_any (w : World) {k : Int} (hk : Hid ((if 0 < B then 1 else 0) + (if 0 < A then 2 else 0) = k)) :
    Calls Tryz.prog 171 #[.agg #[.int .i64 A, .int .i64 B, .int .i64 C, .int .i64 W, .int .i64 D, .int .i64 E]] w fun e w' => e = .returned (.int .i64 k) ∧ Hid (Below w.heap.size w w') := by
  by_cases h1 : 0 < B
  · by_cases h2 : 0 < A
    · obtain rfl : 3 = k := by rw [← hk.out]; simp [h1, h2]
      go_enter Tryz.func171, Tryz.ntmps171
      go_wp2
      go_ret
      exact ⟨rfl, bel_one w _⟩
    · obtain rfl : 1 = k := by rw [← hk.out]; simp [h1, h2]
      go_enter Tryz.func171, Tryz.ntmps171
      go_wp2
      go_ret
      exact ⟨rfl, bel_one w _⟩
  · by_cases h2 : 0 < A
    · obtain rfl : 2 = k := by rw [← hk.out]; simp [h1, h2]
      go_enter Tryz.func171, Tryz.ntmps171
      go_wp2
      go_ret
      exact ⟨rfl, bel_one w _⟩
    · obtain rfl : 0 = k := by rw [← hk.out]; simp [h1, h2]
      go_enter Tryz.func171, Tryz.ntmps171
      go_wp2
      go_ret
      exact ⟨rfl, bel_one w _⟩
set_option maxRecDepth 100000 in
set_option maxHeartbeats 4000000 in
theorem bytes_any (w : World) {m : Int} (hm : Hid ((if C ≤ W then C else W) = m)) :
    Calls Tryz.prog 137 #[.agg #[.int .i64 A, .int .i64 B, .int .i64 C, .int .i64 W, .int .i64 D, .int .i64 E]] w fun e w' => e = .returned (.int .i64 m) ∧ Hid (Below w.heap.size w w') := by
  by_cases h1 : C ≤ W
  · obtain rfl : C = m := by rw [← hm.out]; simp [h1]
    have hmm : min C W = C := by omega
    go_enter Tryz.func137, Tryz.ntmps137
    go_wp2
    go_ret
    exact ⟨rfl, bel_one w _⟩
  · obtain rfl : W = m := by rw [← hm.out]; simp [h1]
    have hmm : min C W = W := by omega
    go_enter Tryz.func137, Tryz.ntmps137
    go_wp2
    go_ret
    exact ⟨rfl, bel_one w _⟩
set_option maxRecDepth 100000 in
set_option maxHeartbeats 4000000 in
theorem atOnce_any (w : World)  :
    Calls Tryz.prog 167 #[.agg #[.int .i64 A, .int .i64 B, .int .i64 C, .int .i64 W, .int .i64 D, .int .i64 E]] w fun e w' => e = .returned (.tuple #[.int .i64 0, .bool true]) ∧ Hid (Below w.heap.size w w') := by
  go_enter Tryz.func167, Tryz.ntmps167
  go_wp2
  go_ret2
  exact ⟨rfl, bel_one w _⟩
set_option maxRecDepth 100000 in
set_option maxHeartbeats 4000000 in
theorem some_any (w : World) (hb0 : 0 ≤ B) (hb1 : B ≤ 9223372036854775807) (he0 : 0 ≤ E) (he1 : E ≤ 9223372036854775807) {n : Int} (hn : Hid ((if 0 < C then 0 else pz (B - E)) = n)) :
    Calls Tryz.prog 168 #[.agg #[.int .i64 A, .int .i64 B, .int .i64 C, .int .i64 W, .int .i64 D, .int .i64 E]] w fun e w' => e = .returned (.tuple #[.int .i64 n, .bool true]) ∧ Hid (Below w.heap.size w w') := by
  by_cases h1 : 0 < C
  · obtain rfl : 0 = n := by rw [← hn.out]; simp [h1]
    clear hb0 hb1 he0 he1
    go_enter Tryz.func168, Tryz.ntmps168
    go_wp2
    go_ret2
    exact ⟨rfl, bel_one w _⟩
  · have hn2 : pz (B - E) = n := by rw [← hn.out]; simp [h1]
    have hw : IntKind.i64.wrap (B - E) = B - E := by rw [IntKind.wrap_i64]; omega
    obtain ⟨z, hz⟩ : ∃ z, B - E = z := ⟨_, rfl⟩
    rw [hz] at hn2
    have hw2 : wrap64 (B - E) = z := by unfold wrap64; exact (IntKind.wrap_i64 _).symm.trans (hw.trans hz)
    clear hw hz hb0 hb1 he0 he1 hn
    by_cases h2 : 0 < z
    · rw [pz_pos h2] at hn2
      subst hn2
      go_enter Tryz.func168, Tryz.ntmps168
      go_wp2
      go_ret2
      exact ⟨rfl, bel_one w _⟩
    · rw [pz_neg (by omega)] at hn2
      subst hn2
      go_enter Tryz.func168, Tryz.ntmps168
      go_wp2
      go_ret2
      exact ⟨rfl, bel_one w _⟩
set_option maxRecDepth 100000 in
set_option maxHeartbeats 4000000 in
theorem count_any (w : World) {b : Bool} (hb : Hid ((if A ≤ C then true else if W ≤ C then true else false) = b)) :
    Calls Tryz.prog 169 #[.agg #[.int .i64 A, .int .i64 B, .int .i64 C, .int .i64 W, .int .i64 D, .int .i64 E]] w fun e w' => e = .returned (.tuple #[.int .i64 0, .bool b]) ∧ Hid (Below w.heap.size w w') := by
  go_enter Tryz.func169, Tryz.ntmps169
  go_wp2_with (first
    | (go_at_call 187
       (with_reducible refine (enough_any _ hb).mono ?_)
       rintro e u1 ⟨rfl, k1⟩
       have K1 := bel_t (bel_one w _) k1.out))
  go_ret2
  exact ⟨rfl, K1⟩
set_option maxRecDepth 100000 in
set_option maxHeartbeats 4000000 in
theorem gap_any (w : World) (hb0 : 0 ≤ B) (hb1 : B ≤ 9223372036854775807) (he0 : 0 ≤ D) (he1 : D ≤ 9223372036854775807) (hc0 : 0 ≤ C) {b : Bool} (hb : Hid ((if A ≤ C then true else if W ≤ C then true else false) = b)) {n : Int} {r : Bool} (hn : Hid ((if b = true then (0, true) else if C = 0 then (0, false) else (pz (B - D), true)) = (n, r))) :
    Calls Tryz.prog 170 #[.agg #[.int .i64 A, .int .i64 B, .int .i64 C, .int .i64 W, .int .i64 D, .int .i64 E]] w fun e w' => e = .returned (.tuple #[.int .i64 n, .bool r]) ∧ Hid (Below w.heap.size w w') := by
  have B0 : Hid (Box (w.alloc (.cells #[.int .i64 A, .int .i64 B, .int .i64 C, .int .i64 W, .int .i64 D, .int .i64 E] 207)) w.heap.size 207 #[.int .i64 A, .int .i64 B, .int .i64 C, .int .i64 W, .int .i64 D, .int .i64 E]) := hid (Box.new w _ _)
  cases b
  · by_cases h1 : C = 0
    · obtain ⟨rfl, rfl⟩ : 0 = n ∧ false = r := by have := hn.out; simpa [h1] using this
      subst h1
      clear hb0 hb1 he0 he1 hc0 hn
      go_enter Tryz.func170, Tryz.ntmps170
      go_wp2_with (first
        | (go_at_call 187
           (with_reducible refine (enough_any _ hb).mono ?_)
           rintro e u1 ⟨rfl, k1⟩
           have K1 := bel_t (bel_one w _) k1.out
           have c2 := (box_below B0.out k1.out).cell 2))
      go_ret2
      exact ⟨rfl, K1⟩
    · obtain ⟨hn2, rfl⟩ : pz (B - D) = n ∧ true = r := by have := hn.out; simpa [h1] using this
      have hw : IntKind.i64.wrap (B - D) = B - D := by rw [IntKind.wrap_i64]; omega
      have hc : (C == 0) = false := beq_eq_false_iff_ne.2 h1
      obtain ⟨z, hz⟩ : ∃ z, B - D = z := ⟨_, rfl⟩
      rw [hz] at hn2
      have hw2 : wrap64 (B - D) = z := by unfold wrap64; exact (IntKind.wrap_i64 _).symm.trans (hw.trans hz)
      clear hw hz hb0 hb1 he0 he1 hc0 hn
      by_cases h2 : 0 < z
      · rw [pz_pos h2] at hn2
        subst hn2
        go_enter Tryz.func170, Tryz.ntmps170
        go_wp2_with (first
          | (go_at_call 187
             (with_reducible refine (enough_any _ hb).mono ?_)
             rintro e u1 ⟨rfl, k1⟩
             have K1 := bel_t (bel_one w _) k1.out
             have c1 := (box_below B0.out k1.out).cell 1
             have c2 := (box_below B0.out k1.out).cell 2
             have c4 := (box_below B0.out k1.out).cell 4))
        go_ret2
        exact ⟨rfl, K1⟩
      · rw [pz_neg (by omega)] at hn2
        subst hn2
        go_enter Tryz.func170, Tryz.ntmps170
        go_wp2_with (first
          | (go_at_call 187
             (with_reducible refine (enough_any _ hb).mono ?_)
             rintro e u1 ⟨rfl, k1⟩
             have K1 := bel_t (bel_one w _) k1.out
             have c1 := (box_below B0.out k1.out).cell 1
             have c2 := (box_below B0.out k1.out).cell 2
             have c4 := (box_below B0.out k1.out).cell 4))
        go_ret2
        exact ⟨rfl, K1⟩
  · obtain ⟨rfl, rfl⟩ : 0 = n ∧ true = r := by have := hn.out; simpa using this
    clear hb0 hb1 he0 he1 hc0 hn
    go_enter Tryz.func170, Tryz.ntmps170
    go_wp2_with (first
      | (go_at_call 187
         (with_reducible refine (enough_any _ hb).mono ?_)
         rintro e u1 ⟨rfl, k1⟩
         have K1 := bel_t (bel_one w _) k1.out
))
    go_ret2
    exact ⟨rfl, K1⟩
end
end Go.Proofs.YtggcampdkgfmgaaGreat.L14
namespace Go.Proofs.YtggcampdkgfmgaaGreat.L14
open Go.RowKit
section
variable {A B C W D E : Int}
theorem q22 {u0 : World} {z : Gr u0} {k : Int} (hk : Hid ((if 0 < B then 1 else 0) + (if 0 < A then 2 else 0) = k)) : Calls Tryz.prog 171 #[.agg #[.int .i64 A, .int .i64 B, .int .i64 C, .int .i64 W, .int .i64 D, .int .i64 E]] (grw z) fun e w'' => e = .returned (.int .i64 k) ∧ ∃ z' : Gr u0, w'' = grw z' := gr_call (sort_any _ hk)
theorem q0 {u0 : World} {z : Gr u0} : Calls Tryz.prog 167 #[.agg #[.int .i64 A, .int .i64 B, .int .i64 C, .int .i64 W, .int .i64 D, .int .i64 E]] (grw z) fun e w'' => e = .returned (.tuple #[.int .i64 0, .bool true]) ∧ ∃ z' : Gr u0, w'' = grw z' := gr_call (atOnce_any _)
theorem q1 {u0 : World} {z : Gr u0} (hb0 : 0 ≤ B) (hb1 : B ≤ 9223372036854775807) (he0 : 0 ≤ E) (he1 : E ≤ 9223372036854775807) {n : Int} (hn : Hid ((if 0 < C then 0 else pz (B - E)) = n)) : Calls Tryz.prog 168 #[.agg #[.int .i64 A, .int .i64 B, .int .i64 C, .int .i64 W, .int .i64 D, .int .i64 E]] (grw z) fun e w'' => e = .returned (.tuple #[.int .i64 n, .bool true]) ∧ ∃ z' : Gr u0, w'' = grw z' := gr_call (some_any _ hb0 hb1 he0 he1 hn)
theorem q2 {u0 : World} {z : Gr u0} {b : Bool} (hb : Hid ((if A ≤ C then true else if W ≤ C then true else false) = b)) : Calls Tryz.prog 169 #[.agg #[.int .i64 A, .int .i64 B, .int .i64 C, .int .i64 W, .int .i64 D, .int .i64 E]] (grw z) fun e w'' => e = .returned (.tuple #[.int .i64 0, .bool b]) ∧ ∃ z' : Gr u0, w'' = grw z' := gr_call (count_any _ hb)
theorem q3 {u0 : World} {z : Gr u0} (hb0 : 0 ≤ B) (hb1 : B ≤ 9223372036854775807) (he0 : 0 ≤ D) (he1 : D ≤ 9223372036854775807) (hc0 : 0 ≤ C) {b : Bool} (hb : Hid ((if A ≤ C then true else if W ≤ C then true else false) = b)) {n : Int} {r : Bool} (hn : Hid ((if b = true then (0, true) else if C = 0 then (0, false) else (pz (B - D), true)) = (n, r))) : Calls Tryz.prog 170 #[.agg #[.int .i64 A, .int .i64 B, .int .i64 C, .int .i64 W, .int .i64 D, .int .i64 E]] (grw z) fun e w'' => e = .returned (.tuple #[.int .i64 n, .bool r]) ∧ ∃ z' : Gr u0, w'' = grw z' := gr_call (gap_any _ hb0 hb1 he0 he1 hc0 hb hn)
/-- What the program counts. -/
def tickP (A B C W D E : Int) : Int × Bool :=
  if W = 0 then (0, true) else if 0 < A then
    (if 0 < B then (if (if A ≤ C then true else if W ≤ C then true else false) = true then (0, true) else if C = 0 then (0, false) else (pz (B - D), true))
     else (0, if A ≤ C then true else if W ≤ C then true else false))
  else if 0 < B then (if 0 < C then 0 else pz (B - E), true) else (0, true)
set_option maxRecDepth 100000 in
set_option maxHeartbeats 4000000 in
theorem ticks_any (w : World) (hb0 : 0 ≤ B) (hb1 : B ≤ 9223372036854775807) (hd0 : 0 ≤ D) (hd1 : D ≤ 9223372036854775807) (he0 : 0 ≤ E) (he1 : E ≤ 9223372036854775807) (hc0 : 0 ≤ C) {n : Int} {r : Bool} (hn : Hid (tickP A B C W D E = (n, r))) :
    Calls Tryz.prog 136 #[.agg #[.int .i64 A, .int .i64 B, .int .i64 C, .int .i64 W, .int .i64 D, .int .i64 E]] w fun e w' => e = .returned (.tuple #[.int .i64 n, .bool r]) ∧ Hid (Below w.heap.size w w') := by
  by_cases h0 : W = 0
  · obtain ⟨rfl, rfl⟩ : 0 = n ∧ true = r := by have := hn.out; simpa [tickP, h0] using this
    subst h0
    clear hb0 hb1 hd0 hd1 he0 he1 hc0 hn
    go_enter Tryz.func136, Tryz.ntmps136
    go_wp2
    go_ret2
    exact ⟨rfl, bel_one w _⟩
  have hW : (W == 0) = false := beq_eq_false_iff_ne.2 h0
  obtain ⟨b, hb⟩ : ∃ b, Hid ((if A ≤ C then true else if W ≤ C then true else false) = b) := ⟨_, hid rfl⟩
  obtain ⟨k, hk⟩ : ∃ k : Int, Hid ((if 0 < B then 1 else 0) + (if 0 < A then 2 else 0) = k) := ⟨_, hid rfl⟩
  go_enter Tryz.func136, Tryz.ntmps136
  go_wp2
  obtain ⟨u, hu⟩ : ∃ u, u = (w.alloc (.cells #[.int .i64 A, .int .i64 B, .int .i64 C, .int .i64 W, .int .i64 D, .int .i64 E] 207)).alloc (.cells #[.func (.func 167) #[] #[], .func (.func 168) #[] #[], .func (.func 169) #[] #[], .func (.func 170) #[] #[]] 224) := ⟨_, rfl⟩
  have B0 : Box u w.heap.size 207 #[.int .i64 A, .int .i64 B, .int .i64 C, .int .i64 W, .int .i64 D, .int .i64 E] := by rw [hu]; exact box_below (Box.new w _ _) (bel_one _ _).out
  have B1 : Box u (w.heap.size + 1) 224 #[.func (.func 167) #[] #[], .func (.func 168) #[] #[], .func (.func 169) #[] #[], .func (.func 170) #[] #[]] := by
    have h := Box.new (w.alloc (.cells #[.int .i64 A, .int .i64 B, .int .i64 C, .int .i64 W, .int .i64 D, .int .i64 E] 207)) 224 #[.func (.func 167) #[] #[], .func (.func 168) #[] #[], .func (.func 169) #[] #[], .func (.func 170) #[] #[]]
    rw [← hu] at h
    simpa using h
  have K0 : Hid (Below w.heap.size w u) := by rw [hu]; exact bel_t (bel_one _ _) (bel_one _ _).out
  rw [← hu]
  clear hu
  obtain ⟨g, hg⟩ : ∃ g, w.heap.size = g := ⟨_, rfl⟩
  obtain ⟨f, hf⟩ : ∃ f, w.heap.size + 1 = f := ⟨_, rfl⟩
  rw [hg] at B0
  rw [hf] at B1
  simp only [hf]
  simp only [hg]
  have g0 : ∀ z : Gr u, (grw z).cell? ⟨g, 0, none⟩ = some (.int .i64 A) := fun z => gr_cell z (B0.cell 0)
  have g1 : ∀ z : Gr u, (grw z).cell? ⟨g, 1, none⟩ = some (.int .i64 B) := fun z => gr_cell z (B0.cell 1)
  have g2 : ∀ z : Gr u, (grw z).cell? ⟨g, 2, none⟩ = some (.int .i64 C) := fun z => gr_cell z (B0.cell 2)
  have g3 : ∀ z : Gr u, (grw z).cell? ⟨g, 3, none⟩ = some (.int .i64 W) := fun z => gr_cell z (B0.cell 3)
  have g4 : ∀ z : Gr u, (grw z).cell? ⟨g, 4, none⟩ = some (.int .i64 D) := fun z => gr_cell z (B0.cell 4)
  have g5 : ∀ z : Gr u, (grw z).cell? ⟨g, 5, none⟩ = some (.int .i64 E) := fun z => gr_cell z (B0.cell 5)
  clear B0
  by_cases h1 : 0 < A
  · by_cases h2 : 0 < B
    · obtain rfl : 3 = k := by rw [← hk.out]; simp [h1, h2]
      have gf : ∀ z : Gr u, (grw z).cell? ⟨f, 3, none⟩ = some (.func (.func 170) #[] #[]) := fun z => gr_cell z (B1.cell 3)
      have hn2 : Hid ((if b = true then (0, true) else if C = 0 then (0, false) else (pz (B - D), true)) = (n, r)) := hid (by rw [← hb.out, ← hn.out]; simp [tickP, h0, h1, h2])
      clear B1 h1 h2 hn hW h0
      refine wp_region_grown (by kernel_rfl) (by kernel_rfl) ?_
      repeat (go_big_quiet_step (first
        | (go_at_call 171; with_reducible exact q22 hk)
        | (go_at_call 170; with_reducible exact q3 hb0 hb1 hd0 hd1 hc0 hb hn2)))
      refine wpQuiet_nil ?_
      intro z
      have K6 := bel_t K0 z.b
      clear g0 g1 g2 g3 g4 g5 gf
      go_wp2
      go_ret2
      exact ⟨rfl, K6⟩
    · obtain rfl : 2 = k := by rw [← hk.out]; simp [h1, h2]
      have gf : ∀ z : Gr u, (grw z).cell? ⟨f, 2, none⟩ = some (.func (.func 169) #[] #[]) := fun z => gr_cell z (B1.cell 2)
      obtain ⟨rfl, rfl⟩ : 0 = n ∧ b = r := by have h := hn.out; rw [← hb.out]; simpa [tickP, h0, h1, h2] using h
      clear B1 h1 h2 hn hW h0
      refine wp_region_grown (by kernel_rfl) (by kernel_rfl) ?_
      repeat (go_big_quiet_step (first
        | (go_at_call 171; with_reducible exact q22 hk)
        | (go_at_call 169; with_reducible exact q2 hb)))
      refine wpQuiet_nil ?_
      intro z
      have K6 := bel_t K0 z.b
      clear g0 g1 g2 g3 g4 g5 gf
      go_wp2
      go_ret2
      exact ⟨rfl, K6⟩
  · by_cases h2 : 0 < B
    · obtain rfl : 1 = k := by rw [← hk.out]; simp [h1, h2]
      have gf : ∀ z : Gr u, (grw z).cell? ⟨f, 1, none⟩ = some (.func (.func 168) #[] #[]) := fun z => gr_cell z (B1.cell 1)
      obtain ⟨hn3, rfl⟩ : ((if 0 < C then 0 else pz (B - E)) = n) ∧ r = true := by have h := hn.out; simpa [tickP, h0, h1, h2] using h
      have hn2 := hid hn3
      clear hn3
      clear B1 h1 h2 hn hW h0
      refine wp_region_grown (by kernel_rfl) (by kernel_rfl) ?_
      repeat (go_big_quiet_step (first
        | (go_at_call 171; with_reducible exact q22 hk)
        | (go_at_call 168; with_reducible exact q1 hb0 hb1 he0 he1 hn2)))
      refine wpQuiet_nil ?_
      intro z
      have K6 := bel_t K0 z.b
      clear g0 g1 g2 g3 g4 g5 gf
      go_wp2
      go_ret2
      exact ⟨rfl, K6⟩
    · obtain rfl : 0 = k := by rw [← hk.out]; simp [h1, h2]
      have gf : ∀ z : Gr u, (grw z).cell? ⟨f, 0, none⟩ = some (.func (.func 167) #[] #[]) := fun z => gr_cell z (B1.cell 0)
      obtain ⟨rfl, rfl⟩ : 0 = n ∧ true = r := by have h := hn.out; simpa [tickP, h0, h1, h2] using h
      clear B1 h1 h2 hn hW h0
      refine wp_region_grown (by kernel_rfl) (by kernel_rfl) ?_
      repeat (go_big_quiet_step (first
        | (go_at_call 171; with_reducible exact q22 hk)
        | (go_at_call 167; with_reducible exact q0)))
      refine wpQuiet_nil ?_
      intro z
      have K6 := bel_t K0 z.b
      clear g0 g1 g2 g3 g4 g5 gf
      go_wp2
      go_ret2
      exact ⟨rfl, K6⟩
end
end Go.Proofs.YtggcampdkgfmgaaGreat.L14
namespace Go.Proofs.YtggcampdkgfmgaaGreat.L14
open Go.RowKit
theorem pz_top {x : Int} (h : x ≤ 9223372036854775807) : pz x ≤ 9223372036854775807 := by unfold pz; omega
/-- What the program counts is what the document counts. -/
theorem tick_wait {A B C wn D E : Int} (hb : 0 ≤ B) (hc : 0 ≤ C) : tickP A B C (pz wn) D E = waitP A B C wn D E := by
  unfold tickP waitP doneP pz
  repeat' split
  all_goals first | rfl | omega | (simp_all; omega) | simp_all
theorem wait_ready {A B C wn D E n : Int} {r : Bool} (hc : 0 ≤ C) (h : waitP A B C wn D E = (n, r)) :
    readyP A B C wn D E = if r = true ∧ ¬ 0 < n then (if C ≤ pz wn then C else pz wn, true) else (0, false) := by
  unfold waitP at h
  unfold readyP
  by_cases hd : doneP A B C wn D E = true
  · rw [if_pos hd] at h ⊢
    injection h with h1 h2
    subst h1 h2
    simp only [pz]
    repeat' split
    all_goals first | rfl | omega | (simp_all; omega) | simp_all
  · rw [if_neg hd] at h ⊢
    rw [if_neg]
    rintro ⟨rfl, h2⟩
    rw [Bool.not_eq_true] at hd
    unfold doneP at hd
    repeat' split at hd
    all_goals first | (cases hd; done) | skip
    all_goals (repeat' split at h)
    all_goals injection h with h1 h3
    all_goals first | (cases h3; done) | omega | (rw [decide_eq_false_iff_not] at hd; omega)
end Go.Proofs.YtggcampdkgfmgaaGreat.L14
namespace Go.Proofs.YtggcampdkgfmgaaGreat.L14
open Go.RowKit
theorem ready_way {mn tm hv wn idl wt n : Int} {b : Bool} (hR : Hid (readyI mn tm hv wn idl wt = (n, b))) : ∃ m r, Hid (tickP (pz mn) (pz tm) (pz hv) (pz wn) (pz idl) (pz wt) = (m, r)) ∧
    ((r = false ∧ n = 0 ∧ b = false) ∨ (r = true ∧ 0 < m ∧ n = 0 ∧ b = false) ∨ (r = true ∧ ¬ 0 < m ∧ b = true ∧ Hid ((if pz hv ≤ pz wn then pz hv else pz wn) = n))) := by
  obtain ⟨⟨m, r⟩, hw⟩ : ∃ z, waitP (pz mn) (pz tm) (pz hv) wn (pz idl) (pz wt) = z := ⟨_, rfl⟩
  have h := wait_ready (pz_le hv) hw
  have hr := hR.out
  unfold readyI at hr
  rw [h] at hr
  refine ⟨m, r, hid ((tick_wait (pz_le tm) (pz_le hv)).trans hw), ?_⟩
  cases r
  · left
    rw [if_neg (by simp)] at hr
    injection hr with a b
    exact ⟨rfl, a.symm, b.symm⟩
  · right
    by_cases hm : 0 < m
    · left
      rw [if_neg (by simp [hm])] at hr
      injection hr with a b
      exact ⟨rfl, hm, a.symm, b.symm⟩
    · right
      rw [if_pos ⟨rfl, hm⟩] at hr
      injection hr with a b
      exact ⟨rfl, hm, b.symm, hid a⟩
set_option maxRecDepth 100000 in
set_option maxHeartbeats 4000000 in
theorem readyp_any (w : World) (mn tm hv wn idl wt : Int) (_h1 : i64ok mn) (h2 : i64ok tm) (_h3 : i64ok hv) (_h4 : i64ok wn) (h5 : i64ok idl) (h6 : i64ok wt) {n : Int} {b : Bool} (hR : Hid (readyI mn tm hv wn idl wt = (n, b))) :
    Calls Tryz.prog 105 #[.int .i64 mn, .int .i64 tm, .int .i64 hv, .int .i64 wn, .int .i64 idl, .int .i64 wt] w fun e w' => e = .returned (.tuple #[.int .i64 n, .bool b]) ∧ Hid (Below w.heap.size w w') := by
  obtain ⟨m, r, hn, hz⟩ := ready_way hR
  obtain ⟨A, hA⟩ : ∃ A, pz mn = A := ⟨_, rfl⟩
  obtain ⟨B, hB⟩ : ∃ B, pz tm = B := ⟨_, rfl⟩
  obtain ⟨C, hC⟩ : ∃ C, pz hv = C := ⟨_, rfl⟩
  obtain ⟨W, hW⟩ : ∃ W, pz wn = W := ⟨_, rfl⟩
  obtain ⟨D, hD⟩ : ∃ D, pz idl = D := ⟨_, rfl⟩
  obtain ⟨E, hE⟩ : ∃ E, pz wt = E := ⟨_, rfl⟩
  have b0 : 0 ≤ B := hB ▸ pz_le tm
  have b1 : B ≤ 9223372036854775807 := hB ▸ pz_top h2.2
  have d0 : 0 ≤ D := hD ▸ pz_le idl
  have d1 : D ≤ 9223372036854775807 := hD ▸ pz_top h5.2
  have e0 : 0 ≤ E := hE ▸ pz_le wt
  have e1 : E ≤ 9223372036854775807 := hE ▸ pz_top h6.2
  have c0 : 0 ≤ C := hC ▸ pz_le hv
  rw [hA, hB, hC, hW, hD, hE] at hn
  rw [hC, hW] at hz
  clear hR h2 h5 h6
  rcases hz with ⟨rfl, rfl, rfl⟩ | ⟨rfl, hm, rfl, rfl⟩ | ⟨rfl, hm, rfl, hk⟩
  · go_enter Tryz.func105, Tryz.ntmps105
    go_wp2_with (first
      | (go_at_call 135
         (with_reducible refine (newr_any _ mn tm hv wn idl wt).mono ?_)
         rintro e u1 ⟨rfl, k1⟩
         rw [hA, hB, hC, hW, hD, hE]
         have K1 := bel_t k1 (bel_one u1 (.cells #[.int .i64 A, .int .i64 B, .int .i64 C, .int .i64 W, .int .i64 D, .int .i64 E] 207)).out)
      | (go_at_call 136
         (with_reducible refine (ticks_any _ b0 b1 d0 d1 e0 e1 c0 hn).mono ?_)
         rintro e u2 ⟨rfl, k2⟩))
    go_ret2
    exact ⟨rfl, bel_t K1 k2.out⟩
  · go_enter Tryz.func105, Tryz.ntmps105
    go_wp2_with (first
      | (go_at_call 135
         (with_reducible refine (newr_any _ mn tm hv wn idl wt).mono ?_)
         rintro e u1 ⟨rfl, k1⟩
         rw [hA, hB, hC, hW, hD, hE]
         have K1 := bel_t k1 (bel_one u1 (.cells #[.int .i64 A, .int .i64 B, .int .i64 C, .int .i64 W, .int .i64 D, .int .i64 E] 207)).out)
      | (go_at_call 136
         (with_reducible refine (ticks_any _ b0 b1 d0 d1 e0 e1 c0 hn).mono ?_)
         rintro e u2 ⟨rfl, k2⟩))
    go_ret2
    exact ⟨rfl, bel_t K1 k2.out⟩
  · go_enter Tryz.func105, Tryz.ntmps105
    go_wp2_with (first
      | (go_at_call 135
         (with_reducible refine (newr_any _ mn tm hv wn idl wt).mono ?_)
         rintro e u1 ⟨rfl, k1⟩
         rw [hA, hB, hC, hW, hD, hE]
         have K1 := bel_t k1 (bel_one u1 (.cells #[.int .i64 A, .int .i64 B, .int .i64 C, .int .i64 W, .int .i64 D, .int .i64 E] 207)).out)
      | (go_at_call 136
         (with_reducible refine (ticks_any _ b0 b1 d0 d1 e0 e1 c0 hn).mono ?_)
         rintro e u2 ⟨rfl, k2⟩
         have B0 := box_below (Box.new u1 207 #[.int .i64 A, .int .i64 B, .int .i64 C, .int .i64 W, .int .i64 D, .int .i64 E]) k2.out
         have z0 := B0.cell 0
         have z1 := B0.cell 1
         have z2 := B0.cell 2
         have z3 := B0.cell 3
         have z4 := B0.cell 4
         have z5 := B0.cell 5)
      | (go_at_call 137
         (with_reducible refine (bytes_any _ hk).mono ?_)
         rintro e u3 ⟨rfl, k3⟩))
    go_ret2
    exact ⟨rfl, bel_t (bel_t K1 k2.out) k3.out⟩
end Go.Proofs.YtggcampdkgfmgaaGreat.L14
