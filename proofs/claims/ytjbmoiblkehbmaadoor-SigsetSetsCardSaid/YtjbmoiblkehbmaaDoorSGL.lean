import Derived.Test.YtjbmoiblkehbmaaDoorSGK
namespace Go.Proofs.YtjbmoiblkehbmaaDoor
namespace L18
open Go.RowKit

/-! Layer 18: the document's examples. -/
section
variable {w : World}
theorem num_no (H : Hid (TabW w)) {n : ByteArray} (ho : Hid (numS n = none)) : Calls Tryd.prog 11 #[.string n] w fun e w' => e = .returned (.tuple #[.int .i64 0, .bool false]) ∧ w' = w := num_any H ho
theorem pick_some (H : Hid (TabW w)) {p m : Nat} (hp : Hid (U64 p)) (hm : Hid (U64 m)) {g : Int} (ho : Hid (pickS p m = some g)) : Calls Tryd.prog 32 #[.int .u64 p, .int .u64 m] w fun e w' => e = .returned (.tuple #[.int .i64 g, .bool true]) ∧ Hid (Below w.heap.size w w') := pick_any H hp hm ho
theorem act_b (H : Hid (TabW w)) {a b : List Int} {g how er : Int} (ha : Hid (a.length = 32)) (hb : Hid (actA a g how = b)) (he : Hid (actE g how = er)) : Calls Tryd.prog 28 #[.agg (arr a), .int .i64 g, .int .i64 how] w fun e w' => e = .returned (.tuple #[.agg (arr b), .int .i64 er]) ∧ Hid (Below w.heap.size w w') := by
  rw [← hb.out, ← he.out]
  exact act_any H ha g how
set_option maxRecDepth 100000 in
set_option maxHeartbeats 4000000 in
theorem alive_any (H : Hid (TabW w)) : Calls Tryd.prog 8 #[] w fun e w' => e = .returned (.bool true) ∧ Hid (Below w.heap.size w w') := by
  obtain ⟨n, hn⟩ : ∃ n, Hid (nmS 2 = n) := ⟨_, hid rfl⟩
  have k2 : Hid (known 2 = true) := hid (by decide)
  have t1 : (n.toList == [73, 78, 84]) = true := by
    rw [← hn.out, ByteArray.toList_eq]
    decide
  have hno : Hid (numS ⟨#[83, 73, 71, 73, 78, 84]⟩ = none) := hid (by decide +kernel)
  have hz : Hid (zero32.length = 32) := hid rfl
  obtain ⟨b, hb⟩ : ∃ b, Hid (actA zero32 20 1 = b) := ⟨_, hid rfl⟩
  have hbl : Hid (b.length = 32) := hid (by rw [← hb.out]; exact act_len rfl _ _)
  have he : Hid (actE 20 1 = 0) := hid (by decide)
  have he1 : Hid (effA zero32 20 = 4) := hid (by decide)
  have he2 : Hid (effA b 20 = 3) := hid (by rw [← hb.out]; decide)
  obtain ⟨s, hs⟩ : ∃ s, Hid (ofS [2, 9] = s) := ⟨_, hid rfl⟩
  have hsU : Hid (U64 s) := hid (by rw [← hs.out]; exact ofS_lt _)
  have hp : Hid (pickS s s = some 9) := hid (by rw [← hs.out]; decide +kernel)
  have hl2 : Hid ([(2 : Int), 9].length = 2) := hid rfl
  have B1 : ∀ o, Hid (Below w.heap.size w (w.alloc o)) := fun o => bel_al (hid (Below.refl _ _))
  have H1 : ∀ o, Hid (TabW (w.alloc o)) := fun o => TabW.below H (B1 o).out
  have X1 := hid (Box.new w 44 (arr zero32))
  rw [zero_arr] at X1
  go_enter Tryd.func8, Tryd.ntmps8
  go_wp2_with (first
    | (go_at_call 9
       (with_reducible refine (name_any H hn k2).mono ?_)
       rintro e w1 ⟨rfl, hw1⟩
       obtain rfl := hw1.symm)
    | (go_at_call 11
       (with_reducible refine (num_no H hno).mono ?_)
       rintro e w1 ⟨rfl, hw1⟩
       obtain rfl := hw1.symm)
    | (refine ldP (by rfl) _ (by rfl) _ (by rfl) zero32 X1 hz ?_)
    | (go_at_call 28
       (with_reducible refine (act_b (H1 _) hz hb he).mono ?_)
       rintro e w2 ⟨rfl, B2⟩
       have B3 := bel_t (B1 _) B2.out
       have X2 := hid (box_below X1.out B2.out))
    | (refine stP (by rfl) _ _ (by rfl) _ (by rfl) b hbl (by rfl) _ (hid (Box.new w2 44 _)) (by rfl) ?_
       intro w9 HB9 HT9
       have B9 := hid ((B3.out.alloc B3.out.size _).trans (HT9.out.below B3.out.size))
       have H9 := TabW.below H B9.out
       have X9 := hid ((box_below X2.out ((Below.refl _ w2).alloc (Nat.le_refl _) _)).same (HT9.out.block _ (by have := X2.out.lt; omega)))
       have B10 : ∀ o, Hid (Below w.heap.size w (w9.alloc o)) := fun o => bel_al B9
       have H10 : ∀ o, Hid (TabW (w9.alloc o)) := fun o => TabW.below H (B10 o).out
       have S10 := sli_lit w9 [(2 : Int), 9] 2 w9.heap.size #[.int .i64 2, .int .i64 9] rfl rfl (by decide) rfl
       have X10 := fun o => hid (box_below X9.out ((Below.refl _ w9).alloc (Nat.le_refl _) o))
       have Y10 := fun o => hid (box_below HB9.out ((Below.refl _ w9).alloc (Nat.le_refl _) o)))
    | (go_at_call 24
       (with_reducible refine (of_any (H10 _) S10 hl2 (by decide) hs).mono ?_)
       rintro e w11 ⟨rfl, hw11⟩
       obtain rfl := hw11.symm)
    | (go_at_call 32
       (with_reducible refine (pick_some (H10 _) hsU hsU hp).mono ?_)
       rintro e w12 ⟨rfl, B12⟩
       have B13 := bel_t (B10 _) B12.out
       have H13 := TabW.below H B13.out
       have X13 := hid (box_below (X10 _).out B12.out)
       have Y13 := hid (box_below (Y10 _).out B12.out))
    | (refine ldP (by rfl) _ (by rfl) _ (by rfl) zero32 X13 hz ?_)
    | (go_at_call 30
       (first
        | ((with_reducible refine (eff_any H13 hz he1).mono ?_)
           rintro e w14 ⟨rfl, B14⟩
           have B15 := bel_t B13 B14.out
           have H15 := TabW.below H B15.out
           have Y15 := hid (box_below Y13.out B14.out))
        | ((with_reducible refine (eff_any H15 hbl he2).mono ?_)
           rintro e w16 ⟨rfl, B16⟩
           have B17 := bel_t B15 B16.out)))
    | (refine ldP (by rfl) _ (by rfl) _ (by rfl) b Y15 hbl ?_))
  go_ret
  exact ⟨rfl, B17⟩
end
end L18
end Go.Proofs.YtjbmoiblkehbmaaDoor
