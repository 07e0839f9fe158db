import Derived.Test.YtjbmoiblkehbmaaDoorSGL
import Derived.Test.YtjbmoiblkehbmaaDoorSGO
namespace Go.Proofs.YtjbmoiblkehbmaaDoor
namespace L18
open Go.RowKit

/-! Layer 18: SigsetSets, the walk. -/
section
variable {w : World}
set_option maxRecDepth 100000 in
set_option maxHeartbeats 4000000 in
theorem sets_walk (H : Hid (TabW w)) {s : Nat} (hs : Hid (U64 s)) (g : Int) {A : Option Addr} {n c : Nat} {l : List Int} (hS : Hid (SlI w w.heap.size A c l)) (hn : Hid (l.length = n)) : Calls Tryd.prog 4 #[.int .u64 s, .int .i64 g, .slice A n c] w fun e w' => e = .returned (.bool true) ∧ Hid (Below w.heap.size w w') := by
  by_cases hbig : n ≤ 1000
  · obtain ⟨b, hb⟩ : ∃ z, Hid (hasS s g = z) := ⟨_, hid rfl⟩
    obtain ⟨x, hx⟩ : ∃ z, Hid (addS s g = z) := ⟨_, hid rfl⟩
    obtain ⟨y, hy⟩ : ∃ z, Hid (delS s g = z) := ⟨_, hid rfl⟩
    obtain ⟨ls, hls⟩ : ∃ z, Hid (listS s = z) := ⟨_, hid rfl⟩
    obtain ⟨t, ht⟩ : ∃ z, Hid (ofS l = z) := ⟨_, hid rfl⟩
    obtain ⟨v, hv⟩ : ∃ z, Hid (blockS s = z) := ⟨_, hid rfl⟩
    have hi : ¬ (n : Int) > 1000 := by omega
    have hn0 : n ≤ 1000000 := by omega
    go_enter Tryd.func4, Tryd.ntmps4
    go_wp2_with (first
      | (go_at_call 8
         (with_reducible refine (alive_any H).mono ?_)
         rintro e w1 ⟨rfl, B1⟩
         have H1 := TabW.below H B1.out)
      | (go_at_call 15
         (with_reducible refine (has_b H1 hs hb).mono ?_)
         rintro e w2 ⟨rfl, hw⟩
         obtain rfl := hw.symm)
      | (go_at_call 16
         (with_reducible refine (rhas_any _ hs hb).mono ?_)
         rintro e w3 ⟨rfl, C3⟩
         have B3 := bel_t B1 C3.out
         have H3 := TabW.below H B3.out)
      | (go_at_call 17
         (with_reducible refine (add_any H3 hs hx).mono ?_)
         rintro e w4 ⟨rfl, hw⟩
         obtain rfl := hw.symm)
      | (go_at_call 18
         (with_reducible refine (radd_any _ hs hx).mono ?_)
         rintro e w5 ⟨rfl, C5⟩
         have B5 := bel_t B3 C5.out
         have H5 := TabW.below H B5.out)
      | (go_at_call 19
         (with_reducible refine (del_any H5 hs hy).mono ?_)
         rintro e w6 ⟨rfl, hw⟩
         obtain rfl := hw.symm)
      | (go_at_call 20
         (with_reducible refine (rdel_any _ hs hy).mono ?_)
         rintro e w7 ⟨rfl, C7⟩
         have B7 := bel_t B5 C7.out
         have H7 := TabW.below H B7.out)
      | (go_at_call 22
         (with_reducible refine (list_any H7 hs hls).mono ?_)
         rintro e w8 ⟨A8, n8, c8, rfl, hn8, S8, C8⟩
         have B8 := bel_t B7 C8.out)
      | (go_at_call 23
         (with_reducible refine (rlist_any _ hs hls).mono ?_)
         rintro e w9 ⟨A9, n9, c9, rfl, hn9, S9, C9⟩
         have B9 := bel_t B8 C9.out
         have S8' := sli_up S8 C9.out)
      | (go_at_call 21
         (with_reducible refine (ints_same _ S8' hn8 S9 hn9).mono ?_)
         rintro e w10 ⟨rfl, C10⟩
         have B10 := bel_t B9 C10.out
         have H10 := TabW.below H B10.out
         have S10 := sli_up hS B10.out)
      | (go_at_call 24
         (with_reducible refine (of_any H10 S10 hn hn0 ht).mono ?_)
         rintro e w11 ⟨rfl, hw⟩
         obtain rfl := hw.symm)
      | (go_at_call 25
         (with_reducible refine (rof_any _ S10 hn hn0 ht).mono ?_)
         rintro e w12 ⟨rfl, C12⟩
         have B12 := bel_t B10 C12.out
         have H12 := TabW.below H B12.out)
      | (go_at_call 26
         (with_reducible refine (block_any H12 hs hv).mono ?_)
         rintro e w13 ⟨rfl, C13⟩
         have B13 := bel_t B12 C13.out)
      | (go_at_call 27
         (with_reducible refine (rblock_any _ hs hv).mono ?_)
         rintro e w14 ⟨rfl, C14⟩
         have B14 := bel_t B13 C14.out))
    go_ret
    exact ⟨rfl, B14⟩
  · have hi : (n : Int) > 1000 := by omega
    go_enter Tryd.func4, Tryd.ntmps4
    go_wp2_with (first
      | (go_at_call 8
         (with_reducible refine (alive_any H).mono ?_)
         rintro e w1 ⟨rfl, B1⟩))
    go_ret
    exact ⟨rfl, B1⟩
end
end L18
end Go.Proofs.YtjbmoiblkehbmaaDoor
