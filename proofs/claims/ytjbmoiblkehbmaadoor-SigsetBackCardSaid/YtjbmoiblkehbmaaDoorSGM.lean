import Derived.Test.YtjbmoiblkehbmaaDoorSGL
namespace Go.Proofs.YtjbmoiblkehbmaaDoor
namespace L18
open Go.RowKit

/-! Layer 18: SigsetNames, the walk. -/
section
variable {w : World}
theorem num_t (H : Hid (TabW w)) {n : ByteArray} {o : Option Int} (ho : Hid (numS n = o)) {x : Int} {b : Bool} (hx : Hid (o.getD 0 = x)) (hb : Hid (o.isSome = b)) : Calls Tryd.prog 11 #[.string n] w fun e w' => e = .returned (.tuple #[.int .i64 x, .bool b]) ∧ w' = w := by
  rw [← hx.out, ← hb.out]
  exact num_any H ho
theorem rnum_t (w : World) {n : ByteArray} {o : Option Int} (ho : Hid (numS n = o)) {x : Int} {b : Bool} (hx : Hid (o.getD 0 = x)) (hb : Hid (o.isSome = b)) : Calls Tryd.prog 12 #[.string n] w fun e w' => e = .returned (.tuple #[.int .i64 x, .bool b]) ∧ Hid (Below w.heap.size w w') := by
  rw [← hx.out, ← hb.out]
  exact rnum_any w ho
set_option maxRecDepth 100000 in
set_option maxHeartbeats 4000000 in
theorem names_walk (H : Hid (TabW w)) (g : Int) (n : ByteArray) : Calls Tryd.prog 3 #[.int .i64 g, .string n] w fun e w' => e = .returned (.bool true) ∧ Hid (Below w.heap.size w w') := by
  obtain ⟨m, hm⟩ : ∃ z, Hid (nmS g = z) := ⟨_, hid rfl⟩
  obtain ⟨k, hk⟩ : ∃ z, Hid (known g = z) := ⟨_, hid rfl⟩
  obtain ⟨o, ho⟩ : ∃ z, Hid (numS n = z) := ⟨_, hid rfl⟩
  obtain ⟨x, hx⟩ : ∃ z, Hid (o.getD 0 = z) := ⟨_, hid rfl⟩
  obtain ⟨b, hb⟩ : ∃ z, Hid (o.isSome = z) := ⟨_, hid rfl⟩
  obtain ⟨v, hv⟩ : ∃ z, Hid (wiS g = z) := ⟨_, hid rfl⟩
  go_enter Tryd.func3, Tryd.ntmps3
  go_wp2_with (first
    | (go_at_call 8
       (with_reducible refine (alive_any H).mono ?_)
       rintro e w1 ⟨rfl, B1⟩
       have H1 := TabW.below H B1.out)
    | (go_at_call 9
       (with_reducible refine (name_any H1 hm hk).mono ?_)
       rintro e w2 ⟨rfl, hw⟩
       obtain rfl := hw.symm)
    | (go_at_call 10
       (with_reducible refine (rname_any _ hm hk).mono ?_)
       rintro e w3 ⟨rfl, C3⟩
       have B3 := bel_t B1 C3.out
       have H3 := TabW.below H B3.out)
    | (go_at_call 11
       (with_reducible refine (num_t H3 ho hx hb).mono ?_)
       rintro e w4 ⟨rfl, hw⟩
       obtain rfl := hw.symm)
    | (go_at_call 12
       (with_reducible refine (rnum_t _ ho hx hb).mono ?_)
       rintro e w5 ⟨rfl, C5⟩
       have B5 := bel_t B3 C5.out
       have H5 := TabW.below H B5.out)
    | (go_at_call 13
       (with_reducible refine (wire_any H5 hv).mono ?_)
       rintro e w6 ⟨rfl, hw⟩
       obtain rfl := hw.symm)
    | (go_at_call 14
       (with_reducible refine (rwire_any _ hv).mono ?_)
       rintro e w7 ⟨rfl, C7⟩
       have B7 := bel_t B5 C7.out))
  go_ret
  exact ⟨rfl, B7⟩
end
end L18
end Go.Proofs.YtjbmoiblkehbmaaDoor
