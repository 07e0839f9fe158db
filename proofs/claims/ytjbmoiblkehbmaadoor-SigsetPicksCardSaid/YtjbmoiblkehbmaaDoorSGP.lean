import Derived.Test.YtjbmoiblkehbmaaDoorSGL
namespace Go.Proofs.YtjbmoiblkehbmaaDoor
namespace L18
open Go.RowKit

/-! Layer 18: SigsetPicks, the walk. -/
section
variable {w : World}
theorem pick_t (H : Hid (TabW w)) {p m : Nat} (hp : Hid (U64 p)) (hm : Hid (U64 m)) {o : Option Int} (ho : Hid (pickS p m = o)) {x : Int} {b : Bool} (hx : Hid (o.getD 0 = x)) (hb : Hid (o.isSome = b)) : Calls Tryd.prog 32 #[.int .u64 p, .int .u64 m] w fun e w' => e = .returned (.tuple #[.int .i64 x, .bool b]) ∧ Hid (Below w.heap.size w w') := by
  rw [← hx.out, ← hb.out]
  exact pick_any H hp hm ho
theorem rpick_t (w : World) {p m : Nat} (hp : Hid (U64 p)) (hm : Hid (U64 m)) {o : Option Int} (ho : Hid (pickS p m = o)) {x : Int} {b : Bool} (hx : Hid (o.getD 0 = x)) (hb : Hid (o.isSome = b)) : Calls Tryd.prog 33 #[.int .u64 p, .int .u64 m] w fun e w' => e = .returned (.tuple #[.int .i64 x, .bool b]) ∧ Hid (Below w.heap.size w w') := by
  rw [← hx.out, ← hb.out]
  exact rpick_any w hp hm ho
set_option maxRecDepth 100000 in
set_option maxHeartbeats 4000000 in
theorem picks_walk (H : Hid (TabW w)) {p m : Nat} (hp : Hid (U64 p)) (hm : Hid (U64 m)) : Calls Tryd.prog 6 #[.int .u64 p, .int .u64 m] w fun e w' => e = .returned (.bool true) ∧ Hid (Below w.heap.size w w') := by
  cases hq : pickS p m with
  | none =>
    have ho := hid hq
    have hx : Hid ((none : Option Int).getD 0 = 0) := hid rfl
    have hb : Hid ((none : Option Int).isSome = false) := hid rfl
    clear hq
    go_enter Tryd.func6, Tryd.ntmps6
    go_wp2_with (first
      | (go_at_call 8
         (with_reducible refine (alive_any H).mono ?_)
         rintro e w1 ⟨rfl, B1⟩
         have H1 := TabW.below H B1.out)
      | (go_at_call 32
         (with_reducible refine (pick_t H1 hp hm ho hx hb).mono ?_)
         rintro e w2 ⟨rfl, C2⟩
         have B2 := bel_t B1 C2.out)
      | (go_at_call 33
         (with_reducible refine (rpick_t _ hp hm ho hx hb).mono ?_)
         rintro e w3 ⟨rfl, C3⟩
         have B3 := bel_t B2 C3.out))
    go_ret
    exact ⟨rfl, B3⟩
  | some g =>
    have ho := hid hq
    have hx : Hid ((some g : Option Int).getD 0 = g) := hid rfl
    have hb : Hid ((some g : Option Int).isSome = true) := hid rfl
    obtain ⟨hp1, hm1⟩ := pick_has hq
    have HP := hid hp1
    obtain ⟨p2, hp2⟩ : ∃ z, Hid (delS p g = z) := ⟨_, hid rfl⟩
    have HP2 : Hid (U64 p2) := hid (by rw [← hp2.out]; exact delS_lt hp.out g)
    obtain ⟨o2, ho2⟩ : ∃ z, Hid (pickS p2 m = z) := ⟨_, hid rfl⟩
    obtain ⟨x2, hx2⟩ : ∃ z, Hid (o2.getD 0 = z) := ⟨_, hid rfl⟩
    obtain ⟨b2, hb2⟩ : ∃ z, Hid (o2.isSome = z) := ⟨_, hid rfl⟩
    have HE : Hid ((!b2 || (x2 != g)) = true) := hid (by
      rw [← hb2.out, ← hx2.out]
      cases hq2 : o2 with
      | none => rfl
      | some k =>
        have := pick_del hq k (by rw [hp2.out, ho2.out, hq2])
        simpa using this)
    obtain ⟨r, hr⟩ : ∃ z, Hid (hasS m g = z) := ⟨_, hid rfl⟩
    have HR : Hid (g = 9 ∨ g = 19 ∨ r = false) := hid (by
      by_cases h9 : g = 9
      · exact .inl h9
      · by_cases h19 : g = 19
        · exact .inr (.inl h19)
        · exact .inr (.inr (by rw [← hr.out]; exact hm1 h9 h19)))
    clear hq hp1 hm1
    have t1 : (g == 9) = true ∨ (g == 9) = false ∧ ((g == 19) = true ∨ (g == 19) = false ∧ r = false) := by
      rcases HR.out with h | h | h
      · exact .inl (by simpa using h)
      · by_cases h9 : g = 9
        · exact .inl (by simpa using h9)
        · exact .inr ⟨by simpa using h9, .inl (by simpa using h)⟩
      · by_cases h9 : g = 9
        · exact .inl (by simpa using h9)
        · by_cases h19 : g = 19
          · exact .inr ⟨by simpa using h9, .inl (by simpa using h19)⟩
          · exact .inr ⟨by simpa using h9, .inr ⟨by simpa using h19, h⟩⟩
    have t2 : ((g != 9) = !(g == 9)) ∧ ((g != 19) = !(g == 19)) := ⟨rfl, rfl⟩
    obtain ⟨u9, hu9⟩ : ∃ z, (g != 9) = z := ⟨_, rfl⟩
    obtain ⟨u19, hu19⟩ : ∃ z, (g != 19) = z := ⟨_, rfl⟩
    have HU : Hid (u9 = false ∨ u9 = true ∧ (u19 = false ∨ u19 = true ∧ r = false)) := hid (by
      rw [t2.1] at hu9
      rw [t2.2] at hu19
      rcases t1 with h | ⟨h, h | ⟨h', h⟩⟩
      · rw [h] at hu9; exact .inl hu9.symm
      · rw [‹(g == 9) = false›] at hu9; rw [h] at hu19; exact .inr ⟨hu9.symm, .inl hu19.symm⟩
      · rw [‹(g == 9) = false›] at hu9; rw [h'] at hu19; exact .inr ⟨hu9.symm, .inr ⟨hu19.symm, h⟩⟩)
    clear t1 t2 HR
    have HB2 : Hid (b2 = false ∨ b2 = true ∧ (x2 != g) = true) := hid (by
      have := HE.out
      cases b2
      · exact .inl rfl
      · exact .inr ⟨rfl, by simpa using this⟩)
    clear HE
    rcases HU.out with h9 | ⟨h9, h19 | ⟨h19, hr0⟩⟩
    all_goals
      clear HU
      try subst h9
      try subst h19
      try subst hr0
      rcases HB2.out with h2 | ⟨h2, h2x⟩
    all_goals
      clear HB2
      subst h2
      go_enter Tryd.func6, Tryd.ntmps6
      go_wp2_with (first
        | (go_at_call 8
           (with_reducible refine (alive_any H).mono ?_)
           rintro e w1 ⟨rfl, B1⟩
           have H1 := TabW.below H B1.out)
        | (go_at_call 32
           (first
            | ((with_reducible refine (pick_t H1 hp hm ho hx hb).mono ?_)
               rintro e w2 ⟨rfl, C2⟩
               have B2 := bel_t B1 C2.out)
            | ((with_reducible refine (pick_t H3 HP2 hm ho2 hx2 hb2).mono ?_)
               rintro e w5 ⟨rfl, C5⟩
               have B5 := bel_t B3 C5.out)))
        | (go_at_call 33
           (with_reducible refine (rpick_t _ hp hm ho hx hb).mono ?_)
           rintro e w3 ⟨rfl, C3⟩
           have B3 := bel_t B2 C3.out
           have H3 := TabW.below H B3.out)
        | (go_at_call 15
           (first
            | (with_reducible refine (has_b H3 hp HP).mono ?_)
            | (with_reducible refine (has_b H3 hm hr).mono ?_))
           rintro e w4 ⟨rfl, hw⟩
           obtain rfl := hw.symm)
        | (go_at_call 19
           (with_reducible refine (del_any H3 hp hp2).mono ?_)
           rintro e w4 ⟨rfl, hw⟩
           obtain rfl := hw.symm))
      go_ret
      exact ⟨rfl, B5⟩
end
end L18
end Go.Proofs.YtjbmoiblkehbmaaDoor
