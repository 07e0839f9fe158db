import Derived.Test.YtgollkckdnaegaaHL
import Derived.Lib.SlBytesConst
namespace Go.Proofs.Ytgollkckdnaegaa
open Go.RowKit

/-! The document's examples. -/
theorem slb_litm (w : World) (bs : List UInt8) (n : Nat) (cs : Array Value) (fr : Nat × Nat) (hc : (bv bs).toArray = cs) (hn : bs.length = n) (hm : n ≤ maxLen) : SlB (w.alloc (.cells cs 5 fr)) (w.alloc (.cells cs 5 fr)).heap.size (some ⟨w.heap.size, 0, none⟩) n bs := by
  subst hc hn
  refine ⟨Nat.le_refl _, hm, by simp, ?_⟩
  have := lit_lies w (bv bs).toArray 5 fr w.heap.size rfl
  rw [World.size_alloc]
  simpa using this
theorem str_back (w : World) (B : Nat) (A : Option Addr) (c : Nat) (tx : List UInt8) (h : Lies w B A (bv tx)) :
    (convert 27 9 (.slice A tx.length c)).run Try.prog w = .ok (.string ⟨tx.toArray⟩) w := by
  by_cases hn : tx = []
  · subst hn
    refine (run_convert_bytes_string w 27 9 5 A 0 c Try.underlying27 Try.underlying5 Try.underlying9).trans ?_
    cases A with
    | none => simp [Conv.bytesToString]; rfl
    | some a => simp [Conv.bytesToString, loadCells, loadCellsFrom]; rfl
  · obtain ⟨b, o, rfl, _, hc⟩ := h (by simpa [bv] using hn)
    exact run_convert_bytes_back w 27 9 5 ⟨b, o, none⟩ c tx Try.underlying27 Try.underlying5 Try.underlying9 fun j hj => by
      rw [Addr.add_lit]
      exact hc j _ (by simp [bv, hj])
theorem l3 (u : World) : Calls Try.prog 10 #[.agg dT.cs, .int .u8 3] u (Own u [94, 67]) := show_any u dT_ok 3 (hid (by decide : hasN dT.f 60 = true))
theorem l127 (u : World) : Calls Try.prog 10 #[.agg dT.cs, .int .u8 127] u (Own u [94, 63]) := show_any u dT_ok 127 (hid (by decide : hasN dT.f 60 = true))
theorem l9 (u : World) : Calls Try.prog 10 #[.agg dT.cs, .int .u8 9] u (Own u [9]) := show_any u dT_ok 9 (hid (by decide : hasN dT.f 60 = true))
theorem lrub (u : World) (fr fr2 : Nat × Nat) (g g2 : Nat) (hg : g = u.heap.size) (hg2 : g2 = u.heap.size + 1) : Calls Try.prog 19 #[.agg dT.cs, .int .i64 0, .slice (some ⟨g, 0, none⟩) 2 2, .slice (some ⟨g2, 0, none⟩) 1 1] ((u.alloc (.cells #[.int .u8 97, .int .u8 98] 5 fr)).alloc (.cells #[.int .u8 9] 5 fr2)) fun e w' => ∃ p, e = .returned (.slice (some p) 18 18) ∧ Hid (Below u.heap.size u w') := by
  subst hg hg2
  have b1 := (Below.refl u.heap.size u).alloc (Nat.le_refl _) (.cells #[.int .u8 97, .int .u8 98] 5 fr)
  have b2 := (Below.refl (u.alloc (.cells #[.int .u8 97, .int .u8 98] 5 fr)).heap.size (u.alloc (.cells #[.int .u8 97, .int .u8 98] 5 fr))).alloc (Nat.le_refl _) (.cells #[.int .u8 9] 5 fr2)
  have S1 := slb_at (hid (slb_litm u [97, 98] 2 #[.int .u8 97, .int .u8 98] fr rfl rfl (by decide))) (hid b2)
  have S2 : Hid (SlB ((u.alloc (.cells #[.int .u8 97, .int .u8 98] 5 fr)).alloc (.cells #[.int .u8 9] 5 fr2)) ((u.alloc (.cells #[.int .u8 97, .int .u8 98] 5 fr)).alloc (.cells #[.int .u8 9] 5 fr2)).heap.size (some ⟨u.heap.size + 1, 0, none⟩) 1 [9]) := by
    have h := slb_litm (u.alloc (.cells #[.int .u8 97, .int .u8 98] 5 fr)) [9] 1 #[.int .u8 9] fr2 rfl rfl (by decide)
    rwa [World.size_alloc u] at h
  refine (rub_any _ dT_ok 0 _ _ 2 1 2 1 [97, 98] [9] (hid (by decide : hasN dT.f 60 = true)) (hid (by decide : hasN dT.f 42 = false)) S1 S2 (hid rfl) (hid rfl) (by decide)).mono ?_
  rintro e w' ⟨p, n, rfl, hn, _, hb⟩
  obtain rfl : n = 18 := hn.out.symm.trans (by decide)
  exact ⟨p, rfl, hid ((b1.trans (b2.mono (by simp))).trans (hb.out.mono (by simp; omega)))⟩
set_option maxRecDepth 100000 in
set_option maxHeartbeats 4000000 in
theorem alive_any (w : World) : Calls Try.prog 8 #[] w fun e w' => e = .returned (.bool true) ∧ Hid (Below w.heap.size w w') := by
  have hs := hid (cs_size dT_ok.len)
  have kc := fun (w : World) (C : Array Value) (n c : Nat) => Lib.run_convert_bytes_const (P := Try.prog) w 27 5 C n c Try.underlying27 Try.underlying5
  have kc2 : ∀ u : World, (convert 27 27 (.slice (some ⟨u.heap.size + 1, 0, none⟩) 1 1)).run Try.prog ((u.alloc (.cells #[.int .u8 97, .int .u8 98] 5 (2, 3))).alloc (.cells #[.int .u8 9] 5)) = .ok (.slice (some ⟨u.heap.size + 1, 0, none⟩) 1 1) ((u.alloc (.cells #[.int .u8 97, .int .u8 98] 5 (2, 3))).alloc (.cells #[.int .u8 9] 5 (1, 2))) := fun u => by
    have h := kc (u.alloc (.cells #[.int .u8 97, .int .u8 98] 5 (2, 3))) #[.int .u8 9] 1 1
    rw [World.size_alloc u] at h
    exact h
  go_enter Try.func8, Try.ntmps8
  go_wp2_with (first
    | (go_at_call 22
       (with_reducible refine (default_any _).mono ?_)
       rintro e w1 ⟨rfl, K1⟩)
    | (refine sn26 (by rfl) _ _ (by rfl) w1 _ rfl rfl (by rfl) dT dT_ok.len (by rfl) ?_
       intro u1 G1 k1
       have B1 := bel_t K1 k1.out
       clear K1 k1)
    | (refine ld26 (by rfl) _ (by rfl) _ (by rfl) dT.cs G1.out hs.out ?_)
    | (refine ld26 (by rfl) _ (by rfl) _ (by rfl) dT.cs G2.out hs.out ?_)
    | (refine ld26 (by rfl) _ (by rfl) _ (by rfl) dT.cs G3.out hs.out ?_)
    | (refine ld26 (by rfl) _ (by rfl) _ (by rfl) dT.cs G4.out hs.out ?_)
    | (go_at_call 10
       (first
         | ((with_reducible refine (l3 u1).mono ?_)
            rintro e u2 ⟨A2, n2, c2, rfl, h2, o2, k2⟩
            obtain rfl : n2 = 2 := h2.out.symm
            have v2 : (convert 27 9 (.slice A2 2 c2)).run Try.prog u2 = .ok (.string ⟨#[94, 67]⟩) u2 := str_back u2 _ A2 c2 [94, 67] (Lies.own o2.out)
            have B2 := bel_t B1 k2.out
            have G2 := hid (box_below G1.out k2.out)
            clear k2 G1 B1 h2 o2)
         | ((with_reducible refine (l127 u2).mono ?_)
            rintro e u3 ⟨A3, n3, c3, rfl, h3, o3, k3⟩
            obtain rfl : n3 = 2 := h3.out.symm
            have v3 : (convert 27 9 (.slice A3 2 c3)).run Try.prog u3 = .ok (.string ⟨#[94, 63]⟩) u3 := str_back u3 _ A3 c3 [94, 63] (Lies.own o3.out)
            have B3 := bel_t B2 k3.out
            have G3 := hid (box_below G2.out k3.out)
            clear k3 G2 B2 h3 o3 v2)
         | ((with_reducible refine (l9 u3).mono ?_)
            rintro e u4 ⟨A4, n4, c4, rfl, h4, o4, k4⟩
            obtain rfl : n4 = 1 := h4.out.symm
            have v4 : (convert 27 9 (.slice A4 1 c4)).run Try.prog u4 = .ok (.string ⟨#[9]⟩) u4 := str_back u4 _ A4 c4 [9] (Lies.own o4.out)
            have B4 := bel_t B3 k4.out
            have G4 := hid (box_below G3.out k4.out)
            clear k4 G3 B3 h4 o4 v3)))
    | (go_at_call 19
       (with_reducible refine (lrub u4 _ _ _ _ rfl (by simp)).mono ?_)
       rintro e u5 ⟨p5, rfl, k5⟩
       have B5 := bel_t B4 k5.out))
  go_ret
  exact ⟨rfl, B5⟩
theorem call_alive {a w : World} (h : Hid (Below a.heap.size a w)) : Calls Try.prog 8 #[] w fun e w' => e = .returned (.bool true) ∧ Hid (Below w.heap.size w w') ∧ Hid (Below a.heap.size a w') :=
  (alive_any w).mono fun _ _ ⟨h1, h2⟩ => ⟨h1, h2, bel_t h h2.out⟩
end Go.Proofs.Ytgollkckdnaegaa
