import Derived.Test.YtnodlpbmlfdijaaEH
import Derived.Lib.SlBytesConst
namespace Go.Proofs.Ytnodlpbmlfdijaa
open Go.RowKit

theorem slb_litm (w : World) (bs : List UInt8) (n : Nat) (cs : Array Value) (fr : Nat × Nat) (hc : (bv bs).toArray = cs) (hn : bs.length = n) (hm : n ≤ maxLen) : SlB (w.alloc (.cells cs 5 fr)) (w.alloc (.cells cs 5 fr)).heap.size (some ⟨w.heap.size, 0, none⟩) n bs := by
  subst hc hn
  refine ⟨Nat.le_refl _, hm, by simp, ?_⟩
  have := lit_lies w (bv bs).toArray 5 fr w.heap.size rfl
  rw [World.size_alloc]
  simpa using this
theorem cut_lit (u : World) (n : Nat) (cs : Array Value) (fr : Nat × Nat) (_bs xs ys : List UInt8) (fn : FuncId) (t : Tm) (g : Nat) (hg : g = u.heap.size) (h : Calls Try.prog fn #[.agg t.cs, .slice (some ⟨u.heap.size, 0, none⟩) n n] (u.alloc (.cells cs 5 fr)) (Cut (u.alloc (.cells cs 5 fr)) xs ys)) :
    Calls Try.prog fn #[.agg t.cs, .slice (some ⟨g, 0, none⟩) n n] (u.alloc (.cells cs 5 fr)) (Cut u xs ys) := by
  subst hg
  refine h.mono ?_
  rintro e w' ⟨A1, n1, c1, A2, n2, c2, rfl, h1, h2, h3, h4, h5⟩
  exact ⟨A1, n1, c1, A2, n2, c2, rfl, h1, h2, hid (own_mono h3.out (by simp)), hid (own_mono h4.out (by simp)), hid (((Below.refl _ u).alloc (Nat.le_refl _) _).trans (h5.out.mono (by simp)))⟩
def D42 : Tm := setT dT 42 true
theorem ok42 : D42.Ok := setT_ok dT_ok _ _
theorem has0 : hasN dT.f 42 = false := by decide
theorem has1 : hasN D42.f 42 = true := by decide
theorem wl1 (u : World) : Calls Try.prog 12 #[.agg dT.cs, .slice (some ⟨u.heap.size, 0, none⟩) 6 6] (u.alloc (.cells #[.int .u8 97, .int .u8 98, .int .u8 32, .int .u8 99, .int .u8 100, .int .u8 32] 5 (6, 7))) (Cut u [97, 98, 32] [99, 100, 32]) :=
  cut_lit u 6 _ (6, 7) [97, 98, 32, 99, 100, 32] _ _ 12 dT _ rfl (word_any (u := false) _ dT dT_ok _ 6 6 [97, 98, 32, 99, 100, 32] (hid has0) (hid (slb_litm u _ 6 _ (6, 7) rfl rfl (by decide))) rfl (by decide))
theorem wl2 (u : World) : Calls Try.prog 10 #[.agg D42.cs, .slice (some ⟨u.heap.size, 0, none⟩) 3 3] (u.alloc (.cells #[.int .u8 97, .int .u8 195, .int .u8 169] 5)) (Cut u [97] [195, 169]) :=
  cut_lit u 3 _ (0, 0) [97, 195, 169] _ _ 10 D42 _ rfl (erase_any (u := true) _ D42 ok42 _ 3 3 [97, 195, 169] (hid has1) (hid (slb_lit u _ 3 _ rfl rfl (by decide))) rfl (by decide))
theorem wl3 (u : World) : Calls Try.prog 10 #[.agg dT.cs, .slice (some ⟨u.heap.size, 0, none⟩) 3 3] (u.alloc (.cells #[.int .u8 97, .int .u8 195, .int .u8 169] 5)) (Cut u [97, 195] [169]) :=
  cut_lit u 3 _ (0, 0) [97, 195, 169] _ _ 10 dT _ rfl (erase_any (u := false) _ dT dT_ok _ 3 3 [97, 195, 169] (hid has0) (hid (slb_lit u _ 3 _ rfl rfl (by decide))) rfl (by decide))
theorem str_back (w : World) (B : Nat) (A : Option Addr) (c : Nat) (tx : List UInt8) (h : Lies w B A (bv tx)) :
    (convert 27 9 (.slice A tx.length c)).run Try.prog w = .ok (.string ⟨tx.toArray⟩) w := by
  by_cases hn : tx = []
  · subst hn
    refine (run_convert_bytes_string w 27 9 5 A 0 c Try.underlying27 Try.underlying5 Try.underlying9).trans ?_
    cases A with
    | none => simp [Conv.bytesToString]; rfl
    | some a => simp [Conv.bytesToString, loadCells, loadCellsFrom]; rfl
  · obtain ⟨b, o, rfl, _, hc⟩ := h (by simpa [bv] using hn)
    exact run_convert_bytes_back w 27 9 5 ⟨b, o, none⟩ c tx Try.underlying27 Try.underlying5 Try.underlying9 fun j hj => by
      rw [Addr.add_lit]
      exact hc j _ (by simp [bv, hj])
set_option maxRecDepth 100000 in
set_option maxHeartbeats 4000000 in
theorem alive_any (w : World) : Calls Try.prog 7 #[] w fun e w' => e = .returned (.bool true) ∧ Hid (Below w.heap.size w w') := by
  have hs := hid (cs_size dT_ok.len)
  have kc := fun (w : World) (C : Array Value) (n c : Nat) => Lib.run_convert_bytes_const (P := Try.prog) w 27 5 C n c Try.underlying27 Try.underlying5
  go_enter Try.func7, Try.ntmps7
  go_wp2_with (first
    | (go_at_call 21
       (with_reducible refine (default_any _).mono ?_)
       rintro e w1 ⟨rfl, K1⟩)
    | (refine sn26 (by rfl) _ _ (by rfl) w1 _ rfl rfl (by rfl) dT dT_ok.len (by rfl) ?_
       intro u1 G1 k1
       have B1 := bel_t K1 k1.out
       clear K1 k1)
    | (refine ld26 (by rfl) _ (by rfl) _ (by rfl) dT.cs G1.out hs.out ?_)
    | (refine ld26 (by rfl) _ (by rfl) _ (by rfl) dT.cs G2.out hs.out ?_)
    | (refine ld26 (by rfl) _ (by rfl) _ (by rfl) dT.cs G4.out hs.out ?_)
    | (go_at_call 12
       (with_reducible refine (wl1 u1).mono ?_)
       rintro e u2 ⟨A1, n1, c1, A2, n2, c2, rfl, h1, h2, o1, o2, K2⟩
       obtain rfl : n1 = 3 := h1.out.symm
       obtain rfl : n2 = 3 := h2.out.symm
       have B2 := bel_t B1 K2.out
       have G2 := hid (box_below G1.out K2.out)
       clear K2 G1 B1 h1 h2)
    | (go_at_call 20
       (with_reducible refine (set_b _ dT_ok (show setT dT 42 true = D42 from rfl)).mono ?_)
       rintro e u3 ⟨rfl, K3⟩
       have B3 := bel_t B2 K3.out
       have G3 := hid (box_below G2.out K3.out)
       have o13 := hid (own_keep o1.out K3.out)
       have o23 := hid (own_keep o2.out K3.out)
       clear K3 G2 B2 o1 o2)
    | (go_at_call 10
       (first
         | ((with_reducible refine (wl2 u3).mono ?_)
            rintro e u4 ⟨A4, n4, c4, A5, n5, c5, rfl, h4, h5, _, _, K4⟩
            obtain rfl : n4 = 1 := h4.out.symm
            obtain rfl : n5 = 2 := h5.out.symm
            have B4 := bel_t B3 K4.out
            have G4 := hid (box_below G3.out K4.out)
            have o14 := hid (own_keep o13.out K4.out)
            have o24 := hid (own_keep o23.out K4.out)
            clear K4 G3 B3 h4 h5 o13 o23)
         | ((with_reducible refine (wl3 u4).mono ?_)
            rintro e u5 ⟨A6, n6, c6, A7, n7, c7, rfl, h6, h7, _, _, K5⟩
            obtain rfl : n6 = 2 := h6.out.symm
            obtain rfl : n7 = 1 := h7.out.symm
            have B5 := bel_t B4 K5.out
            have o15 := hid (own_keep o14.out K5.out)
            have o25 := hid (own_keep o24.out K5.out)
            have v1 : (convert 27 9 (.slice A1 3 c1)).run Try.prog u5 = .ok (.string ⟨#[97, 98, 32]⟩) u5 := str_back u5 _ A1 c1 [97, 98, 32] (Lies.own o15.out)
            have v2 : (convert 27 9 (.slice A2 3 c2)).run Try.prog u5 = .ok (.string ⟨#[99, 100, 32]⟩) u5 := str_back u5 _ A2 c2 [99, 100, 32] (Lies.own o25.out)
            clear K5 G4 B4 h6 h7 o14 o24))))
  go_ret
  exact ⟨rfl, B5⟩
theorem call_alive {a w : World} (h : Hid (Below a.heap.size a w)) : Calls Try.prog 7 #[] w fun e w' => e = .returned (.bool true) ∧ Hid (Below w.heap.size w w') ∧ Hid (Below a.heap.size a w') :=
  (alive_any w).mono fun _ _ ⟨h1, h2⟩ => ⟨h1, h2, bel_t h h2.out⟩
end Go.Proofs.Ytnodlpbmlfdijaa
