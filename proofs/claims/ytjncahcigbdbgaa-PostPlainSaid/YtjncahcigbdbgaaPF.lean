import Derived.Test.YtjncahcigbdbgaaPE
namespace Go.Proofs.Ytjncahcigbdbgaa
open Go.RowKit

/-! Layer 12: the document's examples. -/
def fD : PoF := poF dT
def tO : Tm := setT dT 74 true
theorem tO_ok : tO.Ok := setT_ok dT_ok _ _
theorem lb1 (u : World) (fr : Nat × Nat) (g : Nat) (hg : g = u.heap.size) : Calls Try.prog 11 #[.agg dT.cs, .int .i64 0, .slice (some ⟨g, 0, none⟩) 2 2] (u.alloc (.cells #[.int .u8 97, .int .u8 10] 5 fr)) (RetP u ([97, 13, 10], 0)) := by
  subst hg
  have b1 := (Below.refl u.heap.size u).alloc (Nat.le_refl _) (.cells #[.int .u8 97, .int .u8 10] 5 fr)
  refine (bytesp_any _ dT_ok 0 _ 2 2 [97, 10] (f := fD) (hid rfl) (hid (slb_litm u [97, 10] 2 #[.int .u8 97, .int .u8 10] fr rfl rfl (by decide))) rfl (by decide)).mono ?_
  rw [show bytesP fD (nrm 0) [97, 10] = ([97, 13, 10], 0) by decide]
  rintro e w' ⟨A, n, c, rfl, hn, hS, hb⟩
  exact ⟨A, n, c, rfl, hn, hS, hid (b1.trans (hb.out.mono (by simp)))⟩
theorem lb2 (u : World) : Calls Try.prog 8 #[.agg tO.cs, .int .i64 0, .int .u8 13] u (RetP u ([], 0)) := by
  have h := bytep_any u tO_ok 0 13 (f := poF tO) (hid rfl)
  rw [show byteP (poF tO) (nrm 0) 13 = ([], 0) by decide] at h
  exact h
theorem lb3 (u : World) (g : Nat) (hg : g = u.heap.size) : Calls Try.prog 13 #[.agg dT.cs, .int .i64 0, .slice (some ⟨g, 0, none⟩) 3 3, .int .i64 5] (u.alloc (.cells #[.int .u8 10, .int .u8 10, .int .u8 10] 5)) fun e w' => e = .returned (.int .i64 2) ∧ Hid (Below u.heap.size u w') := by
  subst hg
  have b1 := (Below.refl u.heap.size u).alloc (Nat.le_refl _) (.cells #[.int .u8 10, .int .u8 10, .int .u8 10] 5)
  refine (fitp_any _ dT_ok 0 _ 3 3 [10, 10, 10] 5 (f := fD) (hid rfl) (hid (slb_lit u [10, 10, 10] 3 #[.int .u8 10, .int .u8 10, .int .u8 10] rfl rfl (by decide))) rfl (by decide) (by decide)).mono ?_
  rw [show fitP fD (nrm 0) [10, 10, 10] 5 = 2 by decide]
  rintro e w' ⟨rfl, hb⟩
  exact ⟨rfl, hid (b1.trans (hb.out.mono (by simp)))⟩
set_option maxRecDepth 100000 in
set_option maxHeartbeats 4000000 in
theorem alive_any (w : World) : Calls Try.prog 7 #[] w fun e w' => e = .returned (.bool true) ∧ Hid (Below w.heap.size w w') := by
  have hs := hid (cs_size dT_ok.len)
  have kc := fun (w : World) (C : Array Value) (n c : Nat) => Lib.run_convert_bytes_const (P := Try.prog) w 27 5 C n c Try.underlying27 Try.underlying5
  go_enter Try.func7, Try.ntmps7
  go_wp2_with (first
    | (go_at_call 17
       (with_reducible refine (default_any _).mono ?_)
       rintro e w1 ⟨rfl, K1⟩)
    | (refine sn26 (by rfl) _ _ (by rfl) w1 _ rfl rfl (by rfl) dT dT_ok.len (by rfl) ?_
       intro u1 G1 k1
       have B1 := bel_t K1 k1.out
       clear K1 k1)
    | (refine ld26 (by rfl) _ (by rfl) _ (by rfl) dT.cs G1.out hs.out ?_)
    | (refine ld26 (by rfl) _ (by rfl) _ (by rfl) dT.cs G2.out hs.out ?_)
    | (refine ld26 (by rfl) _ (by rfl) _ (by rfl) dT.cs G5.out hs.out ?_)
    | (go_at_call 11
       (with_reducible refine (lb1 u1 _ _ rfl).mono ?_)
       rintro e u2 ⟨A2, n2, c2, rfl, h2, S2, k2⟩
       obtain rfl : n2 = 3 := h2.out.symm
       have B2 := bel_t B1 k2.out
       have G2 := hid (box_below G1.out k2.out)
       clear k2 B1)
    | (go_at_call 15
       (with_reducible refine (set_b _ dT_ok (show setT dT 74 true = tO from rfl)).mono ?_)
       rintro e u3 ⟨rfl, k3⟩
       have B3 := bel_t B2 k3.out
       have G3 := hid (box_below G2.out k3.out)
       have S3 := slb_at S2 k3
       clear k3 B2 S2 G1)
    | (go_at_call 8
       (with_reducible refine (lb2 u3).mono ?_)
       rintro e u4 ⟨A4, n4, c4, rfl, h4, S4, k4⟩
       obtain rfl : n4 = 0 := h4.out.symm
       have B4 := bel_t B3 k4.out
       have G4 := hid (box_below G3.out k4.out)
       have S34 := slb_at S3 k4
       clear k4 B3 S3 G2)
    | (go_at_call 10
       (with_reducible refine (bytes_lit u4 A2 c2 3 _ [97, 13, 10] rfl S34 #[.int .u8 97, .int .u8 13, .int .u8 10] rfl rfl (by decide)).mono ?_)
       rintro e u5 ⟨rfl, k5⟩
       have B5 := bel_t B4 k5.out
       have G5 := hid (box_below G4.out k5.out)
       clear k5)
    | (go_at_call 13
       (with_reducible refine (lb3 u5 _ rfl).mono ?_)
       rintro e u6 ⟨rfl, k6⟩
       have B6 := bel_t B5 k6.out))
  go_ret
  exact ⟨rfl, B6⟩
theorem call_alive {a w : World} (h : Hid (Below a.heap.size a w)) : Calls Try.prog 7 #[] w fun e w' => e = .returned (.bool true) ∧ Hid (Below w.heap.size w w') ∧ Hid (Below a.heap.size a w') :=
  (alive_any w).mono fun _ _ ⟨h1, h2⟩ => ⟨h1, h2, bel_t h h2.out⟩
theorem retp_eq {w W : World} {fn : FuncId} {args : Array Value} {r r' : List UInt8 × Nat} (he : Hid (r = r')) (h : Calls Try.prog fn args w (RetP W r)) : Calls Try.prog fn args w (RetP W r') := by
  rwa [he.out] at h
end Go.Proofs.Ytjncahcigbdbgaa
