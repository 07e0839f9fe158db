import Derived.Test.YthaecflakefklaaFLP
namespace Go.Proofs.Ythaecflakefklaa
open Go.RowKit

/-! Layer 15: the document's examples. -/
def tX : Tm := setT dT 40 true
theorem tX_ok : tX.Ok := setT_ok dT_ok _ _
theorem boxA {W : World} {g : Nat} {t : TypeId} {cs : Array Value} (h : Hid (Box W g t cs)) {W' : World} (k : Below W.heap.size W W') : Hid (Box W' g t cs) := hid (box_below h.out k)
theorem bx_new (w : World) (cs : Array Value) (t : TypeId) : Hid (Box (w.alloc (.cells cs t)) w.heap.size t cs) := hid (Box.new w t cs)
theorem cell_al {w : World} {g i : Nat} {v : Value} (h : w.cell? ⟨g, i, none⟩ = some v) (o : Obj) : (w.alloc o).cell? ⟨g, i, none⟩ = some v :=
  (((Below.refl w.heap.size w).alloc (Nat.le_refl _) o).cell (p := ⟨g, i, none⟩) (World.block_lt_of_cell? _ _ h)).trans h
theorem bel_new1 (w : World) (o : Obj) : Below w.heap.size w (w.alloc o) := (Below.refl _ w).alloc (Nat.le_refl _) o
set_option maxRecDepth 100000 in
set_option maxHeartbeats 4000000 in
theorem alive_any (w : World) : Calls Try.prog 7 #[] w fun e w' => e = .returned (.bool true) ∧ Hid (Below w.heap.size w w') := by
  have hs := hid (cs_size dT_ok.len)
  have hx := hid (cs_size tX_ok.len)
  have e1 : Hid (typedF dT false false 19 = ((true, false), true)) := hid (by decide)
  have e2 : Hid (typedF dT true false 17 = ((false, false), true)) := hid (by decide)
  have e3 : Hid (markF tX false false 8 3 8 = ((false, true), [19])) := hid (by decide)
  have e4 : Hid (markF tX false true 3 3 8 = ((false, false), [17])) := hid (by decide)
  have e5 : Hid (askF dT true false 9 = ((false, false), [], 2)) := hid (by decide)
  have c1 : ∀ w, Calls Try.prog 8 #[.agg dT.cs, .agg #[.bool false, .bool false], .int .u8 19] w (RetT w ((true, false), true)) := fun w => typedp_any w dT dT_ok false false 19 e1
  have c2 : ∀ w, Calls Try.prog 8 #[.agg dT.cs, .agg #[.bool true, .bool false], .int .u8 17] w (RetT w ((false, false), true)) := fun w => typedp_any w dT dT_ok true false 17 e2
  go_enter Try.func7, Try.ntmps7
  go_wp2_with (first
    | (go_at_call 19
       (with_reducible refine (default_any _).mono ?_)
       rintro e w1 ⟨rfl, K1⟩)
    | (refine sn26 (by rfl) _ _ (by rfl) w1 _ rfl rfl (by rfl) dT dT_ok.len (by rfl) ?_
       intro v1 G1 k1
       have B1 := bel_t K1 k1.out
       clear K1 k1)
    | (refine ld26 (by rfl) _ (by rfl) _ (by rfl) dT.cs G1.out hs.out ?_)
    | (refine ld26 (by rfl) _ (by rfl) _ (by rfl) dT.cs G2.out hs.out ?_)
    | (refine ld26 (by rfl) _ (by rfl) _ (by rfl) dT.cs G3.out hs.out ?_)
    | (refine ld26 (by rfl) _ (by rfl) _ (by rfl) dT.cs G6.out hs.out ?_)
    | (refine ld26 (by rfl) _ (by rfl) _ (by rfl) tX.cs X4.out hx.out ?_)
    | (refine ld26 (by rfl) _ (by rfl) _ (by rfl) tX.cs X5.out hx.out ?_)
    | (go_at_call 8
       (first
         | ((with_reducible refine (c1 v1).mono ?_)
            rintro e w2 ⟨rfl, k2⟩
            have kk := bel_new1 w2 (.cells #[.bool true, .bool false] 32)
            have B2 := bel_t (bel_t B1 k2.out) kk
            have G2 := boxA (boxA G1 k2.out) kk
            have F2 := bx_new w2 #[.bool true, .bool false] 32
            clear kk k2 G1 B1)
         | ((with_reducible refine (c2 _).mono ?_)
            rintro e w3 ⟨rfl, k3⟩
            have kk := bel_new1 w3 (.cells #[.bool false, .bool false] 32)
            have B3 := bel_t (bel_t B2 k3.out) kk
            have G3 := boxA (boxA G2 k3.out) kk
            have F3 := boxA (boxA F2 k3.out) kk
            have P3 := bx_new w3 #[.bool false, .bool false] 32
            clear kk k3 G2 B2 F2)))
    | (go_at_call 17
       (with_reducible refine (set_b _ dT_ok (show setT dT 40 true = tX from rfl)).mono ?_)
       rintro e w4 ⟨rfl, k4⟩
       have B4 := bel_t B3 k4.out
       have G4 := boxA G3 k4.out
       have F4 := boxA F3 k4.out
       have P4 := boxA P3 k4.out
       clear k4 G3 B3 F3 P3)
    | (refine sn26 (by rfl) _ _ (by rfl) w4 _ rfl rfl (by rfl) tX tX_ok.len (by rfl) ?_
       intro v4 X4 k4
       have B4 := bel_t B4 k4.out
       have G4 := boxA G4 k4.out
       have F4 := boxA F4 k4.out
       have P4 := boxA P4 k4.out
       clear k4)
    | (go_at_call 10
       (first
         | ((with_reducible refine (markp_any v4 tX tX_ok false false 8 3 8 e3).mono ?_)
            rintro e w5 ⟨A5, n5, d5, rfl, h5, S5, k5⟩
            obtain rfl : n5 = 1 := h5.out.symm
            have kk := bel_new1 w5 (.cells #[.bool false, .bool true] 32)
            have B5 := bel_t (bel_t B4 k5.out) kk
            have G5 := boxA (boxA G4 k5.out) kk
            have F5 := boxA (boxA F4 k5.out) kk
            have P5 := boxA (boxA P4 k5.out) kk
            have X5 := boxA (boxA X4 k5.out) kk
            have Q5 := bx_new w5 #[.bool false, .bool true] 32
            have S5 := slb_up S5 kk
            clear kk k5 G4 B4 F4 P4 X4)
         | ((with_reducible refine (markp_any _ tX tX_ok false true 3 3 8 e4).mono ?_)
            rintro e w6 ⟨A6, n6, d6, rfl, h6, S6, k6⟩
            obtain rfl : n6 = 1 := h6.out.symm
            have kk := bel_new1 w6 (.cells #[.bool false, .bool false] 32)
            have B6 := bel_t (bel_t B5 k6.out) kk
            have G6 := boxA (boxA G5 k6.out) kk
            have F6 := boxA (boxA F5 k6.out) kk
            have P6 := boxA (boxA P5 k6.out) kk
            have Q6 := boxA (boxA Q5 k6.out) kk
            have S56 := slb_up (slb_up S5 k6.out) kk
            have S6 := slb_up S6 kk
            have f60 := F6.out.cell 0
            have f61 := F6.out.cell 1
            clear kk k6 G5 B5 F5 P5 Q5 S5 X5)))
    | (go_at_call 12
       (with_reducible refine (askp_any _ dT dT_ok true false 9 e5).mono ?_)
       rintro e w7 ⟨A7, n7, d7, rfl, h7, S7, k7⟩
       have kk := bel_new1 w7 (.cells #[.bool false, .bool false] 32)
       have B7 := bel_t (bel_t B6 k7.out) kk
       have F7 := boxA (boxA F6 k7.out) kk
       have P7 := boxA (boxA P6 k7.out) kk
       have Q7 := boxA (boxA Q6 k7.out) kk
       have S57 := slb_up (slb_up S56 k7.out) kk
       have S67 := slb_up (slb_up S6 k7.out) kk
       have f7 : w7.cell? ⟨w2.heap.size, 0, none⟩ = some (.bool true) := by simpa using (boxA F6 k7.out).out.cell 0
       have p7 : w7.cell? ⟨w3.heap.size, 0, none⟩ = some (.bool false) := by simpa using (boxA P6 k7.out).out.cell 0
       have q7 : w7.cell? ⟨w5.heap.size, 1, none⟩ = some (.bool true) := by simpa using (boxA Q6 k7.out).out.cell 1
       have f7a := cell_al f7
       have p7a := cell_al p7
       have q7a := cell_al q7
       have f7b := fun o o2 => cell_al (cell_al f7 o) o2
       clear kk k7 B6 F6 P6 Q6 S56 S6 f60 f61)
    | (go_at_call 14
       (first
         | ((with_reducible refine (bytes_lit _ A5 d5 1 _ [19] rfl S57 #[.int .u8 19] rfl (by simp) (by decide)).mono ?_)
            rintro e w8 ⟨rfl, k8⟩
            have B8 := bel_t B7 k8.out
            have S68 := slb_up S67 k8.out)
         | ((with_reducible refine (bytes_lit _ A6 d6 1 _ [17] rfl S68 #[.int .u8 17] rfl rfl (by decide)).mono ?_)
            rintro e w9 ⟨rfl, k9⟩
            have B9 := bel_t B8 k9.out))))
  go_ret
  exact ⟨rfl, B9⟩
end Go.Proofs.Ythaecflakefklaa
