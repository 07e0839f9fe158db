import Derived.Test.YtggcampdkgfmgaaGreatTH
namespace Go.Proofs.YtggcampdkgfmgaaGreat
open Go.RowKit

/-! Layer 17: the document's examples. -/
section
variable {w w' : World} {g p : Nat} {S S' : Nat → Prop} {P' : Ps}
theorem gs_next (h : Hid (Py w g p S w' S' P')) {x : Nat} (hx : x < w.heap.size) (F : ¬ GS g S x) : ¬ GS g S' x := by
  rintro (k | k)
  · rcases h.out.new _ k with k | k
    · exact F (.inl k)
    · omega
  · exact F (.inr k)
theorem keep_slb (h : Hid (Py w g p S w' S' P')) {A : Option Addr} {c : Nat} {b : List UInt8} (L : Hid (SlB w w.heap.size A c b)) (F : Hid (b ≠ [] → ∀ a, A = some a → ¬ GS g S a.block)) : Hid (SlB w' w'.heap.size A c b) ∧ Hid (b ≠ [] → ∀ a, A = some a → ¬ GS g S' a.block) :=
  ⟨slb_but L h.out.but F.out, hid fun hb a ha => gs_next h (slb_lt L hb a ha) (F.out hb a ha)⟩
theorem evV_ne {E : List (Int × Int)} (h : evV E ≠ []) : E ≠ [] := by rintro rfl; exact h rfl
theorem evV_ne' {E : List (Int × Int)} (h : E ≠ []) : evV E ≠ [] := by
  cases E with
  | nil => exact absurd rfl h
  | cons x r => simp [evV]
theorem keep_ev (h : Hid (Py w g p S w' S' P')) {A : Option Addr} {E : List (Int × Int)} (L : Hid (Lies w w.heap.size A (evV E))) (F : Hid (E ≠ [] → ∀ a, A = some a → ¬ GS g S a.block)) : Hid (Lies w' w'.heap.size A (evV E)) ∧ Hid (E ≠ [] → ∀ a, A = some a → ¬ GS g S' a.block) :=
  ⟨hid (Lies.more_ (h.out.but.lies L.out (Nat.le_refl _) fun hn => F.out (evV_ne hn)) h.out.but.size), hid fun hE a ha => by
    obtain ⟨b, o, e, hlt, _⟩ := L.out (evV_ne' hE)
    rw [e] at ha
    injection ha with ha
    subst ha
    exact gs_next h hlt (F.out hE _ e)⟩
theorem gs_of {w0 : World} {b : Prop} {A : Option Addr} (F : Hid (b → ∀ a, A = some a → w0.heap.size ≤ a.block ∧ ¬ GS g S a.block)) : Hid (b → ∀ a, A = some a → ¬ GS g S a.block) := hid fun h a ha => (F.out h a ha).2
theorem lies_at {w : World} {B : Nat} {A : Option Addr} {x y : Int} {r : List (Int × Int)} (h : Lies w B A (evV ((x, y) :: r))) : ∃ b o, A = some ⟨b, o, none⟩ ∧ w.cell? ⟨b, o, none⟩ = some (.int .i64 x) ∧ w.cell? ⟨b, o + 1, none⟩ = some (.int .i64 y) := by
  obtain ⟨b, o, e, _, hc⟩ := h (evV_ne' (by simp))
  exact ⟨b, o, e, hc 0 _ rfl, hc 1 _ rfl⟩
theorem lies_at2 {w : World} {B : Nat} {A : Option Addr} {x y x2 y2 : Int} {r : List (Int × Int)} (h : Lies w B A (evV ((x, y) :: (x2, y2) :: r))) : ∃ b o, A = some ⟨b, o, none⟩ ∧ w.cell? ⟨b, o + 2, none⟩ = some (.int .i64 x2) ∧ w.cell? ⟨b, o + 2 + 1, none⟩ = some (.int .i64 y2) := by
  obtain ⟨b, o, e, _, hc⟩ := h (evV_ne' (by simp))
  exact ⟨b, o, e, hc 2 _ rfl, hc 3 _ rfl⟩
end
theorem Inv.type {D : Ds} (h : Inv D) : ∀ b : List UInt8, Inv (typeM D b).1
  | [] => h
  | c :: r => by
    unfold typeM
    split
    · exact h
    · exact (h.input c).type r
def Ka : Ds := (typeM (newD dT) [97, 10]).1
def Kb : Ds := (readD Ka 9 0).1
def Kc : Ds := outputD Kb 9
def Kd : Ds := (typeM Kc [3]).1
theorem Ka_inv : Inv Ka := (Inv.new dT_ok).type _
theorem Kb_inv : Inv Kb := Ka_inv.read 9 0
theorem Kc_inv : Inv Kc := Kb_inv.output 9
theorem Kd_inv : Inv Kd := Kc_inv.type _
def Q0 : Ps := newPt dT ⟨80, 0, 0, 0⟩
def Q2 : Ps := ⟨newD dT, ⟨80, 0, 0, 0⟩, 7, 7, 1, false⟩
def Q1 : Ps := ⟨newD dT, ⟨80, 0, 0, 0⟩, 0, 0, 1, false⟩
def Q3 : Ps := { Q2 with d := Ka }
def Q4 : Ps := { Q2 with d := Kb }
def Q5 : Ps := { Q2 with d := Kc }
def Q6 : Ps := { Q2 with d := Kd }
def Q7 : Ps := { Q2 with d := flushD Kd 3, hu := true }
theorem q01 : openP Q0 = (Q1, 0) := by
  have h : wrap64 ((0 : Int) + 1) = 1 := by unfold wrap64; omega
  show (({ Q0 with sl := wrap64 ((0 : Int) + 1) } : Ps), (0 : Int)) = _
  rw [h]
  rfl
theorem q12 : bindP Q1 7 7 = (Q2, 0) := rfl
theorem q23 : mwP Q2 [97, 10] = (Q3, 2, []) := Prod.ext rfl (by
  have : (typeM (newD dT) [97, 10]).2 = (2, []) := by decide +kernel
  show ((typeM (newD dT) [97, 10]).2.1, evs 7 (typeM (newD dT) [97, 10]).2.2) = _
  rw [this]
  rfl)
theorem q34 : rdP Q3 9 0 = (Q4, [97, 10], 0) := Prod.ext rfl (by
  have : (readD Ka 9 0).2 = ([97, 10], true) := by decide +kernel
  show (if (readD Ka 9 0).2.2 = true then (readD Ka 9 0).2.1 else [], if (readD Ka 9 0).2.2 = true then (0 : Int) else 10) = _
  rw [this]
  rfl)
theorem q45 : mrP Q4 9 = (Q5, [97, 13, 10], 0) := Prod.ext rfl (by
  have : outputB Kb 9 = [97, 13, 10] := by decide +kernel
  show (outputB Kb 9, if outputB Kb 9 ≠ [] then (0 : Int) else if Q4.sl ≤ 0 ∧ (outputD Kb 9).out = [] then 11 else if (0 : Int) < 9 then 10 else 0) = _
  rw [this]
  rfl)
theorem q56 : mwP Q5 [3] = (Q6, 1, [(7, 2)]) := Prod.ext rfl (by
  have : (typeM Kc [3]).2 = (1, [2]) := by decide +kernel
  show ((typeM Kc [3]).2.1, evs 7 (typeM Kc [3]).2.2) = _
  rw [this]
  rfl)
theorem q67 : hangP Q6 = (Q7, [(7, 1), (7, 18)]) := rfl
theorem q77 : rdP Q7 9 0 = (Q7, [], 0) := rfl
theorem newpt80 (w : World) : Calls Tryz.prog 39 #[.agg dT.cs, .agg #[.int .u32 80, .int .u32 0, .int .u32 0, .int .u32 0]] w fun e w' => ∃ g p S, e = .returned (.pointer (some ⟨g, 0, none⟩)) ∧ Hid (AlP w w' g p S Q0) := newpt_any w dT dT_ok ⟨80, 0, 0, 0⟩
theorem Q2_inv : Hid (Inv Q2.d) := hid (Inv.new dT_ok)
theorem Q5_inv : Hid (Inv Q5.d) := hid Kc_inv
theorem Q3_fit : Hid (Fit Q3.d) := hid Ka_inv.fit
theorem Q4_fit : Hid (Fit Q4.d) := hid Kb_inv.fit
theorem Q6_fit : Hid (Fit Q6.d) := hid Kd_inv.fit
theorem Q7_fit : Hid (Fit Q7.d) := hid (show Fit (flushD Kd 3) from ⟨Kd_inv.fit.t, by simp [flushD], by simp [flushD], by simp [flushD], by simp [flushD], by simp [flushD, L13.usedL], Kd_inv.fit.col, Kd_inv.fit.fr, Kd_inv.fit.idle⟩)
theorem invF : Hid (∀ D, Inv D → Fit D) := hid fun _ h => h.fit
theorem invN : Hid (∀ D c, Inv D → Inv (inputD D c).1) := hid fun _ c h => h.input c
theorem s_nots {w w0 : World} {g p : Nat} {S : Nat → Prop} {P : Ps} (H : Hid (AlP w0 w g p S P)) (b : List UInt8) : Hid (b ≠ [] → ∀ a, (some ⟨w.heap.size, 0, none⟩ : Option Addr) = some a → ¬ S a.block) := hid fun _ a ha hS => by
  injection ha with ha
  subst ha
  have h1 := H.out.at_.at_.top _ hS
  have h2 : w.heap.size < w.heap.size := h1
  omega
set_option maxRecDepth 100000 in
set_option maxHeartbeats 8000000 in
theorem alive17 (w : World) : Calls Tryz.prog 38 #[] w fun e w' => e = .returned (.bool true) ∧ Hid (Below w.heap.size w w') := by
  have kc := fun (w : World) (C : Array Value) (n c : Nat) => Lib.run_convert_bytes_const (P := Tryz.prog) w 27 5 C n c Tryz.underlying27 Tryz.underlying5
  have qE := fun (W : World) => run_eqlE W 7 2 7 2
  go_enter Tryz.func38, Tryz.ntmps38
  go_wp2_with (first
    | (go_at_call 54
       (with_reducible refine (default_any _).mono ?_)
       rintro e w1 ⟨rfl, K1⟩)
    | (go_at_call 39
       (with_reducible refine (newpt80 _).mono ?_)
       rintro e w2 ⟨g, p, S0, rfl, H2⟩)
    | (go_at_call 40
       (with_reducible refine (open_any (AlP.py H2) (hid q01)).mono ?_)
       rintro e w3 ⟨rfl, O3⟩
       obtain ⟨S3, H3, -⟩ := H2.out.nextO O3)
    | (go_at_call 78
       (with_reducible refine (bind_any (AlP.py H3) 7 7 (hid q12)).mono ?_)
       rintro e w4 ⟨rfl, O4⟩
       obtain ⟨S4, H4, -⟩ := H3.out.nextO O4
       have kx : Below w4.heap.size w4 (w4.alloc (.cells #[.int .u8 97, .int .u8 10] 5 (2, 3))) := (Below.refl _ _).alloc (Nat.le_refl _) _
       have G4 := hid (H4.out.grow kx)
       have L4 : Hid (SlB (w4.alloc (.cells #[.int .u8 97, .int .u8 10] 5 (2, 3))) (w4.alloc (.cells #[.int .u8 97, .int .u8 10] 5 (2, 3))).heap.size (some ⟨w4.heap.size, 0, none⟩) 2 [97, 10]) := hid (slb_litm w4 [97, 10] 2 #[.int .u8 97, .int .u8 10] (2, 3) rfl rfl (by decide))
       have F4 := s_nots H4 [97, 10])
    | (go_at_call 41
       (first
         | ((with_reducible refine (mwrite_any Inv invF invN (AlP.py G4) Q2_inv (some ⟨w4.heap.size, 0, none⟩) 2 2 [97, 10] L4 (hid rfl) (by omega) F4 (hid q23)).mono ?_)
            rintro e w5 ⟨A5, n5, c5, S5, rfl, N5, -, h5, -⟩
            obtain rfl : n5 = 0 := N5.out.symm
            have H5 := hid (G4.out.next h5))
         | ((with_reducible refine (mwrite_any Inv invF invN (AlP.py G7) Q5_inv (some ⟨w7.heap.size, 0, none⟩) 1 1 [3] L7z (hid rfl) (by omega) F7z (hid q56)).mono ?_)
            rintro e w8 ⟨A8, n8, c8, S8, rfl, N8, E8, h8, F8z⟩
            obtain rfl : n8 = 1 := N8.out.symm
            have H8 := hid (G7.out.next h8)
            have F8 := gs_of F8z
            obtain ⟨L6b, F6b⟩ := keep_slb h8 L6a F6a
            obtain ⟨L7b, F7b⟩ := keep_slb h8 L7a F7a)))
    | (go_at_call 43
       (first
         | ((with_reducible refine (sread_any (AlP.py H5) Q3_fit 9 0 ok9 ok0 (hid q34)).mono ?_)
            rintro e w6 ⟨A6, n6, c6, S6, rfl, N6, L6, h6, F6z⟩
            obtain rfl : n6 = 2 := N6.out.symm
            have H6 := hid (H5.out.next h6)
            have F6 := gs_of F6z)
         | ((with_reducible refine (sread_any (AlP.py H9) Q7_fit 9 0 ok9 ok0 (hid q77)).mono ?_)
            rintro e w10 ⟨A10, n10, c10, S10, rfl, N10, -, h10, -⟩
            obtain rfl : n10 = 0 := N10.out.symm
            have H10 := hid (H9.out.next h10)
            obtain ⟨L6d, -⟩ := keep_slb h10 L6c F6c
            obtain ⟨L7d, -⟩ := keep_slb h10 L7c F7c
            obtain ⟨E8d, -⟩ := keep_ev h10 E8c F8c
            obtain ⟨E9d, -⟩ := keep_ev h10 E9 F9
            have hc6 : (convert 27 9 (.slice A6 2 c6)).run Tryz.prog w10 = .ok (.string ⟨#[97, 10]⟩) w10 := str_back w10 _ A6 c6 [97, 10] L6d.out.2.2.2
            have hc7 : (convert 27 9 (.slice A7 3 c7)).run Tryz.prog w10 = .ok (.string ⟨#[97, 13, 10]⟩) w10 := str_back w10 _ A7 c7 [97, 13, 10] L7d.out.2.2.2
            obtain ⟨b8, o8, rfl, d80, d81⟩ := lies_at E8d.out
            obtain ⟨b9, o9, rfl, d90, d91⟩ := lies_at2 E9d.out)))
    | (go_at_call 44
       (with_reducible refine (mread_any (AlP.py H6) Q4_fit 9 ok9 (hid q45)).mono ?_)
       rintro e w7 ⟨A7, n7, c7, S7, rfl, N7, L7, h7, F7y⟩
       obtain rfl : n7 = 3 := N7.out.symm
       have H7 := hid (H6.out.next h7)
       have F7 := gs_of F7y
       obtain ⟨L6z, F6a⟩ := keep_slb h7 L6 F6
       have kx : Below w7.heap.size w7 (w7.alloc (.cells #[.int .u8 3] 5)) := (Below.refl _ _).alloc (Nat.le_refl _) _
       have G7 := hid (H7.out.grow kx)
       have L6a := slb_up L6z kx
       have L7a := slb_up L7 kx
       have F7a := F7
       have L7z : Hid (SlB (w7.alloc (.cells #[.int .u8 3] 5)) (w7.alloc (.cells #[.int .u8 3] 5)).heap.size (some ⟨w7.heap.size, 0, none⟩) 1 [3]) := hid (slb_lit w7 [3] 1 #[.int .u8 3] rfl rfl (by decide))
       have F7z := s_nots H7 [3])
    | (go_at_call 47
       (with_reducible refine (hang_any (AlP.py H8) Q6_fit (hid q67)).mono ?_)
       rintro e w9 ⟨A9, n9, c9, S9, rfl, N9, E9, h9, F9z⟩
       obtain rfl : n9 = 2 := N9.out.symm
       have H9 := hid (H8.out.next h9)
       have F9 := gs_of F9z
       obtain ⟨L6c, F6c⟩ := keep_slb h9 L6b F6b
       obtain ⟨L7c, F7c⟩ := keep_slb h9 L7b F7b
       obtain ⟨E8c, F8c⟩ := keep_ev h9 E8 F8))
  go_ret
  exact ⟨rfl, hid (K1.out.trans (H10.out.bel.mono K1.out.size))⟩
end Go.Proofs.YtggcampdkgfmgaaGreat
