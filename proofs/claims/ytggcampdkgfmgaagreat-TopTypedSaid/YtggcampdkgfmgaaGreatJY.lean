import Derived.Test.YtggcampdkgfmgaaGreatJX
import Derived.Test.YtggcampdkgfmgaaGreatJL
import Derived.Deep.DeepCutAuto
namespace Go.Proofs.YtggcampdkgfmgaaGreat
open Go.RowKit

/-! Layer 16: the document's examples. -/
def LB : List UInt8 := [97, 98, 127, 99, 10]
def Dj : Nat → Ds
  | 0 => newD dT
  | k + 1 => (inputD (Dj k) (LB.getD k 0)).1
theorem Dj_inv : ∀ k, Inv (Dj k)
  | 0 => Inv.new dT_ok
  | k + 1 => (Dj_inv k).input _
theorem Dj_sig : ∀ k, k < 5 → (inputD (Dj k) (LB.getD k 0)).2 = [] := by decide +kernel
def D6 : Ds := outputD (Dj 5) 99
def D7 : Ds := (readD D6 9 0).1
def D8 : Ds := (inputD D7 3).1
def D9 : Ds := outputD D8 9
theorem D6_inv : Inv D6 := (Dj_inv 5).output 99
theorem D7_inv : Inv D7 := D6_inv.read 9 0
theorem D8_inv : Inv D8 := D7_inv.input 3
theorem out6 : outputB (Dj 5) 99 = [97, 98, 8, 32, 8, 99, 13, 10] := by decide +kernel
theorem read7 : (readD D6 9 0).2 = ([97, 99, 10], true) := by decide +kernel
theorem sig8 : (inputD D7 3).2 = [2] := by decide +kernel
theorem out9 : outputB D8 9 = [94, 67] := by decide +kernel
theorem in7 : readD D6 9 0 = (D7, [97, 99, 10], true) := Prod.ext (by show (readD D6 9 0).1 = D7; unfold D7; rfl) read7
theorem in8 : inputD D7 3 = (D8, [2]) := Prod.ext (by show (inputD D7 3).1 = D8; unfold D8; rfl) sig8
theorem input3 (w : World) (p : Nat) (S : Nat → Prop) (hD : Hid (DAt w p S D7)) : Calls Tryz.prog 20 #[.pointer (some ⟨p, 0, none⟩), .int .u8 3] w (RetIn w p S (D8, [2])) := inputp_any w p S D7 hD (hid D7_inv.fit) 3 (hid in8)
theorem ok99 : i64ok 99 := by unfold i64ok; omega
theorem ok9 : i64ok 9 := by unfold i64ok; omega
theorem ok0 : i64ok 0 := by unfold i64ok; omega
theorem lb_at {k : Nat} (hk : k < 5) : (#[.int .u8 97, .int .u8 98, .int .u8 127, .int .u8 99, .int .u8 10] : Array Value)[k]? = some (.int .u8 ((LB.getD k 0).toNat : Int)) := by
  match k, hk with
  | 0, _ => rfl
  | 1, _ => rfl
  | 2, _ => rfl
  | 3, _ => rfl
  | 4, _ => rfl
set_option maxRecDepth 100000 in
set_option maxHeartbeats 4000000 in
theorem alive_any (w : World) : Calls Tryz.prog 15 #[] w fun e w' => e = .returned (.bool true) ∧ Hid (Below w.heap.size w w') := by
  have kc := fun (w : World) (C : Array Value) (n c : Nat) => Lib.run_convert_bytes_const (P := Tryz.prog) w 27 5 C n c Tryz.underlying27 Tryz.underlying5
  go_enter Tryz.func15, Tryz.ntmps15
  go_wp2_with (first
    | (go_at_call 54
       (with_reducible refine (default_any _).mono ?_)
       rintro e w1 ⟨rfl, K1⟩)
    | (go_at_call 19
       (with_reducible refine (newp_any _ dT dT_ok).mono ?_)
       rintro e w2 ⟨p, S0, rfl, A2, N2, k2⟩
       have H2 := hid (Al.made (w0 := w) A2 (hid (fun x hx => Nat.le_trans K1.out.size (N2.out x hx))) (bel_t K1 k2.out))
       clear A2 k2 K1))
  go_loopg [16] 5 (fun gk i wr => ∃ (k : Nat) (S : Nat → Prop), k + gk = 5 ∧ i = .int .i64 k ∧ Hid (Al w wr p S (Dj k)) ∧ Hid (w2.heap.size < wr.heap.size) ∧ Hid (∀ k, k < 5 → wr.cell? ⟨w2.heap.size, k, none⟩ = some (.int .u8 ((LB.getD k 0).toNat : Int))) ∧ Hid (¬ S w2.heap.size))
  case atStart => exact ⟨0, S0, by omega, rfl, hid (H2.out.grow ((Below.refl _ w2).alloc (Nat.le_refl _) _)), hid (by simp), hid (fun k hk => (World.cell?_alloc_mark w2 _ 5 _ k).trans (lb_at hk)), hid (fun h => by have := H2.out.at_.top _ h; omega)⟩
  case round =>
    obtain ⟨k, S, hk, rfl, H3, L3, C3, N3⟩ := hrel
    by_cases hlt : k < 5
    · obtain ⟨y, hy⟩ : ∃ y, Hid (LB.getD k 0 = y) := ⟨_, hid rfl⟩
      have cy := C3.out k hlt
      have hki : (k : Int) < 5 := by omega
      have hr : Hid (inputD (Dj k) y = (Dj (k + 1), [])) := hid (by
        rw [← hy.out]
        exact Prod.ext rfl (Dj_sig k hlt))
      rw [hy.out] at cy
      go_wp2_with (first
        | (go_at_call 20
           (with_reducible refine (inputp_any _ p S (Dj k) (hid H3.out.at_) (hid (Dj_inv k).fit) y hr).mono ?_)
           rintro e w3 ⟨A3, n3, c3, rfl, hn3, -, O3⟩
           obtain rfl : n3 = 0 := hn3.out.symm
           obtain ⟨S4, H4, N4, B4⟩ := H3.out.next O3))
      go_roundg (gk - 1)
      case measure => omega
      case rel => exact ⟨k + 1, S4, by omega, by go_num, H4, hid (Nat.lt_of_lt_of_le L3.out B4.out.size), hid (fun k hk => (B4.out.cell (p := ⟨w2.heap.size, k, none⟩) L3.out N3.out).trans (C3.out k hk)), hid (fun h => (N4.out _ h).elim N3.out (fun h2 => by have := L3.out; omega))⟩
    · obtain rfl : k = 5 := by omega
      have hkn : (5 : Int) < 5 → False := by omega
      go_wp2_with (first
        | (go_at_call 37
           (first
             | ((with_reducible refine (outputp_any _ p S (Dj 5) (hid H3.out.at_) (hid (Dj_inv 5).fit) 99 ok99 (D' := D6) (hid rfl) (hid out6)).mono ?_)
                rintro e w4 ⟨A4, n4, c4, rfl, hn4, L4, O4⟩
                obtain rfl : n4 = 8 := hn4.out.symm
                obtain ⟨S4, H4, N4, B4, F4⟩ := H3.out.nextF O4)
             | ((with_reducible refine (outputp_any _ p S6 D8 (hid H6.out.at_) (hid D8_inv.fit) 9 ok9 (D' := D9) (hid rfl) (hid out9)).mono ?_)
                rintro e w7 ⟨A7, n7, c7, rfl, hn7, L7, O7⟩
                obtain rfl : n7 = 2 := hn7.out.symm
                obtain ⟨S7, H7, N7, B7, F7⟩ := H6.out.nextF O7
                have hc7 : (convert 27 9 (.slice A7 2 c7)).run Tryz.prog w7 = .ok (.string ⟨#[94, 67]⟩) w7 := str_back w7 _ A7 c7 [94, 67] L7.out.2.2.2)))
        | (go_at_call 21
           (with_reducible refine (readp16_any _ p S4 D6 (hid H4.out.at_) (hid D6_inv.fit) 9 0 ok9 ok0 (hid in7)).mono ?_)
           rintro e w5 ⟨A5, n5, c5, rfl, hn5, L5, O5⟩
           obtain rfl : n5 = 3 := hn5.out.symm
           obtain ⟨S5, H5, N5, B5, F5⟩ := H4.out.nextF O5
           have L4' := slb_but L4 B5.out F4.out
           have F4' := free_next L4 F4.out N5.out B5.out)
        | (go_at_call 20
           (with_reducible refine (input3 _ p S5 (hid H5.out.at_)).mono ?_)
           rintro e w6 ⟨A6, n6, c6, rfl, hn6, L6, O6⟩
           obtain rfl : n6 = 1 := hn6.out.symm
           obtain ⟨S6, H6, N6, B6⟩ := H5.out.next O6
           have L4'' := slb_but L4' B6.out F4'
           have L5' := slb_but L5 B6.out F5.out
           have hc4 : (convert 27 9 (.slice A4 8 c4)).run Tryz.prog w6 = .ok (.string ⟨#[97, 98, 8, 32, 8, 99, 13, 10]⟩) w6 := str_back w6 _ A4 c4 [97, 98, 8, 32, 8, 99, 13, 10] L4''.out.2.2.2
           have hc5 : (convert 27 9 (.slice A5 3 c5)).run Tryz.prog w6 = .ok (.string ⟨#[97, 99, 10]⟩) w6 := str_back w6 _ A5 c5 [97, 99, 10] L5'.out.2.2.2
           obtain ⟨b6, o6, y6, rfl, hy6, cy6⟩ := sli_cell L6.out (n := 1) rfl (j := 0) (by omega)
           obtain rfl : y6 = 2 := by simpa using hy6.symm
           have cz6 : World.cell? w6 ⟨b6, o6, none⟩ = some (.int .i64 2) := cy6
           clear cy6)
        | (go_at_call 55
           (with_reducible refine (flushnil_any _ 1).mono ?_)
           rintro e w8 ⟨rfl, k8⟩
           have H8 := hid (H7.out.grow k8.out))
        | (go_at_call 26
           (with_reducible refine (usednil_any _).mono ?_)
           rintro e w9 ⟨rfl, k9⟩
           have H9 := hid (H8.out.grow k9.out)))
      go_ret
      exact ⟨rfl, hid H9.out.bel⟩
end Go.Proofs.YtggcampdkgfmgaaGreat
namespace Go.Proofs.YtggcampdkgfmgaaGreat
open Go.RowKit

/-! Layer 16: what the laws share: settings that are set one by one, bytes without a meaning. -/
/-- The first k of some options are set. -/
def setK (t : Tm) (ops : List Int) (on : Bool) : Nat → Tm
  | 0 => t
  | k + 1 => setT (setK t ops on k) (ops.getD k 0) on
theorem setK_ok {t : Tm} (ht : t.Ok) (ops : List Int) (on : Bool) : ∀ k, (setK t ops on k).Ok
  | 0 => ht
  | k + 1 => setT_ok (setK_ok ht ops on k) _ _
theorem set_keeps {t : Tm} (ht : t.Ok) {op op2 : Int} (on : Bool) (_hg : flagB op = true) (hne : op ≠ op2) (_h2 : flagB op2 = true) : hasN (setT t op on).f op2 = hasN t.f op2 := by
  show hasN (setN t.f op on) op2 = _
  rw [setN_has ht.f, if_neg]
  rintro ⟨_, h⟩
  exact hne h
theorem index_int {T : TypeId} {n : Nat} {cs : Array Value} (hT : Tryz.prog.underlying T = some (.array n 3)) {k : Nat} {x : Int} (hk : k < n) (hv : cs[k]? = some (.int .i64 x)) : ∀ W : World, (Instr.index T (.agg cs) (.int .i64 (k : Int))).run Tryz.prog W = .ok (.int .i64 x) W := fun W =>
  L9.run_index_one W T 3 n _ cs .i64 k _ hT Tryz.underlying3 rfl (by kernel_rfl) hk hv
theorem DPh.cell {w : World} {p : Nat} {S : Nat → Prop} {D : Ds} {h : Ph} (H : DPh w p S D h) (ht : D.t.Ok) (j : Nat) {v : Value} (hj : (dRest D h)[j]? = some v) : w.cell? ⟨p, 24 + j, none⟩ = some v := (Box.cell H.box (24 + j)).trans (tmV_back ht hj)
def PlainB (t : Tm) (c : UInt8) : Bool := decide (c ≠ 10) && decide (c ≠ 13) && (List.range 18).all fun k => !L15.isC t ((k : Int) + 1) c
theorem plainB_iff {t : Tm} {c : UInt8} : PlainB t c = true ↔ PlainC t c := by
  unfold PlainB PlainC
  simp only [Bool.and_eq_true, decide_eq_true_eq, List.all_eq_true, List.mem_range, Bool.not_eq_true']
  constructor
  · rintro ⟨⟨h1, h2⟩, h3⟩
    refine ⟨h1, h2, fun op ho hp => ?_⟩
    have := h3 (op - 1).toNat (by omega)
    rwa [show ((op - 1).toNat : Int) + 1 = op by omega] at this
  · rintro ⟨h1, h2, h3⟩
    exact ⟨⟨h1, h2⟩, fun k hk => h3 _ (by omega) (by omega)⟩
theorem u8_is {c : UInt8} {k : Nat} (hk : k < 256) (h : c.toNat = k) : c = UInt8.ofNat k := by
  apply UInt8.toNat_inj.1
  rw [h, UInt8.toNat_ofNat']
  omega
set_option maxRecDepth 100000 in
set_option maxHeartbeats 4000000 in
theorem plain_any (w : World) (t : Tm) (ht : t.Ok) (c : UInt8) {b : Bool} (hb : Hid (PlainB t c = b)) : Calls Tryz.prog 17 #[.agg t.cs, .int .u8 (c.toNat : Int)] w fun e w' => e = .returned (.bool b) ∧ Hid (Below w.heap.size w w') := by
  have hs := cs_size ht.len
  have K0 := old26 w t
  by_cases h10 : c = 10
  · have e : b = false := by rw [← hb.out]; simp [PlainB, h10]
    subst e
    have h1 : ((c.toNat : Int) == 10) = true := by rw [h10]; rfl
    go_enter Tryz.func17, Tryz.ntmps17
    go_wp2_with (first
      | (refine bx26 (by rfl) _ (by rfl) _ (by rfl) hs ?_
         intro G0))
    go_ret
    exact ⟨rfl, K0⟩
  · have h1 : ((c.toNat : Int) == 10) = false := u8_ne h10
    by_cases h13 : c = 13
    · have e : b = false := by rw [← hb.out]; simp [PlainB, h13]
      subst e
      have h2 : ((c.toNat : Int) == 13) = true := by rw [h13]; rfl
      go_enter Tryz.func17, Tryz.ntmps17
      go_wp2_with (first
        | (refine bx26 (by rfl) _ (by rfl) _ (by rfl) hs ?_
           intro G0))
      go_ret
      exact ⟨rfl, K0⟩
    · have h2 : ((c.toNat : Int) == 13) = false := u8_ne h13
      go_enter Tryz.func17, Tryz.ntmps17
      go_wp2_with (first
        | (refine bx26 (by rfl) _ (by rfl) _ (by rfl) hs ?_
           intro G0))
      go_loopg [5] 18 (fun gk i wr => ∃ k : Nat, k + gk = 18 ∧ i = .int .i64 ((k : Int) + 1) ∧ Hid (∀ j, j < k → L15.isC t ((j : Int) + 1) c = false) ∧ Hid (Box wr w.heap.size 26 t.cs) ∧ Hid (Below w.heap.size w wr))
      case atStart => exact ⟨0, by omega, rfl, hid (fun j hj => by omega), G0, K0⟩
      case round =>
        obtain ⟨k, hk, rfl, HC, G1, K1⟩ := hrel
        by_cases hlt : k < 18
        · have hki : (k : Int) + 1 ≤ 18 := by omega
          cases hc : L15.isC t ((k : Int) + 1) c
          · go_wp2_with (first
              | (refine ld26 (by rfl) _ (by rfl) _ (by rfl) t.cs G1.out hs ?_)
              | (go_at_call 18
                 (with_reducible refine (L15.isp_b _ t ht _ c hc).mono ?_)
                 rintro e u2 ⟨rfl, k2⟩
                 have G2 := hid (box_below G1.out k2.out)
                 have K2 := bel_t K1 k2.out))
            go_roundg (gk - 1)
            case measure => omega
            case rel => exact ⟨k + 1, by omega, by go_num, hid (fun j hj => by
              by_cases e : j = k
              · subst e; exact hc
              · exact HC.out j (by omega)), G2, K2⟩
          · have e : b = false := by
              rw [← hb.out]
              unfold PlainB
              have : ((List.range 18).all fun k => !L15.isC t ((k : Int) + 1) c) = false := List.all_eq_false.2 ⟨k, List.mem_range.2 hlt, by simp [hc]⟩
              rw [this, Bool.and_false]
            subst e
            go_wp2_with (first
              | (refine ld26 (by rfl) _ (by rfl) _ (by rfl) t.cs G1.out hs ?_)
              | (go_at_call 18
                 (with_reducible refine (L15.isp_b _ t ht _ c hc).mono ?_)
                 rintro e u2 ⟨rfl, k2⟩
                 have K2 := bel_t K1 k2.out))
            go_ret
            exact ⟨rfl, K2⟩
        · obtain rfl : k = 18 := by omega
          have e : b = true := by
            rw [← hb.out]
            refine plainB_iff.2 ⟨h10, h13, fun op ho hp => ?_⟩
            have := HC.out (op - 1).toNat (by omega)
            rwa [show ((op - 1).toNat : Int) + 1 = op by omega] at this
          subst e
          have hki : ¬ ((18 : Nat) : Int) + 1 ≤ 18 := by omega
          go_wp2
          go_ret
          exact ⟨rfl, K1⟩
end Go.Proofs.YtggcampdkgfmgaaGreat
namespace Go.Proofs.YtggcampdkgfmgaaGreat
/-! Layer 16: what the laws share, joined. -/
end Go.Proofs.YtggcampdkgfmgaaGreat
