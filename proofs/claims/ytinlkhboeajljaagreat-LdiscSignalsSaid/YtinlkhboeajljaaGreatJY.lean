import Derived.Test.YtinlkhboeajljaaGreatJX
import Derived.Deep.DeepCutAuto
namespace Go.Proofs.YtinlkhboeajljaaGreat
open Go.RowKit

/-! Layer 16: the document's examples. -/
/-- A discipline that was made behind a world. -/
structure Al (w0 w : World) (p : Nat) (S : Nat → Prop) (D : Ds) : Prop where
  at_ : DAt w p S D
  new : ∀ x, S x → w0.heap.size ≤ x
  bel : Below w0.heap.size w0 w
theorem Al.made {w0 w : World} {p : Nat} {S : Nat → Prop} {D : Ds} (hD : Hid (DAt w p S D)) (hS : Hid (∀ x, S x → w0.heap.size ≤ x)) (hb : Hid (Below w0.heap.size w0 w)) : Al w0 w p S D := ⟨hD.out, hS.out, hb.out⟩
theorem Al.next {w0 w w' : World} {p : Nat} {S : Nat → Prop} {D D' : Ds} (H : Al w0 w p S D) (h : DOut w p S D' w') : ∃ S', Hid (Al w0 w' p S' D') ∧ Hid (∀ x, S' x → S x ∨ w.heap.size ≤ x) ∧ Hid (ButP S w w') := by
  obtain ⟨S', h1, h2, h3⟩ := h
  refine ⟨S', hid ⟨h1.out, fun x hx => ?_, H.bel.trans (h3.out.below H.bel.size H.new)⟩, h2, h3⟩
  rcases h2.out x hx with h | h
  · exact H.new x h
  · exact Nat.le_trans H.bel.size h
theorem Al.nextF {w0 w w' : World} {p : Nat} {S : Nat → Prop} {D D' : Ds} {A : Option Addr} {b : List UInt8} (H : Al w0 w p S D) (h : DOutF w p S D' A b w') : ∃ S', Hid (Al w0 w' p S' D') ∧ Hid (∀ x, S' x → S x ∨ w.heap.size ≤ x) ∧ Hid (ButP S w w') ∧ Hid (b ≠ [] → ∀ a, A = some a → ¬ S' a.block) := by
  obtain ⟨S', h1, h2, h3, h4⟩ := h
  obtain ⟨S2, k1, k2, k3⟩ := H.next (D' := D') ⟨S', h1, h2, h3⟩
  refine ⟨S', hid ⟨h1.out, fun x hx => ?_, H.bel.trans (h3.out.below H.bel.size H.new)⟩, h2, h3, h4⟩
  rcases h2.out x hx with h | h
  · exact H.new x h
  · exact Nat.le_trans H.bel.size h
/-- Bytes that are nobody's else stay. -/
theorem slb_but {w w' : World} {S : Nat → Prop} {A : Option Addr} {c : Nat} {b : List UInt8} (h : Hid (SlB w w.heap.size A c b)) (k : ButP S w w') (hA : b ≠ [] → ∀ a, A = some a → ¬ S a.block) : Hid (SlB w' w'.heap.size A c b) :=
  hid ⟨h.out.1, h.out.2.1, h.out.2.2.1, Lies.more_ (k.lies h.out.2.2.2 (Nat.le_refl _) fun hn => hA (by rintro e; rw [e] at hn; exact hn rfl)) k.size⟩
theorem slb_lt {w : World} {A : Option Addr} {c : Nat} {b : List UInt8} (h : Hid (SlB w w.heap.size A c b)) (hb : b ≠ []) : ∀ a, A = some a → a.block < w.heap.size := by
  obtain ⟨g, o, e, hlt, _⟩ := h.out.2.2.2 (by
    intro e
    have : b = [] := by simpa [bv] using e
    exact hb this)
  intro a ha
  rw [e] at ha
  injection ha with ha
  subst ha
  exact hlt
theorem free_next {w w' : World} {S S' : Nat → Prop} {A : Option Addr} {c : Nat} {b : List UInt8} (h : Hid (SlB w w.heap.size A c b)) (hf : b ≠ [] → ∀ a, A = some a → ¬ S a.block) (hS : ∀ x, S' x → S x ∨ w.heap.size ≤ x) (_k : ButP S w w') : b ≠ [] → ∀ a, A = some a → ¬ S' a.block := fun hb a ha hx => by
  have h1 := slb_lt h hb a ha
  rcases hS _ hx with h2 | h2
  · exact hf hb a ha h2
  · omega
theorem Al.grow {w0 w w' : World} {p : Nat} {S : Nat → Prop} {D : Ds} (H : Al w0 w p S D) (k : Below w.heap.size w w') : Al w0 w' p S D := ⟨H.at_.bel k, H.new, H.bel.trans (k.mono H.bel.size)⟩
theorem Al.drew {w0 w : World} {p : Nat} {S : Nat → Prop} {D : Ds} (H : Al w0 w p S D) : Al w0 w.drew p S D := ⟨H.at_.drew, H.new, H.bel.drew⟩
def LB : List UInt8 := [97, 98, 127, 99, 10]
def Dj : Nat → Ds
  | 0 => newD dT
  | k + 1 => (inputD (Dj k) (LB.getD k 0)).1
theorem Dj_inv : ∀ k, Inv (Dj k)
  | 0 => Inv.new dT_ok
  | k + 1 => (Dj_inv k).input _
theorem Dj_sig : ∀ k, k < 5 → (inputD (Dj k) (LB.getD k 0)).2 = [] := by decide +kernel
def D6 : Ds := outputD (Dj 5) 99
def D7 : Ds := (readD D6 9 0).1
def D8 : Ds := (inputD D7 3).1
def D9 : Ds := outputD D8 9
theorem D6_inv : Inv D6 := (Dj_inv 5).output 99
theorem D7_inv : Inv D7 := D6_inv.read 9 0
theorem D8_inv : Inv D8 := D7_inv.input 3
theorem out6 : outputB (Dj 5) 99 = [97, 98, 8, 32, 8, 99, 13, 10] := by decide +kernel
theorem read7 : (readD D6 9 0).2 = ([97, 99, 10], true) := by decide +kernel
theorem sig8 : (inputD D7 3).2 = [2] := by decide +kernel
theorem out9 : outputB D8 9 = [94, 67] := by decide +kernel
theorem in7 : readD D6 9 0 = (D7, [97, 99, 10], true) := Prod.ext (by show (readD D6 9 0).1 = D7; unfold D7; rfl) read7
theorem in8 : inputD D7 3 = (D8, [2]) := Prod.ext (by show (inputD D7 3).1 = D8; unfold D8; rfl) sig8
theorem input3 (w : World) (p : Nat) (S : Nat → Prop) (hD : Hid (DAt w p S D7)) : Calls Tryz.prog 14 #[.pointer (some ⟨p, 0, none⟩), .int .u8 3] w (RetIn w p S (D8, [2])) := inputp_any w p S D7 hD (hid D7_inv.fit) 3 (hid in8)
theorem ok99 : i64ok 99 := by unfold i64ok; omega
theorem ok9 : i64ok 9 := by unfold i64ok; omega
theorem ok0 : i64ok 0 := by unfold i64ok; omega
theorem lb_at {k : Nat} (hk : k < 5) : (#[.int .u8 97, .int .u8 98, .int .u8 127, .int .u8 99, .int .u8 10] : Array Value)[k]? = some (.int .u8 ((LB.getD k 0).toNat : Int)) := by
  match k, hk with
  | 0, _ => rfl
  | 1, _ => rfl
  | 2, _ => rfl
  | 3, _ => rfl
  | 4, _ => rfl
set_option maxRecDepth 100000 in
set_option maxHeartbeats 4000000 in
theorem alive_any (w : World) : Calls Tryz.prog 9 #[] w fun e w' => e = .returned (.bool true) ∧ Hid (Below w.heap.size w w') := by
  have kc := fun (w : World) (C : Array Value) (n c : Nat) => Lib.run_convert_bytes_const (P := Tryz.prog) w 27 5 C n c Tryz.underlying27 Tryz.underlying5
  go_enter Tryz.func9, Tryz.ntmps9
  go_wp2_with (first
    | (go_at_call 32
       (with_reducible refine (default_any _).mono ?_)
       rintro e w1 ⟨rfl, K1⟩)
    | (go_at_call 13
       (with_reducible refine (newp_any _ dT dT_ok).mono ?_)
       rintro e w2 ⟨p, S0, rfl, A2, N2, k2⟩
       have H2 := hid (Al.made (w0 := w) A2 (hid (fun x hx => Nat.le_trans K1.out.size (N2.out x hx))) (bel_t K1 k2.out))
       clear A2 k2 K1))
  go_loopg [16] 5 (fun gk i wr => ∃ (k : Nat) (S : Nat → Prop), k + gk = 5 ∧ i = .int .i64 k ∧ Hid (Al w wr p S (Dj k)) ∧ Hid (w2.heap.size < wr.heap.size) ∧ Hid (∀ k, k < 5 → wr.cell? ⟨w2.heap.size, k, none⟩ = some (.int .u8 ((LB.getD k 0).toNat : Int))) ∧ Hid (¬ S w2.heap.size))
  case atStart => exact ⟨0, S0, by omega, rfl, hid (H2.out.grow ((Below.refl _ w2).alloc (Nat.le_refl _) _)), hid (by simp), hid (fun k hk => (World.cell?_alloc_mark w2 _ 5 _ k).trans (lb_at hk)), hid (fun h => by have := H2.out.at_.top _ h; omega)⟩
  case round =>
    obtain ⟨k, S, hk, rfl, H3, L3, C3, N3⟩ := hrel
    by_cases hlt : k < 5
    · obtain ⟨y, hy⟩ : ∃ y, Hid (LB.getD k 0 = y) := ⟨_, hid rfl⟩
      have cy := C3.out k hlt
      have hki : (k : Int) < 5 := by omega
      have hr : Hid (inputD (Dj k) y = (Dj (k + 1), [])) := hid (by
        rw [← hy.out]
        exact Prod.ext rfl (Dj_sig k hlt))
      rw [hy.out] at cy
      go_wp2_with (first
        | (go_at_call 14
           (with_reducible refine (inputp_any _ p S (Dj k) (hid H3.out.at_) (hid (Dj_inv k).fit) y hr).mono ?_)
           rintro e w3 ⟨A3, n3, c3, rfl, hn3, -, O3⟩
           obtain rfl : n3 = 0 := hn3.out.symm
           obtain ⟨S4, H4, N4, B4⟩ := H3.out.next O3))
      go_roundg (gk - 1)
      case measure => omega
      case rel => exact ⟨k + 1, S4, by omega, by go_num, H4, hid (Nat.lt_of_lt_of_le L3.out B4.out.size), hid (fun k hk => (B4.out.cell (p := ⟨w2.heap.size, k, none⟩) L3.out N3.out).trans (C3.out k hk)), hid (fun h => (N4.out _ h).elim N3.out (fun h2 => by have := L3.out; omega))⟩
    · obtain rfl : k = 5 := by omega
      have hkn : (5 : Int) < 5 → False := by omega
      go_wp2_with (first
        | (go_at_call 31
           (first
             | ((with_reducible refine (outputp_any _ p S (Dj 5) (hid H3.out.at_) (hid (Dj_inv 5).fit) 99 ok99 (D' := D6) (hid rfl) (hid out6)).mono ?_)
                rintro e w4 ⟨A4, n4, c4, rfl, hn4, L4, O4⟩
                obtain rfl : n4 = 8 := hn4.out.symm
                obtain ⟨S4, H4, N4, B4, F4⟩ := H3.out.nextF O4)
             | ((with_reducible refine (outputp_any _ p S6 D8 (hid H6.out.at_) (hid D8_inv.fit) 9 ok9 (D' := D9) (hid rfl) (hid out9)).mono ?_)
                rintro e w7 ⟨A7, n7, c7, rfl, hn7, L7, O7⟩
                obtain rfl : n7 = 2 := hn7.out.symm
                obtain ⟨S7, H7, N7, B7, F7⟩ := H6.out.nextF O7
                have hc7 : (convert 27 9 (.slice A7 2 c7)).run Tryz.prog w7 = .ok (.string ⟨#[94, 67]⟩) w7 := str_back w7 _ A7 c7 [94, 67] L7.out.2.2.2)))
        | (go_at_call 15
           (with_reducible refine (readp16_any _ p S4 D6 (hid H4.out.at_) (hid D6_inv.fit) 9 0 ok9 ok0 (hid in7)).mono ?_)
           rintro e w5 ⟨A5, n5, c5, rfl, hn5, L5, O5⟩
           obtain rfl : n5 = 3 := hn5.out.symm
           obtain ⟨S5, H5, N5, B5, F5⟩ := H4.out.nextF O5
           have L4' := slb_but L4 B5.out F4.out
           have F4' := free_next L4 F4.out N5.out B5.out)
        | (go_at_call 14
           (with_reducible refine (input3 _ p S5 (hid H5.out.at_)).mono ?_)
           rintro e w6 ⟨A6, n6, c6, rfl, hn6, L6, O6⟩
           obtain rfl : n6 = 1 := hn6.out.symm
           obtain ⟨S6, H6, N6, B6⟩ := H5.out.next O6
           have L4'' := slb_but L4' B6.out F4'
           have L5' := slb_but L5 B6.out F5.out
           have hc4 : (convert 27 9 (.slice A4 8 c4)).run Tryz.prog w6 = .ok (.string ⟨#[97, 98, 8, 32, 8, 99, 13, 10]⟩) w6 := str_back w6 _ A4 c4 [97, 98, 8, 32, 8, 99, 13, 10] L4''.out.2.2.2
           have hc5 : (convert 27 9 (.slice A5 3 c5)).run Tryz.prog w6 = .ok (.string ⟨#[97, 99, 10]⟩) w6 := str_back w6 _ A5 c5 [97, 99, 10] L5'.out.2.2.2
           obtain ⟨b6, o6, y6, rfl, hy6, cy6⟩ := sli_cell L6.out (n := 1) rfl (j := 0) (by omega)
           obtain rfl : y6 = 2 := by simpa using hy6.symm
           have cz6 : World.cell? w6 ⟨b6, o6, none⟩ = some (.int .i64 2) := cy6
           clear cy6)
        | (go_at_call 33
           (with_reducible refine (flushnil_any _ 1).mono ?_)
           rintro e w8 ⟨rfl, k8⟩
           have H8 := hid (H7.out.grow k8.out))
        | (go_at_call 20
           (with_reducible refine (usednil_any _).mono ?_)
           rintro e w9 ⟨rfl, k9⟩
           have H9 := hid (H8.out.grow k9.out)))
      go_ret
      exact ⟨rfl, hid H9.out.bel⟩
end Go.Proofs.YtinlkhboeajljaaGreat
namespace Go.Proofs.YtinlkhboeajljaaGreat
open Go.RowKit

/-! Layer 16: what the laws share: settings that are set one by one, bytes without a meaning. -/
/-- The first k of some options are set. -/
def setK (t : Tm) (ops : List Int) (on : Bool) : Nat → Tm
  | 0 => t
  | k + 1 => setT (setK t ops on k) (ops.getD k 0) on
theorem setK_ok {t : Tm} (ht : t.Ok) (ops : List Int) (on : Bool) : ∀ k, (setK t ops on k).Ok
  | 0 => ht
  | k + 1 => setT_ok (setK_ok ht ops on k) _ _
theorem set_keeps {t : Tm} (ht : t.Ok) {op op2 : Int} (on : Bool) (_hg : flagB op = true) (hne : op ≠ op2) (_h2 : flagB op2 = true) : hasN (setT t op on).f op2 = hasN t.f op2 := by
  show hasN (setN t.f op on) op2 = _
  rw [setN_has ht.f, if_neg]
  rintro ⟨_, h⟩
  exact hne h
theorem index_int {T : TypeId} {n : Nat} {cs : Array Value} (hT : Tryz.prog.underlying T = some (.array n 3)) {k : Nat} {x : Int} (hk : k < n) (hv : cs[k]? = some (.int .i64 x)) : ∀ W : World, (Instr.index T (.agg cs) (.int .i64 (k : Int))).run Tryz.prog W = .ok (.int .i64 x) W := fun W =>
  L9.run_index_one W T 3 n _ cs .i64 k _ hT Tryz.underlying3 rfl (by kernel_rfl) hk hv
theorem DPh.cell {w : World} {p : Nat} {S : Nat → Prop} {D : Ds} {h : Ph} (H : DPh w p S D h) (ht : D.t.Ok) (j : Nat) {v : Value} (hj : (dRest D h)[j]? = some v) : w.cell? ⟨p, 24 + j, none⟩ = some v := (Box.cell H.box (24 + j)).trans (tmV_back ht hj)
def PlainB (t : Tm) (c : UInt8) : Bool := decide (c ≠ 10) && decide (c ≠ 13) && (List.range 18).all fun k => !L15.isC t ((k : Int) + 1) c
theorem plainB_iff {t : Tm} {c : UInt8} : PlainB t c = true ↔ PlainC t c := by
  unfold PlainB PlainC
  simp only [Bool.and_eq_true, decide_eq_true_eq, List.all_eq_true, List.mem_range, Bool.not_eq_true']
  constructor
  · rintro ⟨⟨h1, h2⟩, h3⟩
    refine ⟨h1, h2, fun op ho hp => ?_⟩
    have := h3 (op - 1).toNat (by omega)
    rwa [show ((op - 1).toNat : Int) + 1 = op by omega] at this
  · rintro ⟨h1, h2, h3⟩
    exact ⟨⟨h1, h2⟩, fun k hk => h3 _ (by omega) (by omega)⟩
theorem u8_is {c : UInt8} {k : Nat} (hk : k < 256) (h : c.toNat = k) : c = UInt8.ofNat k := by
  apply UInt8.toNat_inj.1
  rw [h, UInt8.toNat_ofNat']
  omega
set_option maxRecDepth 100000 in
set_option maxHeartbeats 4000000 in
theorem plain_any (w : World) (t : Tm) (ht : t.Ok) (c : UInt8) {b : Bool} (hb : Hid (PlainB t c = b)) : Calls Tryz.prog 11 #[.agg t.cs, .int .u8 (c.toNat : Int)] w fun e w' => e = .returned (.bool b) ∧ Hid (Below w.heap.size w w') := by
  have hs := cs_size ht.len
  have K0 := old26 w t
  by_cases h10 : c = 10
  · have e : b = false := by rw [← hb.out]; simp [PlainB, h10]
    subst e
    have h1 : ((c.toNat : Int) == 10) = true := by rw [h10]; rfl
    go_enter Tryz.func11, Tryz.ntmps11
    go_wp2_with (first
      | (refine bx26 (by rfl) _ (by rfl) _ (by rfl) hs ?_
         intro G0))
    go_ret
    exact ⟨rfl, K0⟩
  · have h1 : ((c.toNat : Int) == 10) = false := u8_ne h10
    by_cases h13 : c = 13
    · have e : b = false := by rw [← hb.out]; simp [PlainB, h13]
      subst e
      have h2 : ((c.toNat : Int) == 13) = true := by rw [h13]; rfl
      go_enter Tryz.func11, Tryz.ntmps11
      go_wp2_with (first
        | (refine bx26 (by rfl) _ (by rfl) _ (by rfl) hs ?_
           intro G0))
      go_ret
      exact ⟨rfl, K0⟩
    · have h2 : ((c.toNat : Int) == 13) = false := u8_ne h13
      go_enter Tryz.func11, Tryz.ntmps11
      go_wp2_with (first
        | (refine bx26 (by rfl) _ (by rfl) _ (by rfl) hs ?_
           intro G0))
      go_loopg [5] 18 (fun gk i wr => ∃ k : Nat, k + gk = 18 ∧ i = .int .i64 ((k : Int) + 1) ∧ Hid (∀ j, j < k → L15.isC t ((j : Int) + 1) c = false) ∧ Hid (Box wr w.heap.size 26 t.cs) ∧ Hid (Below w.heap.size w wr))
      case atStart => exact ⟨0, by omega, rfl, hid (fun j hj => by omega), G0, K0⟩
      case round =>
        obtain ⟨k, hk, rfl, HC, G1, K1⟩ := hrel
        by_cases hlt : k < 18
        · have hki : (k : Int) + 1 ≤ 18 := by omega
          cases hc : L15.isC t ((k : Int) + 1) c
          · go_wp2_with (first
              | (refine ld26 (by rfl) _ (by rfl) _ (by rfl) t.cs G1.out hs ?_)
              | (go_at_call 12
                 (with_reducible refine (L15.isp_b _ t ht _ c hc).mono ?_)
                 rintro e u2 ⟨rfl, k2⟩
                 have G2 := hid (box_below G1.out k2.out)
                 have K2 := bel_t K1 k2.out))
            go_roundg (gk - 1)
            case measure => omega
            case rel => exact ⟨k + 1, by omega, by go_num, hid (fun j hj => by
              by_cases e : j = k
              · subst e; exact hc
              · exact HC.out j (by omega)), G2, K2⟩
          · have e : b = false := by
              rw [← hb.out]
              unfold PlainB
              have : ((List.range 18).all fun k => !L15.isC t ((k : Int) + 1) c) = false := List.all_eq_false.2 ⟨k, List.mem_range.2 hlt, by simp [hc]⟩
              rw [this, Bool.and_false]
            subst e
            go_wp2_with (first
              | (refine ld26 (by rfl) _ (by rfl) _ (by rfl) t.cs G1.out hs ?_)
              | (go_at_call 12
                 (with_reducible refine (L15.isp_b _ t ht _ c hc).mono ?_)
                 rintro e u2 ⟨rfl, k2⟩
                 have K2 := bel_t K1 k2.out))
            go_ret
            exact ⟨rfl, K2⟩
        · obtain rfl : k = 18 := by omega
          have e : b = true := by
            rw [← hb.out]
            refine plainB_iff.2 ⟨h10, h13, fun op ho hp => ?_⟩
            have := HC.out (op - 1).toNat (by omega)
            rwa [show ((op - 1).toNat : Int) + 1 = op by omega] at this
          subst e
          have hki : ¬ ((18 : Nat) : Int) + 1 ≤ 18 := by omega
          go_wp2
          go_ret
          exact ⟨rfl, K1⟩
end Go.Proofs.YtinlkhboeajljaaGreat
namespace Go.Proofs.YtinlkhboeajljaaGreat
open Go.RowKit

/-! Layer 16: appends to a row of its own, and where it lies behind them. -/
section
variable {P : Program} (w : World)
/-- append of a slice to a row of the call's own: where the row lies behind it. -/
theorem run_appx (base : Nat) (t ty e : TypeId) (i : TypeInfo) (z : Value) (bytes : Nat) (ht : P.underlying t = some (.slice e)) (hi : P.info? e = some i) (hz : i.zero = some z)
    (hsize : i.size = 1) (hby : i.bytes = bytes) (hzs : z.cells.size = 1)
    (A : Option Addr) (n c : Nat) (xs : List Value) (hown : w.ownsRow base e 1 (.slice A n c) n xs)
    (B : Nat) (A2 : Option Addr) (m c2 : Nat) (news : List Value) (hl : news.length = m) (hr : Lies w B A2 news) (h1 : ∀ u ∈ news, u.oneCell' = true)
    (h63 : n + m ≤ maxLen) (hbytes : (n + m) * bytes ≤ 140737488355328) (hbase : base ≤ w.heap.size) :
    ∃ A' c' w', (Builtin.append_ #[t, t] ty #[.slice A n c, .slice A2 m c2]).run P w = .ok (.slice A' (n + m) c') w' ∧ w'.ownsRow base e 1 (.slice A' (n + m) c') (n + m) (xs ++ news) ∧
      w.grownBy w' (Value.slice A n c).ownBlock ∧ ∀ x, (Value.slice A' (n + m) c').ownBlock = some x → (Value.slice A n c).ownBlock = some x ∨ w.heap.size ≤ x := by
  by_cases hm : m = 0
  · subst hm
    have hn : news = [] := List.eq_nil_of_length_eq_zero hl
    subst hn
    refine ⟨A, c, w, ?_, by simpa using hown, ⟨rfl, rfl, rfl, Nat.le_refl _, fun _ _ _ => rfl⟩, fun x hx => .inl hx⟩
    rcases hown.2 with ⟨hv, h0⟩ | ⟨g, cap, cur, hv, _, _, hnc, _⟩
    · subst h0
      injection hv with hA hn hc
      subst hA; subst hc
      cases A2 <;> simp [Builtin.append_, run_underlying ht, sizeOf, typeInfo, hi, Builtin.lenOf, Builtin.firstCells, loadCells, loadCellsFrom]
    · injection hv with hA hn hc
      subst hA; subst hc
      cases A2 <;> simp [Builtin.append_, run_underlying ht, sizeOf, typeInfo, hi, Builtin.lenOf, Builtin.firstCells, loadCells, loadCellsFrom, storeCells, hnc]
  · have hne : news ≠ [] := by
      intro e
      rw [e] at hl
      simp at hl
      omega
    obtain ⟨b, o, rfl, _, hc⟩ := hr hne
    have hnews : ∀ j u, news[j]? = some u → w.cell? (Addr.add ⟨b, o, none⟩ j) = some u := fun j u hu => by rw [Addr.add_lit]; exact hc j u hu
    have hl1 : news.length = m * i.size := by rw [hsize]; omega
    have h63' : n + m ≤ 9223372036854775807 := by unfold maxLen at h63; omega
    obtain ⟨v', w', hrun, h2, h3, h4⟩ := run_append_own (P := P) w base t ty e i z 1 bytes ht hi hz hsize hby hzs (by decide) (.slice A n c) n xs hown ⟨b, o, none⟩ m c2 news (by omega) hnews h1 h63 hbytes hbase
    obtain ⟨A', c', rfl⟩ : ∃ A' c', v' = .slice A' (n + m) c' := by
      rcases h2.2 with ⟨_, h0⟩ | ⟨g, cap, cur, hv, _⟩
      · omega
      · exact ⟨_, _, hv⟩
    refine ⟨A', c', w', hrun, h2, h3, ?_⟩
    intro x hx
    rcases hown.2 with ⟨hv, h0⟩ | ⟨g, cap, cur, hv, hbg, hg, hnc, hcm, hcs, htake⟩
    · injection hv with e1 e2 e3
      subst e1; subst e3; subst h0
      have hr2 := run_append_nil (P := P) w t ty e i z ht hi hz ⟨b, o, none⟩ m c2 news hl1 hnews (by omega) (by omega) (by have := hbytes; rw [hby]; simp only [Nat.zero_add] at this; omega)
      rw [hr2] at hrun
      injection hrun with e4 _
      injection e4 with e5 _ _
      subst e5
      right
      simp [Value.ownBlock] at hx
      omega
    · injection hv with e1 e2 e3
      subst e1; subst e3
      by_cases hroom : n + m ≤ c
      · have hr2 := run_append_room (P := P) w t ty e i ht hi g n c cur hg ⟨b, o, none⟩ m c2 news hl1 hnews h1 hroom (by rw [hsize, hcs]; omega)
        rw [hr2] at hrun
        injection hrun with e4 _
        injection e4 with e5 _ _
        subst e5
        exact .inl hx
      · have holds : ∀ j v, xs[j]? = some v → w.cell? ((⟨g, 0, none⟩ : Addr).add j) = some v := hown.cells (g := g) rfl
        have hr2 := run_append_grow (P := P) w t ty e i z ht hi hz ⟨g, 0, none⟩ n c xs (by rw [hown.1, hsize]) holds ⟨b, o, none⟩ m c2 news hl1 hnews (by omega) (by omega) (growslice_fits (by omega) (by rw [hby]; exact hbytes))
        rw [hr2] at hrun
        injection hrun with e4 _
        injection e4 with e5 _ _
        subst e5
        right
        simp [Value.ownBlock] at hx
        omega

theorem wpList_appx {ops : Array Oper} {rest : List Oper} {o : Oper} {a : Act} {Q : Exit → Act → World → Prop} (hgd : o.guard = none) (s x : Operand) (t : TypeId)
    (ho : o.op = .call { callee := .builtin .append, args := #[s, x], argTypes := #[t, t] })
    (base : Nat) (e : TypeId) (i : TypeInfo) (z : Value) (bytes : Nat) (ht : P.underlying t = some (.slice e)) (hi : P.info? e = some i) (hz : i.zero = some z)
    (hsize : i.size = 1) (hby : i.bytes = bytes) (hzs : z.cells.size = 1)
    (A : Option Addr) (n c : Nat) (xs : List Value) (hs : a.eval s = .slice A n c) (hown : w.ownsRow base e 1 (.slice A n c) n xs)
    (B : Nat) (A2 : Option Addr) (m c2 : Nat) (news : List Value) (hx : a.eval x = .slice A2 m c2) (hl : news.length = m) (hr : Lies w B A2 news) (h1 : ∀ u ∈ news, u.oneCell' = true)
    (h63 : n + m ≤ maxLen) (hbytes : (n + m) * bytes ≤ 140737488355328) (hbase : base ≤ w.heap.size)
    (h : ∀ A' c' w', w'.ownsRow base e 1 (.slice A' (n + m) c') (n + m) (xs ++ news) → w.grownBy w' (Value.slice A n c).ownBlock → (∀ x, (Value.slice A' (n + m) c').ownBlock = some x → (Value.slice A n c).ownBlock = some x ∨ w.heap.size ≤ x) → wpList P ops Q rest (a.put o.dst (.slice A' (n + m) c')) w') : wpList P ops Q (o :: rest) a w := by
  refine wpList_plain hgd fun K hK => ?_
  obtain ⟨A', c', w', hrun, h2, h3, h4⟩ := run_appx (P := P) w base t o.type e i z bytes ht hi hz hsize hby hzs A n c xs hown B A2 m c2 news hl hr h1 h63 hbytes hbase
  unfold Oper.wp execOp
  simp only [ho, resolve, invoke, builtin, Sem.run_bind, Sem.run_pure, Result.andThen_ok, List.map_toArray, List.map_cons, List.map_nil, hs, hx, hrun]
  exact hK _ _ (h A' c' w' h2 h3 h4)
end


/-- Bytes behind bytes of a row of one's own: nothing else turns. -/
theorem app_base {ops : Array Oper} {rest : List Oper} {o : Oper} {a : Act} {Q : Exit → Act → World → Prop} (w : World) (hgd : o.guard = none) (s x : Operand) (ho : o.op = .call { callee := .builtin .append, args := #[s, x], argTypes := #[27, 27] })
    (base : Nat) (hbase : base ≤ w.heap.size) (n c : Nat) (A : Option Addr) (xs : List UInt8) (hs : a.eval s = .slice A n c) (hown : Hid (w.ownsRow base 5 1 (.slice A n c) n (bv xs))) (A2 : Option Addr) (m c2 : Nat) (ys : List UInt8)
    (hx : a.eval x = .slice A2 m c2) (hS : Hid (SlB w w.heap.size A2 c2 ys)) (hy : ys.length = m) (hm : n + m ≤ 1000000)
    (h : ∀ A' c' w', Hid (w'.ownsRow base 5 1 (.slice A' (n + m) c') (n + m) (bv (xs ++ ys))) → Hid (ButP (fun b => ∃ q, A = some q ∧ q.block = b) w w') → Hid (∀ q, A' = some q → (∃ r, A = some r ∧ r.block = q.block) ∨ w.heap.size ≤ q.block) → wpList Tryz.prog ops Q rest (a.put o.dst (.slice A' (n + m) c')) w') : wpList Tryz.prog ops Q (o :: rest) a w := by
  subst hy
  obtain ⟨i5, hi5, hz5, hz51, hz52⟩ := info_parts Tryz.info5
  refine wpList_appx w hgd s x 27 ho base 5 i5 _ 1 Tryz.underlying27 hi5 hz5 hz51 hz52 rfl A n c (bv xs) hs hown.out w.heap.size A2 ys.length c2 (bv ys) hx (bv_length ys) hS.out.2.2.2 (bv_one _) (by unfold maxLen; omega) (by omega) hbase ?_
  intro A3 c3 u3 ho3 hg3 hw3
  refine h A3 c3 u3 (hid ?_) (hid ((ButP.refl _ w).grown hg3 fun k hk => .inl ?_)) (hid fun q hq => ?_)
  · rwa [← bv_append] at ho3
  · cases A with
    | none => cases hk
    | some q => injection hk with hk; exact ⟨q, rfl, hk⟩
  · subst hq
    rcases hw3 _ rfl with h1 | h1
    · cases A with
      | none => cases h1
      | some r => injection h1 with h1; exact .inl ⟨r, rfl, h1⟩
    · exact .inr h1
/-- Bytes behind bytes of a row of one's own: nothing else turns. -/
theorem app_but {ops : Array Oper} {rest : List Oper} {o : Oper} {a : Act} {Q : Exit → Act → World → Prop} (w : World) (hgd : o.guard = none) (s x : Operand) (ho : o.op = .call { callee := .builtin .append, args := #[s, x], argTypes := #[27, 27] })
    (n c : Nat) (A : Option Addr) (xs : List UInt8) (hs : a.eval s = .slice A n c) (hown : Hid (w.ownsRow 0 5 1 (.slice A n c) n (bv xs))) (A2 : Option Addr) (m c2 : Nat) (ys : List UInt8)
    (hx : a.eval x = .slice A2 m c2) (hS : Hid (SlB w w.heap.size A2 c2 ys)) (hy : ys.length = m) (hm : n + m ≤ 1000000)
    (h : ∀ A' c' w', Hid (w'.ownsRow 0 5 1 (.slice A' (n + m) c') (n + m) (bv (xs ++ ys))) → Hid (ButP (fun b => ∃ q, A = some q ∧ q.block = b) w w') → Hid (∀ q, A' = some q → (∃ r, A = some r ∧ r.block = q.block) ∨ w.heap.size ≤ q.block) → wpList Tryz.prog ops Q rest (a.put o.dst (.slice A' (n + m) c')) w') : wpList Tryz.prog ops Q (o :: rest) a w := by
  exact app_base w hgd s x ho 0 (Nat.zero_le _) n c A xs hs hown A2 m c2 ys hx hS hy hm h
theorem own_nil0 (w : World) : Hid (w.ownsRow 0 5 1 (.slice none 0 0) 0 (bv [])) := hid ⟨rfl, .inl ⟨rfl, rfl⟩⟩
theorem own0_slb {w : World} {A : Option Addr} {n c : Nat} {xs : List UInt8} (hn : Hid (xs.length = n)) (h : Hid (w.ownsRow 0 5 1 (.slice A n c) n (bv xs))) : Hid (SlB w w.heap.size A c xs) := slb_own hn h
theorem own_but {w w' : World} {S : Nat → Prop} {A : Option Addr} {n c : Nat} {xs : List UInt8} (h : Hid (w.ownsRow 0 5 1 (.slice A n c) n (bv xs))) (k : ButP S w w') (hS : ∀ q, A = some q → ¬ S q.block) : Hid (w'.ownsRow 0 5 1 (.slice A n c) n (bv xs)) :=
  hid (k.own h.out fun g hg => by
    cases A with
    | none => cases hg
    | some q => injection hg with hg; subst hg; exact hS q rfl)
theorem own_lt {w : World} {a : Addr} {n c : Nat} {xs : List UInt8} (h : Hid (w.ownsRow 0 5 1 (.slice (some a) n c) n (bv xs))) {A : Option Addr} (_hA : A = some a) : a.block < w.heap.size := by
  rcases h.out.2 with ⟨e, _⟩ | ⟨g, cap, cur, e, _, hg, _⟩
  · cases e
  · injection e with e1 _ _
    injection e1 with e1
    subst e1
    exact (show Box w g 5 cur from hg).lt
/-- Rows of a list stay, where none of them turns. -/
theorem pl_but {w w' : World} {B : Nat} {T : Nat → Prop} {ps : List (List UInt8)} {cs : List Value} (h : L10.PL w B ps cs) (k : ButP T w w') (hT : ∀ v ∈ cs, ∀ g, v.ownBlock = some g → ¬ T g) : L10.PL w' B ps cs :=
  ⟨h.1, fun j hj => by
    obtain ⟨A, c, h1, h2⟩ := h.2 j hj
    exact ⟨A, c, h1, k.own h2 (hT _ (List.mem_of_getElem? h1))⟩⟩
/-- A row's block is there. -/
theorem pl_lt {w : World} {B : Nat} {ps : List (List UInt8)} {cs : List Value} (h : L10.PL w B ps cs) : ∀ v ∈ cs, ∀ g, v.ownBlock = some g → g < w.heap.size := fun v hv g hg => by
  obtain ⟨j, hj, rfl⟩ := List.getElem_of_mem hv
  obtain ⟨A, c, h1, h2⟩ := h.2 j (by rw [← h.1]; exact hj)
  rw [List.getElem?_eq_getElem hj] at h1
  injection h1 with h1
  rw [h1] at hg
  rcases h2.2 with ⟨e, _⟩ | ⟨g2, cap, cur, e, _, hg2, _⟩
  · rw [e] at hg; cases hg
  · rw [e] at hg
    injection hg with hg
    subst hg
    exact (show Box w g2 5 cur from hg2).lt
end Go.Proofs.YtinlkhboeajljaaGreat
