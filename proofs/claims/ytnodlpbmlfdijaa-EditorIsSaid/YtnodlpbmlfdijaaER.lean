import Derived.Test.YtnodlpbmlfdijaaEQ
namespace Go.Proofs.Ytnodlpbmlfdijaa
open Go.RowKit

/-- A byte more, if there is room. -/
def putA (bs : List UInt8) (y : UInt8) : List UInt8 := if 254 ≤ bs.length then bs else bs ++ [y]
def putB (bs : List UInt8) : Bool := !decide (254 ≤ bs.length)
def Puts (w : World) (xs : List UInt8) (b : Bool) (e : Ending) (w' : World) : Prop := ∃ A1 n1 c1, e = .returned (.tuple #[.slice A1 n1 c1, .bool b]) ∧ Hid (xs.length = n1) ∧ Hid (w'.ownsRow w.heap.size 5 1 (.slice A1 n1 c1) n1 (bv xs)) ∧ Hid (Below w.heap.size w w')
theorem lis_pair (w : World) (A : Option Addr) (n c : Nat) (bs : List UInt8) (y : UInt8) (hb : Hid (SlB w w.heap.size A c bs)) (hn : bs.length = n) :
    LisV ((w.alloc (.cells #[.int .u8 (y.toNat : Int)] 5)).alloc (.cells #[.slice A n c, .slice (some ⟨w.heap.size, 0, none⟩) 1 1] 27)) (w.heap.size + 1 + 1) (some ⟨w.heap.size + 1, 0, none⟩) [bs, [y]] := by
  intro _
  have hb2 : Below w.heap.size w ((w.alloc (.cells #[.int .u8 (y.toNat : Int)] 5)).alloc (.cells #[.slice A n c, .slice (some ⟨w.heap.size, 0, none⟩) 1 1] 27)) := ((Below.refl _ w).alloc (Nat.le_refl _) _).alloc (by simp) _
  have hc : ∀ i, ((w.alloc (.cells #[.int .u8 (y.toNat : Int)] 5)).alloc (.cells #[.slice A n c, .slice (some ⟨w.heap.size, 0, none⟩) 1 1] 27)).cell? ⟨w.heap.size + 1, 0 + i, none⟩ = #[Value.slice A n c, .slice (some ⟨w.heap.size, 0, none⟩) 1 1][i]? := fun i => by
    rw [(box_nw1 w _ 27 _).cell (0 + i), Nat.zero_add]
  refine ⟨w.heap.size + 1, 0, rfl, by omega, fun k hk => ?_⟩
  match k, hk with
  | 0, _ =>
    refine ⟨A, c, ?_, (hb.out.below hb2).more (by omega)⟩
    rw [hc 0]
    show some (Value.slice A n c) = some (.slice A bs.length c)
    rw [hn]
  | 1, _ =>
    refine ⟨some ⟨w.heap.size, 0, none⟩, 1, ?_, ?_⟩
    · rw [hc 1]
      rfl
    · have h1 : SlB (w.alloc (.cells #[.int .u8 (y.toNat : Int)] 5)) (w.alloc (.cells #[.int .u8 (y.toNat : Int)] 5)).heap.size (some ⟨w.heap.size, 0, none⟩) 1 [y] := slb_lit w [y] 1 _ rfl rfl (by unfold maxLen; omega)
      have h2 := (h1.below ((Below.refl _ _).alloc (Nat.le_refl _) (.cells #[.slice A n c, .slice (some ⟨w.heap.size, 0, none⟩) 1 1] 27)))
      exact h2.more (by simp)
set_option maxRecDepth 100000 in
set_option maxHeartbeats 1000000 in
theorem put_any (w : World) (A : Option Addr) (n c : Nat) (bs : List UInt8) (y : UInt8) (hb : Hid (SlB w w.heap.size A c bs)) (hn : bs.length = n) (hm : n ≤ 1000) :
    Calls Try.prog 8 #[.slice A n c, .int .u8 (y.toNat : Int)] w (Puts w (putA bs y) (putB bs)) := by
  by_cases h0 : 254 ≤ n
  · have k1 : (254 : Int) ≤ (n : Int) := by omega
    have e1 : putA bs y = bs := by unfold putA; rw [if_pos (by omega)]
    have e2 : putB bs = false := by unfold putB; simp; omega
    rw [e1, e2]
    go_enter Try.func8, Try.ntmps8
    go_wp2_with (first
      | (go_at_call 22
         (with_reducible refine (copied_own w w (Below.refl _ _) A n c bs hb (hid hn) (by omega)).mono ?_)
         rintro e u1 ⟨A1, c1, rfl, o1, b1, _⟩))
    go_ret2
    exact ⟨A1, n, c1, rfl, hid hn, o1, hid b1⟩
  · have k1 : ¬ (254 : Int) ≤ (n : Int) := by omega
    have e1 : putA bs y = bs ++ [y] := by unfold putA; rw [if_neg (by omega)]
    have e2 : putB bs = true := by unfold putB; simp; omega
    rw [e1, e2]
    have HP := hid (lis_pair w A n c bs y hb hn)
    have hfl : ([bs, [y]] : List (List UInt8)).flatten = bs ++ [y] := by simp
    have hb2 : Hid (Below w.heap.size w ((w.alloc (.cells #[.int .u8 (y.toNat : Int)] 5)).alloc (.cells #[.slice A n c, .slice (some ⟨w.heap.size, 0, none⟩) 1 1] 27))) := hid (((Below.refl _ w).alloc (Nat.le_refl _) _).alloc (by simp) _)
    have HC : Hid (Calls Try.prog 23 #[.slice (some ⟨w.heap.size + 1, 0, none⟩) 2 2] ((w.alloc (.cells #[.int .u8 (y.toNat : Int)] 5)).alloc (.cells #[.slice A n c, .slice (some ⟨w.heap.size, 0, none⟩) 1 1] 27)) fun e w' => ∃ A' c', e = .returned (.slice A' (n + 1) c') ∧ Hid (w'.ownsRow w.heap.size 5 1 (.slice A' (n + 1) c') (n + 1) (bv (bs ++ [y]))) ∧ Hid (Below w.heap.size w w')) := by
      have hl2 : ([bs, [y]] : List (List UInt8)).flatten.length = n + 1 := by rw [hfl, List.length_append, hn]; rfl
      refine hid ((concat_any _ _ _ 2 [bs, [y]] HP.out (by simp) (by simp) (by omega)).mono ?_)
      rintro e w' ⟨A', c', he, h1, h2⟩
      rw [hl2] at he h1
      rw [hfl] at h1
      exact ⟨A', c', he, hid (own_mono h1 (by simp; omega)), hid (hb2.out.trans (h2.mono (by simp; omega)))⟩
    clear hfl
    go_enter Try.func8, Try.ntmps8
    go_wp2_with (first
      | (go_at_call 23
         (with_reducible refine HC.out.mono ?_)
         rintro e u1 ⟨A1, c1, rfl, o1, b1⟩))
    go_ret2
    exact ⟨A1, n + 1, c1, rfl, hid (by rw [List.length_append, hn]; rfl), o1, b1⟩
set_option maxRecDepth 100000 in
set_option maxHeartbeats 1000000 in
theorem putr_any (w : World) (A : Option Addr) (n c : Nat) (bs : List UInt8) (y : UInt8) (hb : Hid (SlB w w.heap.size A c bs)) (hn : bs.length = n) (hm : n ≤ 1000) :
    Calls Try.prog 9 #[.slice A n c, .int .u8 (y.toNat : Int)] w (Puts w (putA bs y) (putB bs)) := by
  by_cases h0 : 254 ≤ n
  · have k1 : (254 : Int) ≤ (n : Int) := by omega
    have e1 : putA bs y = bs := by unfold putA; rw [if_pos (by omega)]
    have e2 : putB bs = false := by unfold putB; simp; omega
    rw [e1, e2]
    go_enter Try.func9, Try.ntmps9
    go_wp2_with (first
      | (at_builtin
         refine app_copy_g w (by rfl) (.tmp 7) (.tmp 8) rfl _ rfl rfl A n c bs rfl hb (hid hn) (by omega) ?_
         intro A1 c1 u1 b1 o1))
    go_ret2
    exact ⟨A1, n, c1, rfl, hid hn, o1, b1⟩
  · have k1 : ¬ (254 : Int) ≤ (n : Int) := by omega
    have e1 : putA bs y = bs ++ [y] := by unfold putA; rw [if_neg (by omega)]
    have e2 : putB bs = true := by unfold putB; simp; omega
    rw [e1, e2]
    go_enter Try.func9, Try.ntmps9
    go_wp2_with (first
      | (at_builtin
         (first
           | (refine app_copy_g w (by rfl) (.tmp 7) (.tmp 8) rfl _ rfl rfl A n c bs rfl hb (hid hn) (by omega) ?_
              intro A1 c1 u1 b1 o1
              have b1a := hid (b1.out.alloc b1.out.size (.cells #[.int .u8 (y.toNat : Int)] 5))
              have o1a := hid (own_keep o1.out ((Below.refl _ u1).alloc (Nat.le_refl _) (.cells #[.int .u8 (y.toNat : Int)] 5)))
              have hly : Hid (SlB (u1.alloc (.cells #[.int .u8 (y.toNat : Int)] 5)) (u1.alloc (.cells #[.int .u8 (y.toNat : Int)] 5)).heap.size (some ⟨u1.heap.size, 0, none⟩) 1 [y]) := hid (slb_lit u1 [y] 1 _ rfl rfl (by unfold maxLen; omega)))
           | (refine app_own (u1.alloc (.cells #[.int .u8 (y.toNat : Int)] 5)) rfl (.tmp 14) (.tmp 16) rfl w.heap.size n c1 A1 bs rfl o1a b1a.out.size _ 1 1 [y] rfl hly rfl (by omega) ?_
              intro A2 c2 u2 o2 k2
              have b2 := hid (b1a.out.trans (k2.out.below b1a.out.size))))))
    go_ret2
    exact ⟨A2, n + 1, c2, rfl, hid (by rw [List.length_append, hn]; rfl), o2, b2⟩
end Go.Proofs.Ytnodlpbmlfdijaa
