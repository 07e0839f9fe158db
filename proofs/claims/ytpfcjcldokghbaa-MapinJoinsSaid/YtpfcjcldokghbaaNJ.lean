import Derived.Test.YtpfcjcldokghbaaNH
import Derived.Deep.RegionHeld3
namespace Go.Proofs.Ytpfcjcldokghbaa
open Go.RowKit

/-- A stream is copied to an empty literal. -/
theorem app_copy {ops : Array Oper} {rest : List Oper} {o : Oper} {a : Act} {Q : Exit → Act → World → Prop} (w : World) (hgd : o.guard = none) (s x : Operand) (ho : o.op = .call { callee := .builtin .append, args := #[s, x], argTypes := #[32, 32] })
    (hs : a.eval s = .slice (some ⟨w.heap.size, 0, none⟩) 0 0) (A : Option Addr) (n c : Nat) (bs : List UInt8) (hx : a.eval x = .slice A n c) (hS : Hid (SlB w w.heap.size A c bs)) (hn : bs.length = n) (hm : n ≤ 1000000)
    (h : ∀ A2 c2 u2, Hid (Below w.heap.size w u2) → Hid (SlB u2 u2.heap.size A2 c2 bs) → wpList Try.prog ops Q rest (a.put o.dst (.slice A2 n c2)) u2) : wpList Try.prog ops Q (o :: rest) a (w.alloc (.cells #[] 5)) := by
  subst hn
  obtain ⟨i5, hi5, hz5, hz51, hz52⟩ := info_parts Try.info5
  refine wpList_app _ hgd s x 32 ho w.heap.size 5 i5 _ 1 1 Try.underlying32 hi5 hz5 hz51 hz52 rfl (by decide) _ 0 0 [] hs (lit_own (Nat.le_refl _) rfl) w.heap.size A bs.length c (bv bs) hx (by rw [bv_length, Nat.mul_one]) (hS.out.2.2.2.alloc (Nat.le_refl _) _) (bv_one _) (by unfold maxLen; omega) (by omega) (by simp) ?_
  intro A2 c2 u2 ho2 hg2
  simp only [Nat.zero_add, List.nil_append] at ho2 ⊢
  exact h A2 c2 u2 (hid (lit_grown rfl hg2)) (hid (own_slb (_n := 0) ho2))
attribute [local go_sem ↓] ex_ld26
attribute [local go_sem] isP_v blkV_v aggV_v
set_option maxRecDepth 100000 in
set_option maxHeartbeats 4000000 in
theorem maps_walk (w : World) (t : Tm) (ht : t.Ok) (A : Option Addr) (c n : Nat) (bs : List UInt8) (hb : Hid (SlB w w.heap.size A c bs)) (hn : bs.length = n) :
    Calls Try.prog 4 #[.agg t.cs, .slice A n c] w fun e w' => e = .returned (.bool true) ∧ Hid (Below w.heap.size w w') := by
  have hs := cs_size ht.len
  have K0 : Hid (Below w.heap.size w (w.alloc (.cells t.cs 26))) := hid ((Below.refl _ w).alloc (Nat.le_refl _) _)
  have L0 := slb_at hb K0
  by_cases h1 : 10000 < n
  · have k1 : (10000 : Int) < (n : Int) := by omega
    go_enter Try.func4, Try.ntmps4
    go_wp2_with (first
      | (refine bx26 (by rfl) _ (by rfl) _ (by rfl) hs ?_
         intro G0)
      | (go_at_call 7
         (with_reducible refine (call_alive _).mono ?_)
         rintro e u1 ⟨rfl, k⟩
         have K1 := bel_t K0 k.out
         clear k G0 K0))
    go_ret
    exact ⟨rfl, K1⟩
  · have k1 : ¬ (10000 : Int) < (n : Int) := by omega
    have hm : n ≤ 20000 := by omega
    obtain ⟨l, hl⟩ : ∃ l, mapB t bs = l := ⟨_, rfl⟩
    have hll := map_len t bs
    rw [hl] at hll
    have hll2 : l.length ≤ 20000 := by omega
    clear hll
    go_enter Try.func4, Try.ntmps4
    go_wp2_with (first
      | (refine bx26 (by rfl) _ (by rfl) _ (by rfl) hs ?_
         intro G0)
      | (go_at_call 7
         (with_reducible refine (call_alive _).mono ?_)
         rintro e u1 ⟨rfl, k⟩
         have G1 := hid (box_below G0.out k.out)
         have K1 := bel_t K0 k.out
         have L1 := slb_at L0 k
         clear k G0 K0 L0)
      | (at_builtin
         (refine app_copy u1 rfl (.tmp 11) (.tmp 12) rfl rfl A n c bs rfl L1 hn (by omega) ?_)
         intro A2 c2 u2 k2 M2
         have L2 := slb_at L1 k2
         have G2 := hid (box_below G1.out k2.out)
         have K2 := bel_trans K1 k2
         clear k2 L1 G1 K1))
    have S2 := box_isB (w := u2.drew) G2.out ht.len
    have G2d : Hid (Box u2.drew w.heap.size 26 t.cs) := G2
    have K2d := drw K2
    have L2d : Hid (SlB u2.drew u2.drew.heap.size A c bs) := L2
    have M2d : Hid (SlB u2.drew u2.drew.heap.size A2 c2 bs) := M2
    go_region_held3 (fun u => isB u w.heap.size = true ∧ cs26 u w.heap.size = t.cs) (first | exact S2 | exact S3 | exact S4 | exact S5 | exact S6) ((first
      | (go_at_call 15
         (with_reducible refine (map_any _ t ht A2 n c2 bs M2d hn hm).mono ?_)
         rw [hl]
         rintro e u3 ⟨A3, n3, c3, rfl, hn3, L3, k⟩
         have G3 := hid (box_below G2d.out k.out)
         have K3 := bel_t K2d k.out
         have L23 := slb_at L2d k
         have M23 := slb_at M2d k
         have S3 := box_isB G3.out ht.len
         clear k)
      | (go_at_call 16
         (with_reducible refine (mapr_any _ t ht A n c bs L23 hn hm).mono ?_)
         rw [hl]
         rintro e u4 ⟨A4, n4, c4, rfl, hn4, L4, k⟩
         have G4 := hid (box_below G3.out k.out)
         have K4 := bel_t K3 k.out
         have L34 := slb_at L3 k
         have L24 := slb_at L23 k
         have M24 := slb_at M23 k
         have S4 := box_isB G4.out ht.len
         clear k)
      | (go_at_call 12
         (first
           | ((with_reducible refine (bytes_two _ A3 A4 c3 c4 n3 n4 l l hn3.out hn4.out (Eq.refl l) L34 L4 (by have := hn3.out; unfold maxLen; omega)).mono ?_)
              rintro e u5 ⟨rfl, k⟩
              have G5 := hid (box_below G4.out k.out)
              have K5 := bel_t K4 k.out
              have L25 := slb_at L24 k
              have M25 := slb_at M24 k
              have S5 := box_isB G5.out ht.len
              clear k)
           | ((with_reducible refine (bytes_two _ A2 A c2 c n n bs bs hn hn (Eq.refl bs) M25 L25 (by unfold maxLen; omega)).mono ?_)
              rintro e u6 ⟨rfl, k⟩
              have G6 := hid (box_below G5.out k.out)
              have K6 := bel_t K5 k.out
              have S6 := box_isB G6.out ht.len
              clear k)))))
    go_wp2
    go_ret
    exact ⟨rfl, K6⟩
end Go.Proofs.Ytpfcjcldokghbaa
