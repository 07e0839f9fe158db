import Derived.Test.YtgkcappcjlfloaaMT
namespace Go.Proofs.Ytgkcappcjlfloaa
open Go.RowKit

theorem info_parts {P : Program} {t : TypeId} {z : Value} {s b : Nat} (h : (P.info? t).map (fun i => (i.zero, i.size, i.bytes)) = some (some z, s, b)) : ∃ i, P.info? t = some i ∧ i.zero = some z ∧ i.size = s ∧ i.bytes = b := by
  cases hq : P.info? t with
  | none => simp [hq] at h
  | some i =>
    simp [hq] at h
    exact ⟨i, rfl, h.1, h.2.1, h.2.2⟩
theorem call_alive2 (w : World) : Calls Try.prog 9 #[] w fun e w' => e = .returned (.bool true) ∧ Hid (Below w.heap.size w w') := alive_any w
theorem decr_b (w : World) (A : Option Addr) (c n : Nat) {bs : List UInt8} {t t' : Tm} {e : Int} (hb : Hid (SlB w w.heap.size A c bs)) (hn : bs.length = n) (hm : n ≤ 1000000) (ht : t.Ok) (h : decT bs t = (t', e)) :
    Calls Try.prog 23 #[.slice A n c, .agg t.cs] w fun e' w' => e' = .returned (.tuple #[.agg t'.cs, .int .i64 e]) ∧ Hid (Below w.heap.size w w') := by
  have := decoder_any w t ht A c n bs hb.out hn hm
  rwa [h] at this
theorem bytes_eq (w : World) (A A2 : Option Addr) (c c2 n : Nat) (xs : List UInt8) (hn : xs.length = n) (hx : Hid (SlB w w.heap.size A c xs)) (hy : Hid (SlB w w.heap.size A2 c2 xs)) (hl : n ≤ maxLen) :
    Calls Try.prog 24 #[.slice A n c, .slice A2 n c2] w fun e w' => e = .returned (.bool true) ∧ Hid (Below w.heap.size w w') := by
  subst hn
  refine (bytes_any w _ _ A A2 c c2 xs xs hx.out.2.2.2 hy.out.2.2.2 hl hl).mono ?_
  rintro e w' ⟨rfl, k, rfl⟩
  exact ⟨by simp, hid (bel_drewN (Below.refl _ _) k)⟩
/-- A stream is copied to an empty literal. -/
theorem app_copy {ops : Array Oper} {rest : List Oper} {o : Oper} {a : Act} {Q : Exit → Act → World → Prop} (w : World) (hgd : o.guard = none) (s x : Operand) (ho : o.op = .call { callee := .builtin .append, args := #[s, x], argTypes := #[38, 38] })
    (hs : a.eval s = .slice (some ⟨w.heap.size, 0, none⟩) 0 0) (A : Option Addr) (n c : Nat) (bs : List UInt8) (hx : a.eval x = .slice A n c) (hS : Hid (SlB w w.heap.size A c bs)) (hn : bs.length = n) (hm : n ≤ 1000000)
    (h : ∀ A2 c2 u2, Hid (Below w.heap.size w u2) → Hid (SlB u2 u2.heap.size A2 c2 bs) → wpList Try.prog ops Q rest (a.put o.dst (.slice A2 n c2)) u2) : wpList Try.prog ops Q (o :: rest) a (w.alloc (.cells #[] 5)) := by
  subst hn
  obtain ⟨i5, hi5, hz5, hz51, hz52⟩ := info_parts Try.info5
  refine wpList_app _ hgd s x 38 ho w.heap.size 5 i5 _ 1 1 Try.underlying38 hi5 hz5 hz51 hz52 rfl (by decide) _ 0 0 [] hs (lit_own (Nat.le_refl _) rfl) w.heap.size A bs.length c (bv bs) hx (by rw [bv_length, Nat.mul_one]) (hS.out.2.2.2.alloc (Nat.le_refl _) _) (bv_one _) (by unfold maxLen; omega) (by omega) (by simp) ?_
  intro A2 c2 u2 ho2 hg2
  simp only [Nat.zero_add, List.nil_append] at ho2 ⊢
  exact h A2 c2 u2 (hid (lit_grown rfl hg2)) (hid (own_slb (_n := 0) ho2))
set_option maxRecDepth 100000 in
set_option maxHeartbeats 4000000 in
theorem decodes_walk (w : World) (t : Tm) (ht : t.Ok) (A : Option Addr) (c n : Nat) (bs : List UInt8) (hb : Hid (SlB w w.heap.size A c bs)) (hn : bs.length = n) (hm : n ≤ maxLen) :
    Calls Try.prog 4 #[.slice A n c, .agg t.cs] w fun e w' => e = .returned (.bool true) ∧ Hid (Below w.heap.size w w') := by
  have hs := cs_size ht.len
  obtain ⟨i5, hi5, hz5, hz51, hz52⟩ := info_parts Try.info5
  by_cases hg : n ≤ 20000
  · have hd2 : decide ((20000 : Int) < (n : Int)) = false := by simp; omega
    obtain ⟨t', e', hd⟩ : ∃ t' e', decT bs t = (t', e') := ⟨_, _, rfl⟩
    have ht' : t'.Ok := by
      have := dec_ok (bs.length + 1) bs t (by omega) ht
      rw [hd] at this
      exact this
    have hs' := cs_size ht'.len
    have K0 : Hid (Below w.heap.size w (w.alloc (.cells t.cs 26))) := hid ((Below.refl _ w).alloc (Nat.le_refl _) _)
    have S0 := slb_at hb K0
    have v1 := eqT_self t'
    go_enter Try.func4, Try.ntmps4
    go_wp2_with (first
      | (refine bx26 (by rfl) _ (by rfl) _ (by rfl) hs ?_; intro G0)
      | (go_at_call 9
         (with_reducible refine (call_alive2 _).mono ?_)
         rintro e u1 ⟨rfl, k⟩
         have K1 := bel_t K0 k.out
         have S1 := slb_at S0 k
         have G1 := hid (box_below G0.out k.out)
         clear k K0 S0 G0)
      | (at_builtin
         (refine app_copy u1 rfl (.tmp 15) (.tmp 16) rfl rfl A n c bs rfl S1 hn (by omega) ?_)
         intro A2 c2 u2 k2 O2
         have K2 := bel_trans K1 k2
         have S2 := slb_at S1 k2
         have G2 := hid (box_below G1.out k2.out)
         clear k2 K1 S1 G1)
      | (go_at_call 22
         (with_reducible refine (dec_b _ _ _ n O2 hn ht hd).mono ?_)
         rintro e u3 ⟨rfl, k⟩
         have K3 := bel_t K2 k.out
         have S3 := slb_at S2 k
         have O3 := slb_at O2 k
         have G3 := hid (box_below G2.out k.out)
         clear k K2 S2 O2 G2)
      | (refine sn26 (by rfl) _ _ (by rfl) u3 _ rfl rfl (by rfl) t' ht'.len (by rfl) ?_
         intro u4 X4 k
         have K4 := bel_t K3 k.out
         have S4 := slb_at S3 k
         have O4 := slb_at O3 k
         have G4 := hid (box_below G3.out k.out)
         clear k K3 S3 O3 G3)
      | (go_at_call 23
         (with_reducible refine (decr_b _ _ _ n S4 hn (by omega) ht hd).mono ?_)
         rintro e u5 ⟨rfl, k⟩
         have K5 := bel_t K4 k.out
         have S5 := slb_at S4 k
         have O5 := slb_at O4 k
         have G5 := hid (box_below G4.out k.out)
         have X5 := hid (box_below X4.out k.out)
         clear k K4 S4 O4 G4 X4)
      | (refine sn26 (by rfl) _ _ (by rfl) u5 _ rfl rfl (by rfl) t' ht'.len (by rfl) ?_
         intro u6 Y6 k
         have K6 := bel_t K5 k.out
         have S6 := slb_at S5 k
         have O6 := slb_at O5 k
         have X6 := hid (box_below X5.out k.out)
         clear k K5 S5 O5 G5 X5)
      | (refine ld26 (by rfl) _ (by rfl) _ (by rfl) t.cs G2.out hs ?_)
      | (refine ld26 (by rfl) _ (by rfl) _ (by rfl) t.cs G4.out hs ?_)
      | (refine ld26 (by rfl) _ (by rfl) _ (by rfl) t'.cs X6.out hs' ?_)
      | (refine ld26 (by rfl) _ (by rfl) _ (by rfl) t'.cs Y6.out hs' ?_)
      | (refine eqw26 (by rfl) _ _ _ (by rfl) t' t' ht'.len ht'.len (by rfl) (by rfl) true v1 ?_)
      | (go_at_call 24
         (with_reducible refine (bytes_eq _ _ _ _ _ n bs hn O6 S6 hm).mono ?_)
         rintro e u7 ⟨rfl, k⟩
         have K7 := bel_t K6 k.out
         clear k K6 S6 O6))
    go_ret
    exact ⟨rfl, K7⟩
  · have hd2 : decide ((20000 : Int) < (n : Int)) = true := by simp; omega
    have K0 : Hid (Below w.heap.size w (w.alloc (.cells t.cs 26))) := hid ((Below.refl _ w).alloc (Nat.le_refl _) _)
    go_enter Try.func4, Try.ntmps4
    go_wp2_with (first
      | (refine bx26 (by rfl) _ (by rfl) _ (by rfl) hs ?_; intro G0)
      | (go_at_call 9
         (with_reducible refine (call_alive2 _).mono ?_)
         rintro e u1 ⟨rfl, k⟩
         have K1 := bel_t K0 k.out
         clear k K0))
    go_ret
    exact ⟨rfl, K1⟩
end Go.Proofs.Ytgkcappcjlfloaa
