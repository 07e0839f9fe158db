import Derived.Test.YtgollkckdnaegaaHB
import Derived.Lib.SliceRun
namespace Go.Proofs.Ytgollkckdnaegaa
open Go.RowKit

/-- A call has answered these bytes in memory of its own. -/
def Own (w : World) (bs : List UInt8) (e : Ending) (w' : World) : Prop := ∃ A n c, e = .returned (.slice A n c) ∧ Hid (bs.length = n) ∧ Hid (w'.ownsRow w.heap.size 5 1 (.slice A n c) n (bv bs)) ∧ Hid (Below w.heap.size w w')
theorem own_ret {w w' : World} {bs : List UInt8} {e : Ending} (h : Own w bs e w') : Ret w bs e w' := by
  obtain ⟨A, n, c, rfl, hn, ho, hb⟩ := h
  exact ret_own hn.out ho hb
/-- Bytes are copied to an empty literal: a row of the call's own. -/
theorem app_copyo {ops : Array Oper} {rest : List Oper} {o : Oper} {a : Act} {Q : Exit → Act → World → Prop} (w : World) (hgd : o.guard = none) (s x : Operand) (ho : o.op = .call { callee := .builtin .append, args := #[s, x], argTypes := #[27, 27] })
    (hs : a.eval s = .slice (some ⟨w.heap.size, 0, none⟩) 0 0) (A : Option Addr) (n c : Nat) (bs : List UInt8) (hx : a.eval x = .slice A n c) (hS : Hid (SlB w w.heap.size A c bs)) (hn : bs.length = n) (hm : n ≤ 1000000)
    (h : ∀ A2 c2 u2, Hid (Below w.heap.size w u2) → Hid (u2.ownsRow w.heap.size 5 1 (.slice A2 n c2) n (bv bs)) → wpList Try.prog ops Q rest (a.put o.dst (.slice A2 n c2)) u2) : wpList Try.prog ops Q (o :: rest) a (w.alloc (.cells #[] 5)) := by
  subst hn
  obtain ⟨i5, hi5, hz5, hz51, hz52⟩ := info_parts Try.info5
  refine wpList_app _ hgd s x 27 ho w.heap.size 5 i5 _ 1 1 Try.underlying27 hi5 hz5 hz51 hz52 rfl (by decide) _ 0 0 [] hs (lit_own (Nat.le_refl _) rfl) w.heap.size A bs.length c (bv bs) hx (by rw [bv_length, Nat.mul_one]) (hS.out.2.2.2.alloc (Nat.le_refl _) _) (bv_one _) (by unfold maxLen; omega) (by omega) (by simp) ?_
  intro A2 c2 u2 ho2 hg2
  simp only [Nat.zero_add, List.nil_append] at ho2 ⊢
  exact h A2 c2 u2 (hid (lit_grown rfl hg2)) (hid ho2)
set_option maxRecDepth 100000 in
theorem clone_any (w : World) (p : Addr) (n c : Nat) (bs : List UInt8) (hb : Hid (SlB w w.heap.size (some p) c bs)) (hn : bs.length = n) (hm : n ≤ 1000000) :
    Calls Try.prog 35 #[.slice (some p) n c] w (Own w bs) := by
  have he : ∀ w, (binOp .eql 27 (.slice (some p) n c) (.slice none 0 0)).run Try.prog w = .ok (.bool false) w := fun w => Lib.run_eql_slice_nil w 27 5 (some p) n c 0 0 Try.underlying27
  go_enter Try.func35, Try.ntmps35
  go_wp2_with (first
    | (at_builtin
       (refine app_copyo w (by rfl) (.tmp 5) (.tmp 6) rfl rfl (some p) n c bs rfl hb hn hm ?_)
       intro A2 c2 u2 K2 O2))
  go_ret
  exact ⟨_, _, _, rfl, hid hn, O2, K2⟩
set_option maxRecDepth 100000 in
theorem text_any (w : World) (p : Addr) (n c : Nat) (bs : List UInt8) (hb : Hid (SlB w w.heap.size (some p) c bs)) (hn : bs.length = n) (hm : n ≤ 1000000) :
    Calls Try.prog 24 #[.slice (some p) n c] w (Own w bs) := by
  go_enter Try.func24, Try.ntmps24
  go_wp2_with (first
    | (go_at_call 35
       (with_reducible refine (clone_any _ p n c bs hb hn hm).mono ?_)
       rintro e u1 ⟨A1, n1, c1, rfl, h1, o1, K1⟩))
  go_ret
  exact ⟨_, _, _, rfl, h1, o1, K1⟩
/-- 'text' of a literal. -/
theorem text_lit (w : World) (bs : List UInt8) (n : Nat) (cs : Array Value) (hc : (bv bs).toArray = cs) (hn : bs.length = n) (hm : n ≤ 1000000) (g : Nat) (hg : g = w.heap.size) :
    Calls Try.prog 24 #[.slice (some ⟨g, 0, none⟩) n n] (w.alloc (.cells cs 5)) (Own w bs) := by
  subst hg
  refine (text_any _ _ n n bs (hid (slb_lit w bs n cs hc hn (by unfold maxLen; omega))) hn hm).mono ?_
  rintro e w' ⟨A, m, c, rfl, h1, ho, hb⟩
  exact ⟨A, m, c, rfl, h1, hid (own_mono ho.out (by simp)), hid (((Below.refl _ w).alloc (Nat.le_refl _) _).trans (hb.out.mono (by simp)))⟩
theorem own_bel {w u : World} {bs : List UInt8} {fn : FuncId} {args : Array Value} (hb : Hid (Below w.heap.size w u)) {v : World} (h : Calls Try.prog fn args v (Own u bs)) : Calls Try.prog fn args v (Own w bs) := by
  refine h.mono ?_
  rintro e w' ⟨A, m, c, rfl, h1, ho, hb2⟩
  exact ⟨A, m, c, rfl, h1, hid (own_mono ho.out hb.out.size), bel_t hb hb2.out⟩
theorem xor_all : ∀ n : Nat, n < 256 → bits .xor .u8 (n : Int) 64 = (((UInt8.ofNat n) ^^^ 64).toNat : Int) := by decide +kernel
theorem xor_v (c : UInt8) : bits .xor .u8 (c.toNat : Int) 64 = ((c ^^^ 64).toNat : Int) := by
  have := xor_all c.toNat c.toNat_lt
  rwa [UInt8.ofNat_toNat] at this
set_option maxRecDepth 100000 in
set_option maxHeartbeats 2000000 in
theorem show_any (w : World) {t : Tm} (ht : t.Ok) (c : UInt8) {s : Bool} (hs60 : Hid (hasN t.f 60 = s)) : Calls Try.prog 10 #[.agg t.cs, .int .u8 (c.toNat : Int)] w (Own w (showB s c)) := by
  have hs := cs_size ht.len
  have K0 : Hid (Below w.heap.size w (w.alloc (.cells t.cs 26))) := hid ((Below.refl _ w).alloc (Nat.le_refl _) _)
  have hx := xor_v c
  unfold showB
  cases hb : hatB s c
  · have HB := hid hb
    clear hb
    simp only [Bool.false_eq_true, if_false]
    go_enter Try.func10, Try.ntmps10
    go_wp2_with (first
      | (refine bx26 (by rfl) _ (by rfl) _ (by rfl) hs ?_
         intro G0)
      | (refine ld26 (by rfl) _ (by rfl) _ (by rfl) t.cs G0.out hs ?_)
      | (go_at_call 23
         (with_reducible refine (hasSign_b _ ht c hs60.out HB.out).mono ?_)
         rintro e u1 ⟨rfl, k1⟩
         have K1 := bel_t K0 k1.out)
      | (go_at_call 24
         (with_reducible refine (own_bel K1 (text_lit u1 [c] 1 #[.int .u8 (c.toNat : Int)] rfl rfl (by decide) _ rfl)).mono ?_)
         rintro e u2 ⟨A2, n2, c2, rfl, h2, o2, K2⟩))
    go_ret
    exact ⟨_, _, _, rfl, h2, o2, K2⟩
  · have HB := hid hb
    clear hb
    simp only [if_true]
    go_enter Try.func10, Try.ntmps10
    go_wp2_with (first
      | (refine bx26 (by rfl) _ (by rfl) _ (by rfl) hs ?_
         intro G0)
      | (refine ld26 (by rfl) _ (by rfl) _ (by rfl) t.cs G0.out hs ?_)
      | (go_at_call 23
         (with_reducible refine (hasSign_b _ ht c hs60.out HB.out).mono ?_)
         rintro e u1 ⟨rfl, k1⟩
         have K1 := bel_t K0 k1.out)
      | (go_at_call 24
         (with_reducible refine (own_bel K1 (text_lit u1 [94, c ^^^ 64] 2 #[.int .u8 94, .int .u8 ((c.toNat ^^^ 64 : Nat) : Int)] (by simp [bv]) rfl (by decide) _ rfl)).mono ?_)
         rintro e u2 ⟨A2, n2, c2, rfl, h2, o2, K2⟩))
    go_ret
    exact ⟨_, _, _, rfl, h2, o2, K2⟩
/-! The document's. -/
set_option maxRecDepth 100000 in
set_option maxHeartbeats 2000000 in
theorem hat_b (w : World) {t : Tm} (ht : t.Ok) (c : UInt8) {s b : Bool} (hs60 : hasN t.f 60 = s) (hb : hatB s c = b) : Calls Try.prog 25 #[.agg t.cs, .int .u8 (c.toNat : Int)] w fun e w' => e = .returned (.bool b) ∧ Hid (Below w.heap.size w w') := by
  have hs := cs_size ht.len
  have K0 : Hid (Below w.heap.size w (w.alloc (.cells t.cs 26))) := hid ((Below.refl _ w).alloc (Nat.le_refl _) _)
  subst hb
  cases s
  · rw [hat_off]
    go_enter Try.func25, Try.ntmps25
    go_wp2_with (first
      | (refine bx26 (by rfl) _ (by rfl) _ (by rfl) hs ?_
         intro G0)
      | (refine ld26 (by rfl) _ (by rfl) _ (by rfl) t.cs G0.out hs ?_)
      | (go_at_call 28
         (with_reducible refine (hasr_b _ _ ht _ hs60).mono ?_)
         rintro e u1 ⟨rfl, k1⟩
         have K1 := bel_t K0 k1.out))
    go_ret
    exact ⟨rfl, K1⟩
  · by_cases h1 : c.toNat < 32
    · have d1 : (c.toNat : Int) < 32 := by omega
      by_cases h9 : c.toNat = 9
      · have e9 : (c.toNat : Int) = 9 := by omega
        have hq : hatB true c = false := by simp [hatB, h9]
        rw [hq, e9]
        clear d1 e9
        go_enter Try.func25, Try.ntmps25
        go_wp2_with (first
          | (refine bx26 (by rfl) _ (by rfl) _ (by rfl) hs ?_
             intro G0)
          | (refine ld26 (by rfl) _ (by rfl) _ (by rfl) t.cs G0.out hs ?_)
          | (go_at_call 28
             (with_reducible refine (hasr_b _ _ ht _ hs60).mono ?_)
             rintro e u1 ⟨rfl, k1⟩
             have K1 := bel_t K0 k1.out))
        go_ret
        exact ⟨rfl, K1⟩
      · by_cases h10 : c.toNat = 10
        · have e10 : (c.toNat : Int) = 10 := by omega
          have hq : hatB true c = false := by simp [hatB, h10]
          rw [hq, e10]
          clear d1 e10
          go_enter Try.func25, Try.ntmps25
          go_wp2_with (first
            | (refine bx26 (by rfl) _ (by rfl) _ (by rfl) hs ?_
               intro G0)
            | (refine ld26 (by rfl) _ (by rfl) _ (by rfl) t.cs G0.out hs ?_)
            | (go_at_call 28
               (with_reducible refine (hasr_b _ _ ht _ hs60).mono ?_)
               rintro e u1 ⟨rfl, k1⟩
               have K1 := bel_t K0 k1.out))
          go_ret
          exact ⟨rfl, K1⟩
        · have k9 : (((c.toNat : Int)) != 9) = true := bne_iff_ne.2 (by omega)
          have k10 : (((c.toNat : Int)) != 10) = true := bne_iff_ne.2 (by omega)
          have hq : hatB true c = true := by simp [hatB, h1, h9, h10]
          rw [hq]
          go_enter Try.func25, Try.ntmps25
          go_wp2_with (first
            | (refine bx26 (by rfl) _ (by rfl) _ (by rfl) hs ?_
               intro G0)
            | (refine ld26 (by rfl) _ (by rfl) _ (by rfl) t.cs G0.out hs ?_)
            | (go_at_call 28
               (with_reducible refine (hasr_b _ _ ht _ hs60).mono ?_)
               rintro e u1 ⟨rfl, k1⟩
               have K1 := bel_t K0 k1.out))
          go_ret
          exact ⟨rfl, K1⟩
    · have d1 : ¬ (c.toNat : Int) < 32 := by omega
      by_cases h7 : c.toNat = 127
      · have e7 : (c.toNat : Int) = 127 := by omega
        have hq : hatB true c = true := by simp [hatB, h7]
        rw [hq, e7]
        clear d1 e7
        go_enter Try.func25, Try.ntmps25
        go_wp2_with (first
          | (refine bx26 (by rfl) _ (by rfl) _ (by rfl) hs ?_
             intro G0)
          | (refine ld26 (by rfl) _ (by rfl) _ (by rfl) t.cs G0.out hs ?_)
          | (go_at_call 28
             (with_reducible refine (hasr_b _ _ ht _ hs60).mono ?_)
             rintro e u1 ⟨rfl, k1⟩
             have K1 := bel_t K0 k1.out))
        go_ret
        exact ⟨rfl, K1⟩
      · have k7 : (((c.toNat : Int)) == 127) = false := beq_eq_false_iff_ne.2 (by omega)
        have hq : hatB true c = false := by simp [hatB, h1, h7]
        rw [hq]
        go_enter Try.func25, Try.ntmps25
        go_wp2_with (first
          | (refine bx26 (by rfl) _ (by rfl) _ (by rfl) hs ?_
             intro G0)
          | (refine ld26 (by rfl) _ (by rfl) _ (by rfl) t.cs G0.out hs ?_)
          | (go_at_call 28
             (with_reducible refine (hasr_b _ _ ht _ hs60).mono ?_)
             rintro e u1 ⟨rfl, k1⟩
             have K1 := bel_t K0 k1.out))
        go_ret
        exact ⟨rfl, K1⟩
theorem hat_cases {c : UInt8} {s : Bool} (h : hatB s c = true) : s = true ∧ (c.toNat < 32 ∨ c.toNat = 127) := by
  simp only [hatB, Bool.and_eq_true, Bool.or_eq_true, decide_eq_true_eq] at h
  exact ⟨h.1, by omega⟩
set_option maxRecDepth 100000 in
set_option maxHeartbeats 2000000 in
theorem showr_any (w : World) {t : Tm} (ht : t.Ok) (c : UInt8) {s : Bool} (hs60 : Hid (hasN t.f 60 = s)) : Calls Try.prog 11 #[.agg t.cs, .int .u8 (c.toNat : Int)] w (Ret w (showB s c)) := by
  have hs := cs_size ht.len
  have K0 : Hid (Below w.heap.size w (w.alloc (.cells t.cs 26))) := hid ((Below.refl _ w).alloc (Nat.le_refl _) _)
  unfold showB
  cases hb : hatB s c
  · have HB := hid hb
    clear hb
    simp only [Bool.false_eq_true, if_false]
    go_enter Try.func11, Try.ntmps11
    go_wp2_with (first
      | (refine bx26 (by rfl) _ (by rfl) _ (by rfl) hs ?_
         intro G0)
      | (refine ld26 (by rfl) _ (by rfl) _ (by rfl) t.cs G0.out hs ?_)
      | (go_at_call 25
         (with_reducible refine (hat_b _ ht c hs60.out HB.out).mono ?_)
         rintro e u1 ⟨rfl, k1⟩
         have K1 := bel_t K0 k1.out))
    go_ret
    exact ret_lit (bs := [c]) rfl rfl (by decide) rfl K1
  · obtain ⟨hst, hc⟩ := hat_cases hb
    subst hst
    have hsg := sign_b c hb
    have HB := hid hb
    clear hb
    simp only [if_true]
    by_cases h7 : c.toNat = 127
    · have e7 : c = 127 := UInt8.toNat_inj.1 h7
      subst e7
      have hb7 := fun w => hat_b w ht 127 hs60.out HB.out
      rw [show ((127 : UInt8).toNat : Int) = 127 from rfl] at hb7 ⊢
      go_enter Try.func11, Try.ntmps11
      go_wp2_with (first
        | (refine bx26 (by rfl) _ (by rfl) _ (by rfl) hs ?_
           intro G0)
        | (refine ld26 (by rfl) _ (by rfl) _ (by rfl) t.cs G0.out hs ?_)
        | (go_at_call 25
           (with_reducible refine (hb7 _).mono ?_)
           rintro e u1 ⟨rfl, k1⟩
           have K1 := bel_t K0 k1.out))
      go_ret
      exact ret_lit (bs := [94, 127 ^^^ 64]) rfl rfl (by decide) rfl K1
    · have k7 : (((c.toNat : Int)) == 127) = false := beq_eq_false_iff_ne.2 (by omega)
      rw [if_neg h7] at hsg
      have hsum : (((c ^^^ 64).toNat : Nat) : Int) = (c.toNat : Int) + 64 := by omega
      have hlt : (c.toNat : Int) < 32 := by omega
      go_enter Try.func11, Try.ntmps11
      go_wp2_with (first
        | (refine bx26 (by rfl) _ (by rfl) _ (by rfl) hs ?_
           intro G0)
        | (refine ld26 (by rfl) _ (by rfl) _ (by rfl) t.cs G0.out hs ?_)
        | (go_at_call 25
           (with_reducible refine (hat_b _ ht c hs60.out HB.out).mono ?_)
           rintro e u1 ⟨rfl, k1⟩
           have K1 := bel_t K0 k1.out))
      go_ret
      exact ret_lit (bs := [94, c ^^^ 64]) (by show #[_, Value.int .u8 ((c ^^^ 64).toNat : Int)] = _; rw [hsum]; rfl) rfl (by decide) rfl K1
end Go.Proofs.Ytgollkckdnaegaa
