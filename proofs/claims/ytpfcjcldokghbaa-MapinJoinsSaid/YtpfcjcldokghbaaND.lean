import Derived.Test.YtpfcjcldokghbaaNB
import Derived.Test.YtpfcjcldokghbaaNC
namespace Go.Proofs.Ytpfcjcldokghbaa
open Go.RowKit

theorem info_parts {P : Program} {t : TypeId} {z : Value} {s b : Nat} (h : (P.info? t).map (fun i => (i.zero, i.size, i.bytes)) = some (some z, s, b)) : ∃ i, P.info? t = some i ∧ i.zero = some z ∧ i.size = s ∧ i.bytes = b := by
  cases hq : P.info? t with
  | none => simp [hq] at h
  | some i =>
    simp [hq] at h
    exact ⟨i, rfl, h.1, h.2.1, h.2.2⟩
/-- A call has answered these bytes; nothing that was there has turned. -/
def Ret (w : World) (bs : List UInt8) (e : Ending) (w' : World) : Prop := ∃ A n c, e = .returned (.slice A n c) ∧ Hid (bs.length = n) ∧ Hid (SlB w' w'.heap.size A c bs) ∧ Hid (Below w.heap.size w w')
/-- Bytes are put behind what is the call's own. -/
theorem app_own {ops : Array Oper} {rest : List Oper} {o : Oper} {a : Act} {Q : Exit → Act → World → Prop} (w : World) (hgd : o.guard = none) (s x : Operand) (ho : o.op = .call { callee := .builtin .append, args := #[s, x], argTypes := #[32, 32] })
    (base n c : Nat) (A : Option Addr) (xs : List UInt8) (hs : a.eval s = .slice A n c) (hown : Hid (w.ownsRow base 5 1 (.slice A n c) n (bv xs))) (hb : base ≤ w.heap.size) (A2 : Option Addr) (m c2 : Nat) (ys : List UInt8)
    (hx : a.eval x = .slice A2 m c2) (hS : Hid (SlB w w.heap.size A2 c2 ys)) (hy : ys.length = m) (hm : n + m ≤ 1000000)
    (h : ∀ A' c' w', Hid (w'.ownsRow base 5 1 (.slice A' (n + m) c') (n + m) (bv (xs ++ ys))) → Hid (Kept base [5] w w') → wpList Try.prog ops Q rest (a.put o.dst (.slice A' (n + m) c')) w') : wpList Try.prog ops Q (o :: rest) a w := by
  subst hy
  obtain ⟨i5, hi5, hz5, hz51, hz52⟩ := info_parts Try.info5
  refine wpList_app _ hgd s x 32 ho base 5 i5 _ 1 1 Try.underlying32 hi5 hz5 hz51 hz52 rfl (by decide) A n c (bv xs) hs hown.out w.heap.size A2 ys.length c2 (bv ys) hx (by rw [bv_length, Nat.mul_one]) hS.out.2.2.2 (bv_one _) (by unfold maxLen; omega) (by omega) hb ?_
  intro A3 c3 u2 ho2 hg2
  rw [← bv_append] at ho2
  have hk : Kept base [5] w u2 := (Kept.refl base [5] w).grown hg2 (fun k hk => by obtain ⟨a, cs, b⟩ := own_box hown.out k hk; exact ⟨a, 5, cs, by simp, b⟩)
  exact h A3 c3 u2 (hid ho2) (hid hk)
theorem turn_b (w : World) {t : Tm} (ht : t.Ok) {c x : UInt8} {ok : Bool} (h : turnB t c = (x, ok)) : Calls Try.prog 8 #[.agg t.cs, .int .u8 (c.toNat : Int)] w fun e w' => e = .returned (.tuple #[.int .u8 (x.toNat : Int), .bool ok]) ∧ Hid (Below w.heap.size w w') := by
  have := turn_any w t ht c
  rwa [h] at this
theorem turnr_b (w : World) {t : Tm} (ht : t.Ok) {c x : UInt8} {ok : Bool} (h : turnB t c = (x, ok)) : Calls Try.prog 9 #[.agg t.cs, .int .u8 (c.toNat : Int)] w fun e w' => e = .returned (.tuple #[.int .u8 (x.toNat : Int), .bool ok]) ∧ Hid (Below w.heap.size w w') := by
  have := turnr_any w t ht c
  rwa [h] at this
theorem strip_b (w : World) {t : Tm} (ht : t.Ok) {c x : UInt8} (h : stripB t c = x) : Calls Try.prog 10 #[.agg t.cs, .int .u8 (c.toNat : Int)] w fun e w' => e = .returned (.int .u8 (x.toNat : Int)) ∧ Hid (Below w.heap.size w w') := by
  subst h
  exact strip_any w t ht c
theorem stripr_b (w : World) {t : Tm} (ht : t.Ok) {c x : UInt8} (h : stripB t c = x) : Calls Try.prog 11 #[.agg t.cs, .int .u8 (c.toNat : Int)] w fun e w' => e = .returned (.int .u8 (x.toNat : Int)) ∧ Hid (Below w.heap.size w w') := by
  subst h
  exact stripr_any w t ht c
theorem ret_lit {w u : World} {bs : List UInt8} {n g : Nat} {cs : Array Value} (hc : (bv bs).toArray = cs) (hn : bs.length = n) (hm : n ≤ maxLen) (hg : g = u.heap.size) (hb : Hid (Below w.heap.size w u)) : Ret w bs (.returned (.slice (some ⟨g, 0, none⟩) n n)) (u.alloc (.cells cs 5)) := by
  subst hg
  exact ⟨_, n, n, rfl, hid hn, hid (slb_lit u bs n cs hc hn hm), hid (hb.out.alloc hb.out.size _)⟩
theorem ret_nil {w u : World} (hb : Hid (Below w.heap.size w u)) : Ret w [] (.returned (.slice none 0 0)) u := ⟨none, 0, 0, rfl, hid rfl, hid ⟨Nat.le_refl _, Nat.zero_le _, fun _ => rfl, Lies.nil_⟩, hb⟩
theorem mark_two {t : Tm} {c : UInt8} (hc : c = 255) (h1 : hasN t.f 31 = true) (h3 : hasN t.f 33 = false) : markB t c = [255, 255] := by simp [markB, hc, h1, h3]
theorem mark_one {t : Tm} {c : UInt8} (h : ¬ (c = 255 ∧ hasN t.f 31 = true ∧ hasN t.f 33 = false)) : markB t c = [c] := by simp only [markB, h, if_false]
set_option maxRecDepth 100000 in
set_option maxHeartbeats 2000000 in
theorem mark_any (w : World) (t : Tm) (ht : t.Ok) (c : UInt8) : Calls Try.prog 13 #[.agg t.cs, .int .u8 (c.toNat : Int)] w (Ret w (markB t c)) := by
  have hs := cs_size ht.len
  have K0 : Hid (Below w.heap.size w (w.alloc (.cells t.cs 26))) := hid ((Below.refl _ w).alloc (Nat.le_refl _) _)
  by_cases hc : c = 255
  · subst hc
    rw [show ((255 : UInt8).toNat : Int) = 255 from rfl]
    cases h31 : hasN t.f 31
    · rw [mark_one (t := t) (c := 255) (by simp [h31])]
      go_enter Try.func13, Try.ntmps13
      go_wp2_with (first
          | (refine bx26 (by rfl) _ (by rfl) _ (by rfl) hs ?_
             intro G0)
          | (refine ld26 (by rfl) _ (by rfl) _ (by rfl) t.cs G0.out hs ?_)
          | (go_at_call 18
             (first | (with_reducible refine (has_b _ ht h31).mono ?_) | (with_reducible refine (has_b _ ht h33).mono ?_))
             rintro e u1 ⟨rfl, k⟩
             replace G0 := hid (box_below G0.out k.out)
             replace K0 := bel_t K0 k.out
             clear k))
      go_ret
      exact ret_lit rfl rfl (by decide) (by first | rfl | simp) K0
    · cases h33 : hasN t.f 33
      · rw [mark_two rfl h31 h33]
        go_enter Try.func13, Try.ntmps13
        go_wp2_with (first
            | (refine bx26 (by rfl) _ (by rfl) _ (by rfl) hs ?_
               intro G0)
            | (refine ld26 (by rfl) _ (by rfl) _ (by rfl) t.cs G0.out hs ?_)
            | (go_at_call 18
               (first | (with_reducible refine (has_b _ ht h31).mono ?_) | (with_reducible refine (has_b _ ht h33).mono ?_))
               rintro e u1 ⟨rfl, k⟩
               replace G0 := hid (box_below G0.out k.out)
               replace K0 := bel_t K0 k.out
               clear k))
        go_ret
        exact ret_lit rfl rfl (by decide) (by first | rfl | simp) K0
      · rw [mark_one (t := t) (c := 255) (by simp [h33])]
        go_enter Try.func13, Try.ntmps13
        go_wp2_with (first
            | (refine bx26 (by rfl) _ (by rfl) _ (by rfl) hs ?_
               intro G0)
            | (refine ld26 (by rfl) _ (by rfl) _ (by rfl) t.cs G0.out hs ?_)
            | (go_at_call 18
               (first | (with_reducible refine (has_b _ ht h31).mono ?_) | (with_reducible refine (has_b _ ht h33).mono ?_))
               rintro e u1 ⟨rfl, k⟩
               replace G0 := hid (box_below G0.out k.out)
               replace K0 := bel_t K0 k.out
               clear k))
        go_ret
        exact ret_lit rfl rfl (by decide) (by first | rfl | simp) K0
  · rw [mark_one (t := t) (by simp [hc])]
    have e1 : ((c.toNat : Int) == 255) = false := u8_ne hc
    have hv : Hid ((bv [c]).toArray = #[.int .u8 (c.toNat : Int)]) := hid rfl
    generalize (c.toNat : Int) = C at e1 hv
    go_enter Try.func13, Try.ntmps13
    go_wp2_with (first
        | (refine bx26 (by rfl) _ (by rfl) _ (by rfl) hs ?_
           intro G0)
        | (refine ld26 (by rfl) _ (by rfl) _ (by rfl) t.cs G0.out hs ?_))
    go_ret
    exact ret_lit (n := 1) hv.out rfl (by decide) (by first | rfl | simp) K0
set_option maxRecDepth 100000 in
set_option maxHeartbeats 2000000 in
theorem markr_any (w : World) (t : Tm) (ht : t.Ok) (c : UInt8) : Calls Try.prog 14 #[.agg t.cs, .int .u8 (c.toNat : Int)] w (Ret w (markB t c)) := by
  have hs := cs_size ht.len
  have K0 : Hid (Below w.heap.size w (w.alloc (.cells t.cs 26))) := hid ((Below.refl _ w).alloc (Nat.le_refl _) _)
  by_cases hc : c = 255
  · subst hc
    rw [show ((255 : UInt8).toNat : Int) = 255 from rfl]
    cases h31 : hasN t.f 31
    · rw [mark_one (t := t) (c := 255) (by simp [h31])]
      go_enter Try.func14, Try.ntmps14
      go_wp2_with (first
          | (refine bx26 (by rfl) _ (by rfl) _ (by rfl) hs ?_
             intro G0)
          | (refine ld26 (by rfl) _ (by rfl) _ (by rfl) t.cs G0.out hs ?_)
          | (go_at_call 20
             (first | (with_reducible refine (hasr_b _ _ ht _ h31).mono ?_) | (with_reducible refine (hasr_b _ _ ht _ h33).mono ?_))
             rintro e u1 ⟨rfl, k⟩
             replace G0 := hid (box_below G0.out k.out)
             replace K0 := bel_t K0 k.out
             clear k))
      go_ret
      exact ret_lit rfl rfl (by decide) (by first | rfl | simp) K0
    · cases h33 : hasN t.f 33
      · rw [mark_two rfl h31 h33]
        go_enter Try.func14, Try.ntmps14
        go_wp2_with (first
            | (refine bx26 (by rfl) _ (by rfl) _ (by rfl) hs ?_
               intro G0)
            | (refine ld26 (by rfl) _ (by rfl) _ (by rfl) t.cs G0.out hs ?_)
            | (go_at_call 20
               (first | (with_reducible refine (hasr_b _ _ ht _ h31).mono ?_) | (with_reducible refine (hasr_b _ _ ht _ h33).mono ?_))
               rintro e u1 ⟨rfl, k⟩
               replace G0 := hid (box_below G0.out k.out)
               replace K0 := bel_t K0 k.out
               clear k))
        go_ret
        exact ret_lit rfl rfl (by decide) (by first | rfl | simp) K0
      · rw [mark_one (t := t) (c := 255) (by simp [h33])]
        go_enter Try.func14, Try.ntmps14
        go_wp2_with (first
            | (refine bx26 (by rfl) _ (by rfl) _ (by rfl) hs ?_
               intro G0)
            | (refine ld26 (by rfl) _ (by rfl) _ (by rfl) t.cs G0.out hs ?_)
            | (go_at_call 20
               (first | (with_reducible refine (hasr_b _ _ ht _ h31).mono ?_) | (with_reducible refine (hasr_b _ _ ht _ h33).mono ?_))
               rintro e u1 ⟨rfl, k⟩
               replace G0 := hid (box_below G0.out k.out)
               replace K0 := bel_t K0 k.out
               clear k))
        go_ret
        exact ret_lit rfl rfl (by decide) (by first | rfl | simp) K0
  · rw [mark_one (t := t) (by simp [hc])]
    have e1 : ((c.toNat : Int) == 255) = false := u8_ne hc
    have hv : Hid ((bv [c]).toArray = #[.int .u8 (c.toNat : Int)]) := hid rfl
    generalize (c.toNat : Int) = C at e1 hv
    go_enter Try.func14, Try.ntmps14
    go_wp2_with (first
        | (refine bx26 (by rfl) _ (by rfl) _ (by rfl) hs ?_
           intro G0)
        | (refine ld26 (by rfl) _ (by rfl) _ (by rfl) t.cs G0.out hs ?_))
    go_ret
    exact ret_lit (n := 1) hv.out rfl (by decide) (by first | rfl | simp) K0
set_option maxRecDepth 100000 in
theorem stripped_any (w : World) (t : Tm) (ht : t.Ok) (c : UInt8) : Calls Try.prog 22 #[.agg t.cs, .int .u8 (c.toNat : Int)] w (Ret w (stripL t c)) := by
  have hs := cs_size ht.len
  have K0 : Hid (Below w.heap.size w (w.alloc (.cells t.cs 26))) := hid ((Below.refl _ w).alloc (Nat.le_refl _) _)
  unfold stripL
  obtain ⟨d, hd⟩ : ∃ d, stripB t c = d := ⟨_, rfl⟩
  rw [hd]
  have hv : Hid ((bv [d]).toArray = #[.int .u8 (d.toNat : Int)]) := hid rfl
  go_enter Try.func22, Try.ntmps22
  go_wp2_with (first
      | (refine bx26 (by rfl) _ (by rfl) _ (by rfl) hs ?_
         intro G0)
      | (refine ld26 (by rfl) _ (by rfl) _ (by rfl) t.cs G0.out hs ?_)
      | (go_at_call 10
         (with_reducible refine (strip_b _ ht hd).mono ?_)
         rintro e u1 ⟨rfl, k⟩
         replace K0 := bel_t K0 k.out
         clear k))
  go_ret
  exact ret_lit (n := 1) hv.out rfl (by decide) (by first | rfl | simp) K0
set_option maxRecDepth 100000 in
theorem turned_any (w : World) (t : Tm) (ht : t.Ok) (c : UInt8) : Calls Try.prog 23 #[.agg t.cs, .int .u8 (c.toNat : Int)] w (Ret w (turnL t c)) := by
  have hs := cs_size ht.len
  have K0 : Hid (Below w.heap.size w (w.alloc (.cells t.cs 26))) := hid ((Below.refl _ w).alloc (Nat.le_refl _) _)
  unfold turnL
  obtain ⟨⟨d, ok⟩, hd⟩ : ∃ z, turnB t c = z := ⟨_, rfl⟩
  rw [hd]
  have hv : Hid ((bv [d]).toArray = #[.int .u8 (d.toNat : Int)]) := hid rfl
  cases ok
  · rw [if_neg (by simp)]
    go_enter Try.func23, Try.ntmps23
    go_wp2_with (first
        | (refine bx26 (by rfl) _ (by rfl) _ (by rfl) hs ?_
           intro G0)
        | (refine ld26 (by rfl) _ (by rfl) _ (by rfl) t.cs G0.out hs ?_)
        | (go_at_call 8
           (with_reducible refine (turn_b _ ht hd).mono ?_)
           rintro e u1 ⟨rfl, k⟩
           replace K0 := bel_t K0 k.out
           clear k))
    go_ret
    exact ret_nil K0
  · rw [if_pos rfl]
    go_enter Try.func23, Try.ntmps23
    go_wp2_with (first
        | (refine bx26 (by rfl) _ (by rfl) _ (by rfl) hs ?_
           intro G0)
        | (refine ld26 (by rfl) _ (by rfl) _ (by rfl) t.cs G0.out hs ?_)
        | (go_at_call 8
           (with_reducible refine (turn_b _ ht hd).mono ?_)
           rintro e u1 ⟨rfl, k⟩
           replace K0 := bel_t K0 k.out
           clear k))
    go_ret
    exact ret_lit (n := 1) hv.out rfl (by decide) (by first | rfl | simp) K0
end Go.Proofs.Ytpfcjcldokghbaa
