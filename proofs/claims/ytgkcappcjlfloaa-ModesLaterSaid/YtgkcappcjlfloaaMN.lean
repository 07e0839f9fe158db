import Derived.Test.YtgkcappcjlfloaaMM
namespace Go.Proofs.Ytgkcappcjlfloaa
open Go.RowKit

theorem ofNat_v {n : Nat} (h : ¬ 255 < n) : ((UInt8.ofNat n).toNat : Int) = (n : Int) := by
  simp
  omega
theorem with_a {t : Tm} {op n : Nat} (h1 : op ≤ 18) (h2 : 255 < n) : wT t op n = Tm.zero ∧ wE t op n = 5 := by simp [wT, wE, stepT, h1, h2]
theorem with_b {t : Tm} {op n : Nat} (h1 : op ≤ 18) (h2 : ¬ 255 < n) : wT t op n = { t with c := t.c.set op (UInt8.ofNat n) } ∧ wE t op n = 0 := by simp [wT, wE, stepT, h1, h2]
theorem with_c {t : Tm} {n : Nat} : wT t 128 n = { t with i := n } ∧ wE t 128 n = 0 := by simp [wT, wE, stepT]
theorem with_d {t : Tm} {n : Nat} : wT t 129 n = { t with o := n } ∧ wE t 129 n = 0 := by simp [wT, wE, stepT]
theorem with_e {t : Tm} {op n : Nat} (h1 : ¬ op ≤ 18) (h2 : ¬ op = 128) (h3 : ¬ op = 129) : wT t op n = setT t op (decide (n ≠ 0)) ∧ wE t op n = 0 := by simp [wT, wE, stepT, h1, h2, h3]
theorem set_b (w : World) (t : Tm) (ht : t.Ok) (op : Int) {on b : Bool} (hb : on = b) : Calls Try.prog 14 #[.agg t.cs, .int .i64 op, .bool on] w fun e w' => e = .returned (.agg (setT t op b).cs) ∧ Hid (Below w.heap.size w w') := by
  subst hb
  exact set_any w t ht op on
theorem setr_b (w : World) (t : Tm) (ht : t.Ok) (op : Int) {on b : Bool} (hb : on = b) : Calls Try.prog 15 #[.agg t.cs, .int .i64 op, .bool on] w fun e w' => e = .returned (.agg (setT t op b).cs) ∧ Hid (Below w.heap.size w w') := by
  subst hb
  exact setr_any w t ht op on
theorem ne0_v (n : Nat) : ((((n : Int) != 0)) : Bool) = decide (n ≠ 0) := by
  by_cases h : n = 0
  · subst h; rfl
  · have : ¬ (n : Int) = 0 := by omega
    simp [h]
set_option maxRecDepth 100000 in
set_option maxHeartbeats 4000000 in
theorem with_any (w : World) (t : Tm) (ht : t.Ok) (op n : Nat) (h1 : 1 ≤ op) (h2 : op < 256) (hn : n < 4294967296) :
    Calls Try.prog 35 #[.agg t.cs, .int .i64 (op : Int), .int .u32 (n : Int)] w fun e w' => e = .returned (.tuple #[.agg (wT t op n).cs, .int .i64 (wE t op n)]) ∧ Hid (Below w.heap.size w w') := by
  have hs := cs_size ht.len
  have hl := ht.len
  have H0 := hid (Pair.new w t)
  have hz : Hid (Tm.zero.cs.size = 24) := hid (cs_size rfl)
  have hwl : Hid ((wT t op n).c.length = 19) := hid (wT_ok ht op n hn).len
  by_cases h18 : op ≤ 18
  · have hc : charB (op : Int) = true := by simp [charB]; omega
    by_cases hb : 255 < n
    · have he := hid (with_a (t := t) h18 hb)
      have k1 : (255 : Int) < (n : Int) := by omega
      go_enter Try.func35, Try.ntmps35
      go_wp2_with (first
        | (refine bx26 (by rfl) _ (by rfl) _ (by rfl) hs ?_
           intro _)
        | (go_at_call 27
           (with_reducible refine (isChar_b _ hc).mono ?_)
           rintro e u1 ⟨rfl, rfl⟩)
        | (refine wpList_build_at rfl 26 _ rfl Tm.zero.cs ?hc ?_
           case hc => kernel_rfl)
        | (refine st26 (by rfl) _ _ (by rfl) _ (by rfl) Tm.zero rfl (by rfl) _ H0.out.boxR hz.out ?_
           intro u2 hb2 ht2
           have H2 := hid (H0.out.turnR ht2.out hb2.out)))
      refine bodyPost_ret (results26_2 rfl _ _ _ Tm.zero rfl rfl (.int .i64 5) rfl H2.out.boxR) rfl ?_
      exact ⟨by rw [he.out.1, he.out.2], hid H2.out.bel⟩
    · have he := hid (with_b (t := t) h18 hb)
      have k1 : ¬ (255 : Int) < (n : Int) := by omega
      have hl2 : ({ t with c := t.c.set op (UInt8.ofNat n) } : Tm).c.length = 19 := by simp [hl]
      have ck := (H0.out.boxT.cell op).trans (cs_char2 hl op (by omega))
      have fk := H0.out.boxT.frozen op
      have H1 : Hid (Pair w (World.setCell _ ⟨w.heap.size, op, none⟩ (.int .u8 (n : Int))) w.heap.size (w.heap.size + 1) { t with c := t.c.set op (UInt8.ofNat n) } Tm.zero) := hid (by
        have := H0.out.turnT (Turn.setCell _ w.heap.size op (.int .u8 ((UInt8.ofNat n).toNat : Int))) (box_c hl H0.out.boxT op (by omega) (UInt8.ofNat n))
        rwa [ofNat_v hb] at this)
      have k2 : (0 : Int) ≤ (op : Int) ∧ (op : Int) < 19 := by omega
      go_enter Try.func35, Try.ntmps35
      go_wp2_with (first
        | (refine bx26 (by rfl) _ (by rfl) _ (by rfl) hs ?_
           intro _)
        | (go_at_call 27
           (with_reducible refine (isChar_b _ hc).mono ?_)
           rintro e u1 ⟨rfl, rfl⟩
           generalize World.alloc (World.alloc w _) _ = u0 at H0 ck fk H1 ⊢)
        | (refine ld26 (by rfl) _ (by rfl) _ (by rfl) ({ t with c := t.c.set op (UInt8.ofNat n) } : Tm).cs H1.out.boxT (cs_size hl2) ?_)
        | (refine st26 (by rfl) _ _ (by rfl) _ (by rfl) { t with c := t.c.set op (UInt8.ofNat n) } hl2 (by rfl) _ H1.out.boxR hz.out ?_
           intro u2 hb2 ht2
           have H2 := hid (H1.out.turnR ht2.out hb2.out)))
      refine bodyPost_ret (results26_2 rfl _ _ _ { t with c := t.c.set op (UInt8.ofNat n) } hl2 rfl (.int .i64 0) rfl H2.out.boxR) rfl ?_
      exact ⟨by rw [he.out.1, he.out.2], hid H2.out.bel⟩
  · have hc : charB (op : Int) = false := by simp [charB]; omega
    rcases (by omega : op = 128 ∨ op = 129 ∨ (op ≠ 128 ∧ op ≠ 129)) with h | h | h
    · subst h
      have he := hid (with_c (t := t) (n := n))
      have hc : charB 128 = false := by decide
      have ck := (H0.out.boxT.cell 20).trans (cs_i hl)
      have fk := H0.out.boxT.frozen 20
      have hl2 : ({ t with i := n } : Tm).c.length = 19 := hl
      have H1 : Hid (Pair w (World.setCell _ ⟨w.heap.size, 20, none⟩ (.int .u32 (n : Int))) w.heap.size (w.heap.size + 1) { t with i := n } Tm.zero) := hid (H0.out.turnT (Turn.setCell _ w.heap.size 20 _) (box_i hl H0.out.boxT n))
      clear h18 h1 h2 hwl
      go_enter Try.func35, Try.ntmps35
      go_wp2_with (first
        | (refine bx26 (by rfl) _ (by rfl) _ (by rfl) hs ?_
           intro _)
        | (go_at_call 27
           (with_reducible refine (isChar_b _ hc).mono ?_)
           rintro e u1 ⟨rfl, rfl⟩
           generalize World.alloc (World.alloc w _) _ = u0 at H0 ck fk H1 ⊢)
        | (refine ld26 (by rfl) _ (by rfl) _ (by rfl) ({ t with i := n } : Tm).cs H1.out.boxT (cs_size hl2) ?_)
        | (refine st26 (by rfl) _ _ (by rfl) _ (by rfl) { t with i := n } hl2 (by rfl) _ H1.out.boxR hz.out ?_
           intro u2 hb2 ht2
           have H2 := hid (H1.out.turnR ht2.out hb2.out)))
      refine bodyPost_ret (results26_2 rfl _ _ _ { t with i := n } hl2 rfl (.int .i64 0) rfl H2.out.boxR) rfl ?_
      exact ⟨by rw [he.out.1, he.out.2], hid H2.out.bel⟩
    · subst h
      have he := hid (with_d (t := t) (n := n))
      have hc : charB 129 = false := by decide
      have ck := (H0.out.boxT.cell 21).trans (cs_o hl)
      have fk := H0.out.boxT.frozen 21
      have hl2 : ({ t with o := n } : Tm).c.length = 19 := hl
      have H1 : Hid (Pair w (World.setCell _ ⟨w.heap.size, 21, none⟩ (.int .u32 (n : Int))) w.heap.size (w.heap.size + 1) { t with o := n } Tm.zero) := hid (H0.out.turnT (Turn.setCell _ w.heap.size 21 _) (box_o hl H0.out.boxT n))
      clear h18 h1 h2 hwl
      go_enter Try.func35, Try.ntmps35
      go_wp2_with (first
        | (refine bx26 (by rfl) _ (by rfl) _ (by rfl) hs ?_
           intro _)
        | (go_at_call 27
           (with_reducible refine (isChar_b _ hc).mono ?_)
           rintro e u1 ⟨rfl, rfl⟩
           generalize World.alloc (World.alloc w _) _ = u0 at H0 ck fk H1 ⊢)
        | (refine ld26 (by rfl) _ (by rfl) _ (by rfl) ({ t with o := n } : Tm).cs H1.out.boxT (cs_size hl2) ?_)
        | (refine st26 (by rfl) _ _ (by rfl) _ (by rfl) { t with o := n } hl2 (by rfl) _ H1.out.boxR hz.out ?_
           intro u2 hb2 ht2
           have H2 := hid (H1.out.turnR ht2.out hb2.out)))
      refine bodyPost_ret (results26_2 rfl _ _ _ { t with o := n } hl2 rfl (.int .i64 0) rfl H2.out.boxR) rfl ?_
      exact ⟨by rw [he.out.1, he.out.2], hid H2.out.bel⟩
    · have he := hid (with_e (t := t) (n := n) h18 h.1 h.2)
      have k1 : (((op : Int) == 128) : Bool) = false := by simp; omega
      have k2 : (((op : Int) == 129) : Bool) = false := by simp; omega
      have k3 := ne0_v n
      have hl2 : (setT t op (decide (n ≠ 0))).c.length = 19 := hl
      clear h18 h h1 h2 hwl
      generalize decide (n ≠ 0) = on at he k3 hl2
      go_enter Try.func35, Try.ntmps35
      go_wp2_with (first
        | (refine bx26 (by rfl) _ (by rfl) _ (by rfl) hs ?_
           intro _)
        | (go_at_call 27
           (with_reducible refine (isChar_b _ hc).mono ?_)
           rintro e u1 ⟨rfl, rfl⟩)
        | (refine ld26 (by rfl) _ (by rfl) _ (by rfl) t.cs H0.out.boxT hs ?_)
        | (go_at_call 14
           (with_reducible refine (set_any _ t ht op on).mono ?_)
           rintro e u1 ⟨rfl, K1⟩
           have H1 := hid (H0.out.grow K1.out)
           clear H0 K1)
        | (refine st26 (by rfl) _ _ (by rfl) _ (by rfl) (setT t op on) hl2 (by rfl) _ H1.out.boxT hs ?_
           intro u2 hb2 ht2
           have H2 := hid (H1.out.turnT ht2.out hb2.out)
           clear H1)
        | (refine ld26 (by rfl) _ (by rfl) _ (by rfl) (setT t op on).cs H2.out.boxT (cs_size hl2) ?_)
        | (refine st26 (by rfl) _ _ (by rfl) _ (by rfl) (setT t op on) hl2 (by rfl) _ H2.out.boxR hz.out ?_
           intro u3 hb3 ht3
           have H3 := hid (H2.out.turnR ht3.out hb3.out)))
      refine bodyPost_ret (results26_2 rfl _ _ _ (setT t op on) hl2 rfl (.int .i64 0) rfl H3.out.boxR) rfl ?_
      exact ⟨by rw [he.out.1, he.out.2], hid H3.out.bel⟩
end Go.Proofs.Ytgkcappcjlfloaa
