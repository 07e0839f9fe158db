import Derived.Test.YtjncahcigbdbgabLF
namespace Go.Proofs.Ytjncahcigbdbgab
open Go.RowKit

/-! A read of lines: the document's. -/
def readL (ls : List (List UInt8 × Bool)) (n : Int) : List UInt8 × List (List UInt8 × Bool) × Bool :=
  match ls with
  | [] => ([], [], false)
  | x :: r => if n ≤ 0 then ([], x :: r, true) else if (x.1.length : Int) ≤ n then (x.1, r, true) else (x.1.take n.toNat, (x.1.drop n.toNat, x.2) :: r, true)
/-- A call has answered bytes, lines and whether. -/
def RetRd (w : World) (p : List UInt8 × List (List UInt8 × Bool) × Bool) (e : Ending) (w' : World) : Prop := ∃ Ab nb cb A m c qs, e = .returned (.tuple #[.slice Ab nb cb, .slice A m c, .bool p.2.2]) ∧ Hid (p.1.length = nb) ∧ Hid (SlB w' w'.heap.size Ab cb p.1) ∧ Hid (lnR qs = p.2.1) ∧ Hid (qs.length = m) ∧ Hid (LnV w' w'.heap.size A c qs) ∧ Hid (Below w.heap.size w w')
theorem slb_nil (w : World) : SlB w w.heap.size none 0 [] := ⟨Nat.le_refl _, Nat.zero_le _, fun _ => rfl, Lies.nil_⟩
theorem run_tail (a : Addr) (n c : Nat) (hn : 1 ≤ n) (_hc : n ≤ c) (W : World) : (Instr.sliceAt 33 (.slice (some a) n c) (some (.int .i64 1)) none none).run Try.prog W = .ok (.slice (some (if c = 1 then a else a.add 2)) (n - 1) (c - 1)) W := by
  have hni : (1 : Int) ≤ (n : Int) := by omega
  by_cases hc1 : c = 1
  · simp [Instr.sliceAt, Instr.slice, go_sem, hni, hc1]
  · simp [Instr.sliceAt, Instr.slice, go_sem, hni, hc1]
theorem LnV.tail {w : World} {B c : Nat} {a : Addr} {r : Rc} {rs : List Rc} (h : LnV w B (some a) c (r :: rs)) : LnV w B (some (if c = 1 then a else a.add 2)) (c - 1) rs := by
  have hl := h.len
  simp only [List.length_cons] at hl
  refine ⟨by omega, by have := h.cap; omega, (fun e => by cases e), fun hne => ?_, fun q hq => h.text q (List.mem_cons_of_mem _ hq)⟩
  have hrs : 0 < rs.length := by
    rcases Nat.eq_zero_or_pos rs.length with h0 | h0
    · exact absurd (by rw [List.eq_nil_of_length_eq_zero h0]; rfl) hne
    · exact h0
  obtain ⟨b, o, ha, hb, hc⟩ := h.lies (by intro e; have := congrArg List.length e; rw [rcV_len] at this; simp at this)
  cases ha
  refine ⟨b, o + 2, ?_, hb, fun j u hu => ?_⟩
  · rw [if_neg (by omega), Addr.add_lit]
  · have e : rcV (r :: rs) = .slice r.A r.bs.length r.c :: .bool r.e :: rcV rs := rfl
    have := hc (j + 2) u (by rw [e]; exact hu)
    rwa [show o + (j + 2) = o + 2 + j by omega] at this
theorem own_addr {w : World} {base E size n c : Nat} {A : Option Addr} {xs : List Value} (h : w.ownsRow base E size (.slice A n c) n xs) (hn : 0 < n) : ∃ g cs, A = some ⟨g, 0, none⟩ ∧ base ≤ g ∧ Box w g E cs := by
  rcases h.2 with ⟨hv, h0⟩ | ⟨g, cap, cur, hv, hb, hx, _⟩
  · omega
  · injection hv with hA
    subst hA
    exact ⟨g, _, rfl, hb, hx⟩
theorem ln_set {w : World} {g c : Nat} {cs : Array Value} {q0 q1 : Rc} {qt : List Rc} {W : World} (h : LnV w w.heap.size (some ⟨g, 0, none⟩) c (q0 :: qt)) (hb : Box w g 37 cs) (he : q1.e = q0.e) (hW : W = w.setCell ⟨g, 0, none⟩ (.slice q1.A q1.bs.length q1.c)) (ht : ∀ r ∈ q1 :: qt, SlB W W.heap.size r.A r.c r.bs) : LnV W W.heap.size (some ⟨g, 0, none⟩) c (q1 :: qt) := by
  have hb2 : Box W g 37 (cs.setIfInBounds 0 (.slice q1.A q1.bs.length q1.c)) := by rw [hW]; exact hb.store 0 _
  refine ⟨h.len, h.cap, (fun e => by cases e), fun _ => ⟨g, 0, rfl, hb2.lt, fun j u hu => ?_⟩, ht⟩
  obtain ⟨b, o, ha, _, hc⟩ := h.lies (by intro e; have := congrArg List.length e; rw [rcV_len] at this; simp at this)
  cases ha
  have e0 : rcV (q0 :: qt) = .slice q0.A q0.bs.length q0.c :: .bool q0.e :: rcV qt := rfl
  have e1 : rcV (q1 :: qt) = .slice q1.A q1.bs.length q1.c :: .bool q1.e :: rcV qt := rfl
  rw [Nat.zero_add, hb2.cell j]
  cases j with
  | zero =>
    rw [e1] at hu
    have h0 := hc 0 _ (by rw [e0]; rfl)
    rw [hb.cell] at h0
    have hsz : 0 < cs.size := (Array.getElem?_eq_some_iff.1 h0).1
    simp only [List.getElem?_cons_zero, Option.some.injEq] at hu
    rw [← hu]
    simp [hsz]
  | succ j =>
    have h1 := hc (j + 1) u (by
      rw [e0]
      rw [e1] at hu
      cases j with
      | zero => simpa [he] using hu
      | succ j => simpa using hu)
    rw [Nat.zero_add, hb.cell] at h1
    rw [Array.getElem?_setIfInBounds, if_neg (by omega), h1]
/-- Bytes are copied to an empty literal; where it lies is told by a number. -/
theorem app_copy2 {ops : Array Oper} {rest : List Oper} {o : Oper} {a : Act} {Q : Exit → Act → World → Prop} (w : World) (hgd : o.guard = none) (s x : Operand) (ho : o.op = .call { callee := .builtin .append, args := #[s, x], argTypes := #[23, 23] }) (g : Nat) (hg : g = w.heap.size)
    (hs : a.eval s = .slice (some ⟨g, 0, none⟩) 0 0) (A : Option Addr) (n c : Nat) (bs : List UInt8) (hx : a.eval x = .slice A n c) (hS : Hid (SlB w w.heap.size A c bs)) (hn : bs.length = n) (hm : n ≤ 140737488355328)
    (h : ∀ A2 c2 u2, Hid (Below w.heap.size w u2) → Hid (SlB u2 u2.heap.size A2 c2 bs) → wpList Try.prog ops Q rest (a.put o.dst (.slice A2 n c2)) u2) : wpList Try.prog ops Q (o :: rest) a (w.alloc (.cells #[] 5)) := by
  subst hg
  exact app_copy w hgd s x ho hs A n c bs hx hS hn hm h
theorem back_all {w : World} {f : Value → World} {B : Nat} {A : Option Addr} {n c k : Nat} {bs : List UInt8} (hn : bs.length = n) (hk : k ≤ n) (hS : SlB w B A c bs) (hV : ∀ v, SlB (f v) (f v).heap.size A c bs) : ∃ A2 c2, (∀ W : World, (Instr.sliceAt 23 (.slice A n c) (some (.int .i64 (k : Int))) none none).run Try.prog W = .ok (.slice A2 (n - k) c2) W) ∧ Hid (∀ v, SlB (f v) (f v).heap.size A2 c2 (bs.drop k)) := by
  have hc : A = none → c = 0 := hS.2.2.1
  have hl := hS.1
  rcases A with _ | ad
  · obtain ⟨A2, c2, h1, h2⟩ := run_back hS hn hk
    obtain rfl := hc rfl
    have hb : bs = [] := by
      have : bs.length = 0 := by omega
      exact List.eq_nil_of_length_eq_zero this
    subst hb
    refine ⟨none, 0, fun W => ?_, hid (fun v => ?_)⟩
    · simp at hn
      subst hn
      obtain rfl : k = 0 := by omega
      simp [Instr.sliceAt, Instr.slice, go_sem]
    · rw [List.drop_nil]; exact hV v
  · refine ⟨some (if c = k then ad else ad.add k), c - k, fun W => ?_, hid (fun v => (hV v).drop k (by omega))⟩
    simp [Instr.sliceAt, Instr.slice, go_sem, show (k : Int) ≤ (n : Int) by omega]
    split <;> rfl
set_option maxRecDepth 100000 in
set_option maxHeartbeats 4000000 in
theorem readr_any (w : World) (A : Option Addr) (n c : Nat) (rs : List Rc) (k : Int) (hl : Hid (LnV w w.heap.size A c rs)) (hn : rs.length = n) (hm : n ≤ 1000) (ht : Hid (∀ r ∈ rs, r.bs.length ≤ 140737488351232)) :
    Calls Try.prog 14 #[.slice A n c, .int .i64 k] w (RetRd w (readL (lnR rs) k)) := by
  cases rs with
  | nil =>
    obtain rfl : n = 0 := hn.symm
    go_enter Try.func14, Try.ntmps14
    go_wp2_with (first
      | (go_at_call 24
         (with_reducible refine (copyr_any _ A 0 c [] hl rfl hm ht).mono ?_)
         rintro e u1 ⟨A1, c1, q1, rfl, hq1, N1, k1⟩))
    go_ret3
    exact ⟨none, 0, 0, A1, 0, c1, q1, rfl, hid rfl, hid (slb_nil _), hid (by rw [hq1.out]; rfl), hid N1.out.len, hid N1.out.ln, k1⟩
  | cons r0 rt =>
    have hpos : 0 < n := by rw [← hn]; simp
    have hposi : ((n : Int) == 0) = false := beq_eq_false_iff_ne.2 (by omega)
    by_cases hk : k ≤ 0
    · have hp : Hid (readL (lnR (r0 :: rt)) k = ([], lnR (r0 :: rt), true)) := hid (by show (if k ≤ 0 then _ else _) = _; rw [if_pos hk]; rfl)
      go_enter Try.func14, Try.ntmps14
      go_wp2_with (first
        | (go_at_call 24
           (with_reducible refine (copyr_any _ A n c (r0 :: rt) hl hn hm ht).mono ?_)
           rintro e u1 ⟨A1, c1, q1, rfl, hq1, N1, k1⟩))
      go_ret3
      rw [hp.out]
      exact ⟨none, 0, 0, A1, n, c1, q1, rfl, hid rfl, hid (slb_nil _), hq1, hid N1.out.len, hid N1.out.ln, k1⟩
    · have hk1 : ¬ k ≤ 0 := hk
      obtain ⟨m, rfl⟩ : ∃ m : Nat, k = m := ⟨k.toNat, by omega⟩
      obtain ⟨x, hx⟩ : ∃ x, Hid (r0.bs.length = x) := ⟨_, hid rfl⟩
      have hx5 : x ≤ 140737488351232 := by rw [← hx.out]; exact ht.out r0 List.mem_cons_self
      by_cases hxm : x ≤ m
      · have hp : Hid (readL (lnR (r0 :: rt)) (m : Int) = (r0.bs, lnR rt, true)) := hid (by show (if (m : Int) ≤ 0 then _ else if (r0.bs.length : Int) ≤ (m : Int) then _ else _) = _; rw [if_neg hk, hx.out, if_pos (by omega)]; rfl)
        have hxmi : (x : Int) ≤ (m : Int) := by omega
        go_enter Try.func14, Try.ntmps14
        go_wp2_with (first
          | (go_at_call 24
             (with_reducible refine (copyr_any _ A n c (r0 :: rt) hl hn hm ht).mono ?_)
             rintro e u1 ⟨A1, c1, q1, rfl, hq1, N1, k1⟩
             obtain ⟨q0, qt, rfl⟩ : ∃ q0 qt, q1 = q0 :: qt := by
               cases q1 with
               | nil => have := N1.out.len; simp at this; omega
               | cons a b => exact ⟨a, b, rfl⟩
             have hq0 : q0.bs = r0.bs ∧ lnR qt = lnR rt := by
               have h := hq1.out
               simp only [lnR, List.map_cons, List.cons.injEq] at h
               exact ⟨congrArg Prod.fst h.1, h.2⟩
             obtain ⟨b, o, r, hA, hr, d0, d1, hS⟩ := N1.out.ln.at (k := 0) (by simp)
             obtain rfl : q0 = r := by simpa using hr
             rw [hq0.1] at d0 hS
             rw [hx.out] at d0
             subst hA
             have hqt := hid hq0.2
             have S1 := hid hS
             have HL := hid N1.out.ln
             have hcc := N1.out.ln.len
             rw [N1.out.len] at hcc
             obtain ⟨A7, c7, rt1, HT⟩ : ∃ A7 c7, (∀ W : World, (Instr.sliceAt 33 (.slice (some ⟨b, o, none⟩) n c1) (some (.int .i64 1)) none none).run Try.prog W = .ok (.slice A7 (n - 1) c7) W) ∧ Hid (LnV u1 u1.heap.size A7 c7 qt) := ⟨_, _, run_tail ⟨b, o, none⟩ n c1 hpos hcc, hid N1.out.ln.tail⟩
             simp only [Nat.zero_mul, Nat.add_zero] at d0
             clear hq0 hr hS d1))
        go_region_held3 (fun _ => True) (trivial) (fail)
        go_wp2
        go_ret3
        rw [hp.out]
        exact ⟨_, x, _, _, n - 1, _, qt, rfl, hx, slb_up S1 (bel_dr (Below.refl _ _)), hqt, hid (by have := N1.out.len; simp at this; omega), ln_up HT (bel_dr (Below.refl _ _)), hid k1.out.drew⟩
      · have hp : Hid (readL (lnR (r0 :: rt)) (m : Int) = (r0.bs.take m, (r0.bs.drop m, r0.e) :: lnR rt, true)) := hid (by show (if (m : Int) ≤ 0 then _ else if (r0.bs.length : Int) ≤ (m : Int) then _ else _) = _; rw [if_neg hk, hx.out, if_neg (by omega)]; rfl)
        have hxmi : ¬ (x : Int) ≤ (m : Int) := by omega
        have hmx : m ≤ x := by omega
        go_enter Try.func14, Try.ntmps14
        go_wp2_with (first
          | (go_at_call 24
             (with_reducible refine (copyr_any _ A n c (r0 :: rt) hl hn hm ht).mono ?_)
             rintro e u1 ⟨A1, c1, q1, rfl, hq1, N1, k1⟩
             obtain ⟨q0, qt, rfl⟩ : ∃ q0 qt, q1 = q0 :: qt := by
               cases q1 with
               | nil => have := N1.out.len; simp at this; omega
               | cons a b => exact ⟨a, b, rfl⟩
             have hq0 : q0.bs = r0.bs ∧ q0.e = r0.e ∧ lnR qt = lnR rt := by
               have h := hq1.out
               simp only [lnR, List.map_cons, List.cons.injEq] at h
               exact ⟨congrArg Prod.fst h.1, congrArg Prod.snd h.1, h.2⟩
             obtain ⟨g, cs, rfl, hgb, hbx⟩ := own_addr N1.out.row hpos
             have d0 : u1.cell? ⟨g, 0, none⟩ = some (.slice q0.A x q0.c) := by
               obtain ⟨b, o, r, hA, hr, d0, d1, hS⟩ := N1.out.ln.at (k := 0) (by simp)
               obtain rfl : q0 = r := by simpa using hr
               cases hA
               rw [hq0.1, hx.out] at d0
               exact d0
             have f0 : u1.frozen? ⟨g, 0, none⟩ = false := hbx.frozen 0
             have kst : ∀ v, Kept w.heap.size [37] u1 (u1.setCell ⟨g, 0, none⟩ v) := fun v => (Kept.refl w.heap.size [37] u1).store hbx hgb (by decide) v
             have tx : ∀ v, ∀ r ∈ q0 :: qt, SlB (u1.setCell ⟨g, 0, none⟩ v) (u1.setCell ⟨g, 0, none⟩ v).heap.size r.A r.c r.bs := fun v r hr => own_slb (_n := 0) ((kst v).own (N1.out.text r hr) (by decide))
             have T0 := own_slb (_n := 0) (N1.out.text q0 List.mem_cons_self)
             rw [hq0.1] at T0
             have fb := run_front T0 hx.out hmx
             obtain ⟨A5, c5, rb, HS5⟩ : ∃ A5 c5, (∀ W : World, (Instr.sliceAt 23 (.slice q0.A x q0.c) (some (.int .i64 (m : Int))) none none).run Try.prog W = .ok (.slice A5 (x - m) c5) W) ∧ Hid (∀ v, SlB (u1.setCell ⟨g, 0, none⟩ v) (u1.setCell ⟨g, 0, none⟩ v).heap.size A5 c5 (r0.bs.drop m)) := back_all hx.out hmx T0 (fun v => by have h := tx v q0 List.mem_cons_self; rw [hq0.1] at h; exact h)
             have HQ := hid hq0
             have HTX := hid tx
             have HKS := hid kst
             have HBX := hid hbx
             have hzg := hbx.lt
             clear hq0 tx kst hbx T0)
          | (at_builtin
             (refine app_copy2 _ (by rfl) (.tmp 35) (.tmp 38) rfl _ ?z1 rfl q0.A m q0.c (r0.bs.take m) rfl ?z2 ?z3 (by omega) ?_)
             case z1 => simp
             case z2 => exact hid (by have h := HTX.out (.slice A5 (x - m) c5) q0 List.mem_cons_self; rw [HQ.out.1] at h; exact h.take m)
             case z3 => rw [List.length_take, hx.out]; omega
             intro A6 c6 u6 k6 S6))
        go_ret3
        rw [hp.out]
        have kW : Below w.heap.size w (u1.setCell ⟨g, 0, none⟩ (.slice A5 (x - m) c5)) := k1.out.trans ((HKS.out (.slice A5 (x - m) c5)).below k1.out.size)
        have hxd : (r0.bs.drop m).length = x - m := by rw [List.length_drop, hx.out]
        have hLN := ln_set (q1 := ⟨A5, c5, r0.bs.drop m, q0.e⟩) (W := u1.setCell ⟨g, 0, none⟩ (.slice A5 (x - m) c5)) N1.out.ln HBX.out rfl (by rw [hxd]) (fun r hr => by
          rcases List.mem_cons.1 hr with rfl | hr
          · exact HS5.out _
          · exact HTX.out _ r (List.mem_cons_of_mem _ hr))
        refine ⟨A6, m, c6, _, n, c1, ⟨A5, c5, r0.bs.drop m, q0.e⟩ :: qt, rfl, hid (by rw [List.length_take, hx.out]; omega), S6, hid ?_, hid ?_, ln_up (hid hLN) k6.out, hid (kW.trans (k6.out.mono kW.size))⟩
        · show (r0.bs.drop m, q0.e) :: lnR qt = _
          rw [HQ.out.2.1, HQ.out.2.2]
        · have := N1.out.len
          simp only [List.length_cons] at this ⊢
          exact this
end Go.Proofs.Ytjncahcigbdbgab
