import Derived.Test.YtgollkckdnaegaaHE
import Derived.BigQuiet
import Derived.Deep.QuietTactic
namespace Go.Proofs.Ytgollkckdnaegaa
open Go.RowKit

@[simp] theorem isP_v (g : Nat) : isP (.pointer (some ⟨g, 0, none⟩)) = true := rfl
@[simp] theorem blkV_v (g : Nat) : blkV (.pointer (some ⟨g, 0, none⟩)) = g := rfl
@[simp] theorem aggV_v (cs : Array Value) : aggV (.agg cs) = cs := rfl
section
variable {dst : Option Tmp} {x y : Operand} {ty r : TypeId} {pos : String} {after : Array Edge} {gd : Option (Nat × Bool)} {a : Act}
theorem quiet_val {P : Program} {u0 : World} {o : Oper} {K : Act → Prop} (v : Value) (h : ∀ z : Gr u0, (execOp a.eval o).run P (grw z) = .ok (.value v) (grw z)) :
    Oper.quiet P o a (fun w' => ∃ z : Gr u0, w' = grw z) K = K (a.put o.dst v) := by
  apply propext
  unfold Oper.quiet Oper.quietAt
  constructor
  · rintro ⟨v', h1, h2⟩
    have h3 := h1 (grw (⟨u0, Below.refl _ _⟩ : Gr u0)) ⟨_, rfl⟩
    rw [h] at h3
    obtain ⟨_, rfl⟩ := h3
    exact h2
  · intro hk
    refine ⟨v, ?_, hk⟩
    rintro w ⟨z, rfl⟩
    rw [h z]
    exact ⟨rfl, rfl⟩
theorem wq_ld26 {u0 : World} {K : Act → Prop} (h1 : isP (a.eval x) = true) (h2 : isB u0 (blkV (a.eval x)) = true) :
    Oper.quiet Try.prog { dst, op := .load 26 x, type := ty, pos, after, guard := gd } a (fun w' => ∃ z : Gr u0, w' = grw z) K = K (a.put dst (.agg (cs26 u0 (blkV (a.eval x))))) := by
  obtain ⟨hb, hs⟩ := isB_box h2
  have hx := isP_eq h1
  refine quiet_val _ fun z => ?_
  generalize blkV (a.eval x) = g at *
  unfold execOp
  simp only [hx, Instr.loadAt, Instr.sureAddr, Sem.run_bind, Sem.run_pure, Result.andThen_ok, run_loadVar_row (P := Try.prog) (grw z) g 26 26 _ (0, 0) _ (gr_box z hb) Try.underlying26 rfl (by rw [hs]; exact Try.size26)]
end
theorem q27 {u0 : World} {z : Gr u0} {col : Int} : Calls Try.prog 27 #[.int .i64 col] (grw z) fun e w'' => e = .returned (.int .i64 (nrm col : Int)) ∧ ∃ z' : Gr u0, w'' = grw z' := gr_call0 (inside_any _ col)
theorem q26 {u0 : World} {z : Gr u0} {t : Tm} (ht : t.Ok) {N : Nat} (hN : N ≤ 1000000000) {c : UInt8} {s v : Bool} (hs60 : Hid (hasN t.f 60 = s)) (hs42 : Hid (hasN t.f 42 = v)) {M : Nat} (hM : Hid (stepN s v N c = M)) :
    Calls Try.prog 26 #[.agg t.cs, .int .i64 (N : Int), .int .u8 (c.toNat : Int)] (grw z) fun e w'' => e = .returned (.int .i64 (M : Int)) ∧ ∃ z' : Gr u0, w'' = grw z' := by
  rw [← hM.out]
  exact gr_call (behind_any _ ht N hN c hs60.out hs42.out)
attribute [local go_sem ↓] wq_ld26
attribute [local go_sem] isP_v blkV_v aggV_v
set_option maxRecDepth 100000 in
set_option maxHeartbeats 2000000 in
theorem step_any (w : World) {t : Tm} (ht : t.Ok) (col : Int) (c : UInt8) {s v : Bool} (hs60 : Hid (hasN t.f 60 = s)) (hs42 : Hid (hasN t.f 42 = v)) :
    Calls Try.prog 15 #[.agg t.cs, .int .i64 col, .int .u8 (c.toNat : Int)] w fun e w' => e = .returned (.int .i64 ((stepN s v (nrm col) c : Nat) : Int)) ∧ Hid (Below w.heap.size w w') := by
  have hs := cs_size ht.len
  have K0 := old26 w t
  have hN := nrm_le col
  obtain ⟨M, hM⟩ : ∃ M, Hid (stepN s v (nrm col) c = M) := ⟨_, hid rfl⟩
  rw [hM.out]
  obtain ⟨N, hq⟩ : ∃ N, Hid (nrm col = N) := ⟨_, hid rfl⟩
  rw [hq.out] at hM hN
  have q2 := fun (z : Gr (w.alloc (.cells t.cs 26))) => (show Calls Try.prog 27 #[.int .i64 col] (grw z) fun e w'' => e = .returned (.int .i64 (N : Int)) ∧ ∃ z' : Gr (w.alloc (.cells t.cs 26)), w'' = grw z' from by rw [← hq.out]; exact q27)
  have hN2 : N ≤ 1000000000 := by omega
  go_enter Try.func15, Try.ntmps15
  go_wp2_with (first
    | (refine bx26 (by rfl) _ (by rfl) _ (by rfl) hs ?_
       intro G0))
  obtain ⟨q1, q3⟩ := box_isB G0.out ht.len
  refine wp_region_grown (by kernel_rfl) (by kernel_rfl) ?_
  repeat (go_big_quiet_step (first | (go_at_call 27; with_reducible exact q2 _) | (go_at_call 26; with_reducible exact q26 ht hN2 hs60 hs42 hM)))
  refine wpQuiet_nil ?_
  intro z
  have HK1 := bel_t K0 z.b
  go_wp2
  go_ret
  exact ⟨rfl, HK1⟩
set_option maxRecDepth 100000 in
set_option maxHeartbeats 4000000 in
/-- The document's, from a column on that counts. -/
theorem stepr_nat (w : World) {t : Tm} (ht : t.Ok) (N : Nat) (hN : N ≤ 65535) (c : UInt8) {s v : Bool} (hs60 : hasN t.f 60 = s) (hs42 : hasN t.f 42 = v) :
    Calls Try.prog 16 #[.agg t.cs, .int .i64 (N : Int), .int .u8 (c.toNat : Int)] w fun e w' => e = .returned (.int .i64 ((stepN s v N c : Nat) : Int)) ∧ Hid (Below w.heap.size w w') := by
  have hs := cs_size ht.len
  have K0 := old26 w t
  have n1 : ¬ ((N : Int) < 0) := by omega
  have n2 : ¬ (65535 < (N : Int)) := by omega
  by_cases h9 : c.toNat = 9
  · have e9 : (c.toNat : Int) = 9 := by omega
    rw [stepN_9 h9, e9]
    go_enter Try.func16, Try.ntmps16
    go_wp2_with (first
      | (refine bx26 (by rfl) _ (by rfl) _ (by rfl) hs ?_
         intro G0))
    go_ret
    exact ⟨ret_i64 (by omega), K0⟩
  · have k9 : (((c.toNat : Int)) == 9) = false := beq_eq_false_iff_ne.2 (by omega)
    cases hh : hatB s c
    · cases hc : ctlB c
      · have hcn := ctl_no hc
        have d1 : ¬ (c.toNat : Int) < 32 := by omega
        have d2 : (((c.toNat : Int)) == 127) = false := beq_eq_false_iff_ne.2 (by omega)
        have HH := hid hh
        clear hh hcn
        cases v
        · have hq := hid (stepN_one (e := s) (u := false) (N := N) hc (Bool.false_and _))
          rw [hq.out]
          clear hc
          go_enter Try.func16, Try.ntmps16
          go_wp2_with (first
            | (refine bx26 (by rfl) _ (by rfl) _ (by rfl) hs ?_
               intro G0)
            | (refine ld26 (by rfl) _ (by rfl) _ (by rfl) t.cs G0.out hs ?_)
            | (refine ld26 (by rfl) _ (by rfl) _ (by rfl) t.cs G1.out hs ?_)
            | (go_at_call 25
               (with_reducible refine (hat_b _ ht c hs60 HH.out).mono ?_)
               rintro e u1 ⟨rfl, k1⟩
               have K1 := bel_t K0 k1.out
               have G1 := hid (box_below G0.out k1.out)
               clear G0)
            | (go_at_call 28
               (with_reducible refine (hasr_b _ _ ht _ hs42).mono ?_)
               rintro e u4 ⟨rfl, k4⟩
               have K4 := bel_t K1 k4.out))
          go_ret
          exact ⟨ret_i64 (by omega), K4⟩
        · by_cases h8 : 128 ≤ c.toNat
          · have e8 : (128 : Int) ≤ (c.toNat : Int) := by omega
            by_cases hb : c.toNat ≤ 191
            · have eb : (c.toNat : Int) ≤ 191 := by omega
              have hq := hid (stepN_cont (e := s) (N := N) hc (by simp [contB, h8, hb]))
              rw [hq.out]
              clear hc
              go_enter Try.func16, Try.ntmps16
              go_wp2_with (first
                | (refine bx26 (by rfl) _ (by rfl) _ (by rfl) hs ?_
                   intro G0)
                | (refine ld26 (by rfl) _ (by rfl) _ (by rfl) t.cs G0.out hs ?_)
                | (refine ld26 (by rfl) _ (by rfl) _ (by rfl) t.cs G1.out hs ?_)
                | (go_at_call 25
                   (with_reducible refine (hat_b _ ht c hs60 HH.out).mono ?_)
                   rintro e u1 ⟨rfl, k1⟩
                   have K1 := bel_t K0 k1.out
                   have G1 := hid (box_below G0.out k1.out)
                   clear G0)
                | (go_at_call 28
                   (with_reducible refine (hasr_b _ _ ht _ hs42).mono ?_)
                   rintro e u4 ⟨rfl, k4⟩
                   have K4 := bel_t K1 k4.out))
              go_ret
              exact ⟨rfl, K4⟩
            · have eb : ¬ (c.toNat : Int) ≤ 191 := by omega
              have hq := hid (stepN_one (e := s) (u := true) (N := N) hc (by simp [contB, hb]))
              rw [hq.out]
              clear hc
              go_enter Try.func16, Try.ntmps16
              go_wp2_with (first
                | (refine bx26 (by rfl) _ (by rfl) _ (by rfl) hs ?_
                   intro G0)
                | (refine ld26 (by rfl) _ (by rfl) _ (by rfl) t.cs G0.out hs ?_)
                | (refine ld26 (by rfl) _ (by rfl) _ (by rfl) t.cs G1.out hs ?_)
                | (go_at_call 25
                   (with_reducible refine (hat_b _ ht c hs60 HH.out).mono ?_)
                   rintro e u1 ⟨rfl, k1⟩
                   have K1 := bel_t K0 k1.out
                   have G1 := hid (box_below G0.out k1.out)
                   clear G0)
                | (go_at_call 28
                   (with_reducible refine (hasr_b _ _ ht _ hs42).mono ?_)
                   rintro e u4 ⟨rfl, k4⟩
                   have K4 := bel_t K1 k4.out))
              go_ret
              exact ⟨ret_i64 (by omega), K4⟩
          · have e8 : ¬ (128 : Int) ≤ (c.toNat : Int) := by omega
            have hq := hid (stepN_one (e := s) (u := true) (N := N) hc (by simp [contB, h8]))
            rw [hq.out]
            clear hc
            go_enter Try.func16, Try.ntmps16
            go_wp2_with (first
              | (refine bx26 (by rfl) _ (by rfl) _ (by rfl) hs ?_
                 intro G0)
              | (refine ld26 (by rfl) _ (by rfl) _ (by rfl) t.cs G0.out hs ?_)
              | (refine ld26 (by rfl) _ (by rfl) _ (by rfl) t.cs G1.out hs ?_)
              | (go_at_call 25
                 (with_reducible refine (hat_b _ ht c hs60 HH.out).mono ?_)
                 rintro e u1 ⟨rfl, k1⟩
                 have K1 := bel_t K0 k1.out
                 have G1 := hid (box_below G0.out k1.out)
                 clear G0)
              | (go_at_call 28
                 (with_reducible refine (hasr_b _ _ ht _ hs42).mono ?_)
                 rintro e u4 ⟨rfl, k4⟩
                 have K4 := bel_t K1 k4.out))
            go_ret
            exact ⟨ret_i64 (by omega), K4⟩
      · have hq := hid (stepN_ctl (e := s) (u := v) (N := N) h9 hh hc)
        have HH := hid hh
        have hcc : c.toNat < 32 ∨ c.toNat = 127 := by
          simp only [ctlB, Bool.or_eq_true, decide_eq_true_eq] at hc
          exact hc
        clear hc hh
        rw [hq.out]
        by_cases h3 : c.toNat < 32
        · have d1 : (c.toNat : Int) < 32 := by omega
          clear hcc
          go_enter Try.func16, Try.ntmps16
          go_wp2_with (first
            | (refine bx26 (by rfl) _ (by rfl) _ (by rfl) hs ?_
               intro G0)
            | (refine ld26 (by rfl) _ (by rfl) _ (by rfl) t.cs G0.out hs ?_)
            | (refine ld26 (by rfl) _ (by rfl) _ (by rfl) t.cs G1.out hs ?_)
            | (go_at_call 25
               (with_reducible refine (hat_b _ ht c hs60 HH.out).mono ?_)
               rintro e u1 ⟨rfl, k1⟩
               have K1 := bel_t K0 k1.out
               have G1 := hid (box_below G0.out k1.out)
               clear G0)
            | (go_at_call 28
               (with_reducible refine (hasr_b _ _ ht _ hs42).mono ?_)
               rintro e u4 ⟨rfl, k4⟩
               have K4 := bel_t K1 k4.out))
          go_ret
          exact ⟨rfl, K1⟩
        · have e7 : c.toNat = 127 := by omega
          have hb7 := fun w => hat_b w ht c hs60 HH.out
          have e7i : (c.toNat : Int) = 127 := by omega
          rw [e7i] at hb7 ⊢
          clear hcc e7i k9
          go_enter Try.func16, Try.ntmps16
          go_wp2_with (first
            | (refine bx26 (by rfl) _ (by rfl) _ (by rfl) hs ?_
               intro G0)
            | (refine ld26 (by rfl) _ (by rfl) _ (by rfl) t.cs G0.out hs ?_)
            | (refine ld26 (by rfl) _ (by rfl) _ (by rfl) t.cs G1.out hs ?_)
            | (go_at_call 25
               (with_reducible refine (hb7 _).mono ?_)
               rintro e u1 ⟨rfl, k1⟩
               have K1 := bel_t K0 k1.out
               have G1 := hid (box_below G0.out k1.out)
               clear G0)
            | (go_at_call 28
               (with_reducible refine (hasr_b _ _ ht _ hs42).mono ?_)
               rintro e u4 ⟨rfl, k4⟩
               have K4 := bel_t K1 k4.out))
          go_ret
          exact ⟨rfl, K1⟩
    · have hq := hid (stepN_hat (e := s) (u := v) (N := N) h9 hh)
      have HH := hid hh
      clear hh
      rw [hq.out]
      go_enter Try.func16, Try.ntmps16
      go_wp2_with (first
        | (refine bx26 (by rfl) _ (by rfl) _ (by rfl) hs ?_
           intro G0)
        | (refine ld26 (by rfl) _ (by rfl) _ (by rfl) t.cs G0.out hs ?_)
        | (refine ld26 (by rfl) _ (by rfl) _ (by rfl) t.cs G1.out hs ?_)
        | (go_at_call 25
           (with_reducible refine (hat_b _ ht c hs60 HH.out).mono ?_)
           rintro e u1 ⟨rfl, k1⟩
           have K1 := bel_t K0 k1.out
           have G1 := hid (box_below G0.out k1.out)
           clear G0)
        | (go_at_call 28
           (with_reducible refine (hasr_b _ _ ht _ hs42).mono ?_)
           rintro e u4 ⟨rfl, k4⟩
           have K4 := bel_t K1 k4.out))
      go_ret
      exact ⟨ret_i64 (by omega), K1⟩
end Go.Proofs.Ytgollkckdnaegaa
