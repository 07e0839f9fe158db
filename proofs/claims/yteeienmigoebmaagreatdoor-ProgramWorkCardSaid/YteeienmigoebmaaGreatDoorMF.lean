import Derived.Test.YteeienmigoebmaaGreatDoorME
namespace Go.Proofs.YteeienmigoebmaaGreatDoor
open Go.RowKit

set_option maxRecDepth 100000 in
set_option maxHeartbeats 1000000 in
/-- Is it a flag, as the document asks. -/
theorem flagr_any (w : World) (op : Int) : Calls Tryz.prog 71 #[.int .i64 op] w fun e w' => e = .returned (.bool (flagB op)) ∧ w' = w := by
  rcases (by omega : op < 30 ∨ (30 ≤ op ∧ op ≤ 42) ∨ (43 ≤ op ∧ op < 50) ∨ (50 ≤ op ∧ op ≤ 62) ∨ (63 ≤ op ∧ op < 70) ∨ (70 ≤ op ∧ op ≤ 75) ∨ (76 ≤ op ∧ op < 90) ∨ (90 ≤ op ∧ op ≤ 93) ∨ 94 ≤ op) with h | h | h | h | h | h | h | h | h
  all_goals
    have a1 : decide (30 ≤ op) = true ∨ decide (30 ≤ op) = false := by cases decide (30 ≤ op) <;> simp
    have a2 : decide (op ≤ 42) = true ∨ decide (op ≤ 42) = false := by cases decide (op ≤ 42) <;> simp
    have a3 : decide (50 ≤ op) = true ∨ decide (50 ≤ op) = false := by cases decide (50 ≤ op) <;> simp
    have a4 : decide (op ≤ 62) = true ∨ decide (op ≤ 62) = false := by cases decide (op ≤ 62) <;> simp
    have a5 : decide (70 ≤ op) = true ∨ decide (70 ≤ op) = false := by cases decide (70 ≤ op) <;> simp
    have a6 : decide (op ≤ 75) = true ∨ decide (op ≤ 75) = false := by cases decide (op ≤ 75) <;> simp
    have a7 : decide (90 ≤ op) = true ∨ decide (90 ≤ op) = false := by cases decide (90 ≤ op) <;> simp
    have a8 : decide (op ≤ 93) = true ∨ decide (op ≤ 93) = false := by cases decide (op ≤ 93) <;> simp
    have hf : Hid (flagB op = flagB op) := hid rfl
    rcases a1 with a1 | a1 <;> (first | (exfalso; simp at a1; omega) | skip)
    all_goals (rcases a2 with a2 | a2 <;> (first | (exfalso; simp at a2; omega) | skip))
    all_goals (rcases a3 with a3 | a3 <;> (first | (exfalso; simp at a3; omega) | skip))
    all_goals (rcases a4 with a4 | a4 <;> (first | (exfalso; simp at a4; omega) | skip))
    all_goals (rcases a5 with a5 | a5 <;> (first | (exfalso; simp at a5; omega) | skip))
    all_goals (rcases a6 with a6 | a6 <;> (first | (exfalso; simp at a6; omega) | skip))
    all_goals (rcases a7 with a7 | a7 <;> (first | (exfalso; simp at a7; omega) | skip))
    all_goals (rcases a8 with a8 | a8 <;> (first | (exfalso; simp at a8; omega) | skip))
    go_enter Tryz.func71, Tryz.ntmps71
    go_wp2
    go_ret
    simp [flagB, a1, a2, a3, a4, a5, a6, a7, a8]
theorem q30 {u0 : World} {z : Gr u0} {op : Int} {b : Bool} (hg : flagB op = b) : Calls Tryz.prog 71 #[.int .i64 op] (grw z) fun e w'' => e = .returned (.bool b) ∧ ∃ z' : Gr u0, w'' = grw z' := by
  subst hg
  exact gr_call0 (flagr_any (grw z) op)
theorem two_mul {k : Nat} (h : k < 63) : IntKind.u64.wrap (2 * ((2 ^ k : Nat) : Int)) = ((2 ^ (k + 1) : Nat) : Int) := by
  have h1 := pow_lt (show k + 1 < 64 by omega)
  have e : 2 ^ (k + 1) = 2 * 2 ^ k := by rw [Nat.pow_succ]; omega
  rw [IntKind.wrap_u64]
  generalize 2 ^ k = z at e
  generalize 2 ^ (k + 1) = y at e h1 ⊢
  omega
theorem div_bits {f : Nat} (hf : f < 18446744073709551616) {op : Int} (_h : flagB op = true) : (((IntKind.u64.wrap ((f : Int) / bitV op)).tmod 2 == 1) : Bool) = f.testBit (kb op) := by
  unfold bitV
  have h2 := has_div f (kb op)
  generalize 2 ^ kb op = z at h2 ⊢
  have e : ((f : Int) / (z : Int)) = ((f / z : Nat) : Int) := by simp
  have hle : f / z ≤ f := Nat.div_le_self _ _
  rw [e]
  generalize f / z = q at h2 hle ⊢
  rw [IntKind.wrap_u64, Int.emod_eq_of_lt (by omega) (by omega), Int.tmod_eq_emod_of_nonneg (by omega)]
  cases hb : f.testBit (kb op)
  · have : q % 2 ≠ 1 := fun e => by rw [h2.1 e] at hb; cases hb
    simp
    omega
  · have := h2.2 hb
    simp
    omega
/-- The setting's variable with other flags. -/
theorem box_f {w : World} {g : Nat} {t : Tm} (ht : t.c.length = 19) (h : Box w g 132 t.cs) (n : Nat) : Box (w.setCell ⟨g, 19, none⟩ (.int .u64 (n : Int))) g 132 ({ t with f := n } : Tm).cs := by
  have h1 := h.store 19 (.int .u64 (n : Int))
  rwa [cs_setf ht] at h1
def setT (t : Tm) (op : Int) (on : Bool) : Tm := { t with f := setN t.f op on }
theorem setT_ok {t : Tm} (h : t.Ok) (op : Int) (on : Bool) : (setT t op on).Ok := ⟨h.len, setN_lt h.f op on, h.i, h.o, h.m, h.s⟩
theorem setT_no {t : Tm} {op : Int} {on : Bool} (hg : flagB op = false) : setT t op on = t := by simp [setT, setN_no hg]
theorem results26 {fn : Func} {p : Tmp} (h : fn.results = #[.cell p 132]) (tmps : Array Value) (w : World) (g : Nat) (t : Tm) (ht : t.c.length = 19)
    (hp : tmps.getD p undef = .pointer (some ⟨g, 0, none⟩)) (hb : Box w g 132 t.cs) : (results fn tmps).run Tryz.prog w = .ok (.agg t.cs) w :=
  results_cell_row h tmps w g 132 t.cs (0, 0) _ hp hb Tryz.underlying132 rfl (by rw [cs_size ht]; exact Tryz.size26)
theorem or_bit {f : Nat} (hf : f < 18446744073709551616) {op : Int} (h : flagB op = true) : bits .or .u64 (f : Int) (bitV op) = ((setN f op true : Nat) : Int) := by
  unfold bitV
  rw [u64_or_nat _ _ hf (pow_lt (kb_lt h))]
  simp [setN, h]
theorem not_bit {f : Nat} (hf : f < 18446744073709551616) {op : Int} (h : flagB op = true) : bits .andNot .u64 (f : Int) (bitV op) = ((setN f op false : Nat) : Int) := by
  unfold bitV
  rw [u64_andNot_nat _ _ hf (pow_lt (kb_lt h))]
  simp [setN, h, top]
theorem zero_cs : Tm.zero.cs = #[.int .u8 0, .int .u8 0, .int .u8 0, .int .u8 0, .int .u8 0, .int .u8 0, .int .u8 0, .int .u8 0, .int .u8 0, .int .u8 0, .int .u8 0, .int .u8 0, .int .u8 0, .int .u8 0, .int .u8 0, .int .u8 0, .int .u8 0, .int .u8 0, .int .u8 0, .int .u64 0, .int .u32 0, .int .u32 0, .int .i64 0, .int .i64 0] := rfl
theorem isFlag_b (w : World) {op : Int} {b : Bool} (hg : flagB op = b) : Calls Tryz.prog 96 #[.int .i64 op] w fun e W' => e = .returned (.bool b) ∧ Hid (Below w.heap.size w W') := by
  subst hg
  exact isFlag_any w op
/-- Two settings' variables, made one behind the other. -/
structure Pair (w u : World) (g r : Nat) (t v : Tm) : Prop where
  bel : Below w.heap.size w u
  gw : w.heap.size ≤ g
  rw : w.heap.size ≤ r
  ne : g ≠ r
  boxT : Box u g 132 t.cs
  boxR : Box u r 132 v.cs
theorem Pair.grow {w u u' : World} {g r : Nat} {t v : Tm} (h : Pair w u g r t v) (k : Below u.heap.size u u') : Pair w u' g r t v :=
  ⟨h.bel.trans (k.mono h.bel.size), h.gw, h.rw, h.ne, box_below h.boxT k, box_below h.boxR k⟩
theorem Pair.turnT {w u u' : World} {g r : Nat} {t t' v : Tm} (h : Pair w u g r t v) (k : Turn g u u') (hb : Box u' g 132 t'.cs) : Pair w u' g r t' v :=
  ⟨h.bel.trans (k.below h.gw), h.gw, h.rw, h.ne, hb, k.box h.boxR h.ne.symm⟩
theorem Pair.turnR {w u u' : World} {g r : Nat} {t v v' : Tm} (h : Pair w u g r t v) (k : Turn r u u') (hb : Box u' r 132 v'.cs) : Pair w u' g r t v' :=
  ⟨h.bel.trans (k.below h.rw), h.gw, h.rw, h.ne, k.box h.boxT h.ne, hb⟩
theorem Pair.drew {w u : World} {g r : Nat} {t v : Tm} (h : Pair w u g r t v) : Pair w u.drew g r t v := ⟨⟨h.bel.os, h.bel.tape, h.bel.output, h.bel.size, h.bel.block⟩, h.gw, h.rw, h.ne, h.boxT, h.boxR⟩
theorem Pair.new (w : World) (t : Tm) : Pair w ((w.alloc (.cells t.cs 132)).alloc (.cells #[.int .u8 0, .int .u8 0, .int .u8 0, .int .u8 0, .int .u8 0, .int .u8 0, .int .u8 0, .int .u8 0, .int .u8 0, .int .u8 0, .int .u8 0, .int .u8 0, .int .u8 0, .int .u8 0, .int .u8 0, .int .u8 0, .int .u8 0, .int .u8 0, .int .u8 0, .int .u64 0, .int .u32 0, .int .u32 0, .int .i64 0, .int .i64 0] 132)) w.heap.size (w.heap.size + 1) t Tm.zero :=
  ⟨((Below.refl _ w).alloc (Nat.le_refl _) _).alloc (by simp) _, Nat.le_refl _, by omega, by omega, box_below (Box.new w 132 t.cs) ((Below.refl _ _).alloc (Nat.le_refl _) _), by
    have := Box.new (w.alloc (.cells t.cs 132)) 132 Tm.zero.cs
    rwa [World.size_alloc] at this⟩
theorem Pair.c19 {w u : World} {g r : Nat} {t v : Tm} (h : Pair w u g r t v) (ht : t.c.length = 19) : u.cell? ⟨g, 19, none⟩ = some (.int .u64 (t.f : Int)) := (h.boxT.cell 19).trans (cs_f ht)
theorem Pair.setF {w u : World} {g r : Nat} {t v : Tm} (h : Pair w u g r t v) (ht : t.c.length = 19) (n : Nat) : Pair w (u.setCell ⟨g, 19, none⟩ (.int .u64 (n : Int))) g r { t with f := n } v :=
  h.turnT (Turn.setCell u g 19 _) (box_f ht h.boxT n)
set_option maxRecDepth 100000 in
set_option maxHeartbeats 2000000 in
theorem set_any (w : World) (t : Tm) (ht : t.Ok) (op : Int) (on : Bool) : Calls Tryz.prog 85 #[.agg t.cs, .int .i64 op, .bool on] w fun e w' => e = .returned (.agg (setT t op on).cs) ∧ Hid (Below w.heap.size w w') := by
  have hs := cs_size ht.len
  have hl := ht.len
  have H0 := hid (Pair.new w t)
  have hz : Hid (Tm.zero.cs.size = 24) := hid (cs_size rfl)
  cases hg : flagB op
  · have he : Hid (setT t op on = t) := hid (setT_no hg)
    go_enter Tryz.func85, Tryz.ntmps85
    go_wp2_with (first
      | (refine bx26 (by rfl) _ (by rfl) _ (by rfl) hs ?_
         intro _)
      | (go_at_call 96
         (with_reducible refine (isFlag_b _ hg).mono ?_)
         rintro e u1 ⟨rfl, K1⟩
         have H1 := hid (H0.out.grow K1.out)
         clear H0 K1)
      | (refine ld26 (by rfl) _ (by rfl) _ (by rfl) t.cs H1.out.boxT hs ?_)
      | (refine st26 (by rfl) _ _ (by rfl) _ (by rfl) t hl (by rfl) _ H1.out.boxR hz.out ?_
         intro u2 hb2 ht2
         have H2 := hid (H1.out.turnR ht2.out hb2.out)))
    refine bodyPost_ret (results26 rfl _ _ _ t hl rfl H2.out.boxR) rfl ?_
    exact ⟨by rw [he.out], hid H2.out.bel⟩
  · have hl2 : (setT t op on).c.length = 19 := hl
    cases on
    · have ho := not_bit ht.f hg
      go_enter Tryz.func85, Tryz.ntmps85
      go_wp2_with (first
        | (refine bx26 (by rfl) _ (by rfl) _ (by rfl) hs ?_
           intro _)
        | (go_at_call 96
           (with_reducible refine (isFlag_b _ hg).mono ?_)
           rintro e u1 ⟨rfl, K1⟩
           have H1 := hid (H0.out.grow K1.out)
           clear H0 K1
           have c19 := H1.out.c19 hl
           have f19 := H1.out.boxT.frozen 19))
      have H2 : Hid (Pair w (u1.setCell ⟨w.heap.size, 19, none⟩ (.int .u64 ((setN t.f op false : Nat) : Int))).drew w.heap.size (w.heap.size + 1) (setT t op false) Tm.zero) := hid (H1.out.setF hl _).drew
      go_region_law (first | (go_simp; go_at_call 97; (with_reducible refine (bit_any _ op hg).mono ?_); rintro e u2 ⟨rfl, rfl⟩))
      all_goals
        generalize (World.setCell _ _ _).drew = u3 at H2 ⊢
        go_wp2_with (first
          | (refine ld26 (by rfl) _ (by rfl) _ (by rfl) (setT t op false).cs H2.out.boxT (cs_size hl2) ?_)
          | (refine st26 (by rfl) _ _ (by rfl) _ (by rfl) (setT t op false) hl2 (by rfl) _ H2.out.boxR hz.out ?_
             intro u4 hb4 ht4
             have H4 := hid (H2.out.turnR ht4.out hb4.out)))
        refine bodyPost_ret (results26 rfl _ _ _ (setT t op false) hl2 rfl H4.out.boxR) rfl ?_
        exact ⟨rfl, hid H4.out.bel⟩
    · have ho := or_bit ht.f hg
      go_enter Tryz.func85, Tryz.ntmps85
      go_wp2_with (first
        | (refine bx26 (by rfl) _ (by rfl) _ (by rfl) hs ?_
           intro _)
        | (go_at_call 96
           (with_reducible refine (isFlag_b _ hg).mono ?_)
           rintro e u1 ⟨rfl, K1⟩
           have H1 := hid (H0.out.grow K1.out)
           clear H0 K1
           have c19 := H1.out.c19 hl
           have f19 := H1.out.boxT.frozen 19))
      have H2 : Hid (Pair w (u1.setCell ⟨w.heap.size, 19, none⟩ (.int .u64 ((setN t.f op true : Nat) : Int))).drew w.heap.size (w.heap.size + 1) (setT t op true) Tm.zero) := hid (H1.out.setF hl _).drew
      go_region_law (first | (go_simp; go_at_call 97; (with_reducible refine (bit_any _ op hg).mono ?_); rintro e u2 ⟨rfl, rfl⟩))
      all_goals
        generalize (World.setCell _ _ _).drew = u3 at H2 ⊢
        go_wp2_with (first
          | (refine ld26 (by rfl) _ (by rfl) _ (by rfl) (setT t op true).cs H2.out.boxT (cs_size hl2) ?_)
          | (refine st26 (by rfl) _ _ (by rfl) _ (by rfl) (setT t op true) hl2 (by rfl) _ H2.out.boxR hz.out ?_
             intro u4 hb4 ht4
             have H4 := hid (H2.out.turnR ht4.out hb4.out)))
        refine bodyPost_ret (results26 rfl _ _ _ (setT t op true) hl2 rfl H4.out.boxR) rfl ?_
        exact ⟨rfl, hid H4.out.bel⟩
end Go.Proofs.YteeienmigoebmaaGreatDoor
