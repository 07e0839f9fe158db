import Derived.Test.YtggcampdkgfmgaaGreatTB
namespace Go.Proofs.YtggcampdkgfmgaaGreat
open Go.RowKit

/-! Layer 17: sizes. -/
def Sz.cs (z : Sz) : Array Value := #[.int .u32 (z.a : Int), .int .u32 (z.b : Int), .int .u32 (z.c : Int), .int .u32 (z.e : Int)]
theorem Tryz.fieldsSz : (Tryz.prog.fieldsOf 90).toList.map (fun f => (decide (f.name ≠ "_"), f.type, f.offset)) = [(true, 24, 0), (true, 24, 1), (true, 24, 2), (true, 24, 3)] := by kernel_rfl
theorem Tryz.fieldsEv : (Tryz.prog.fieldsOf 120).toList.map (fun f => (decide (f.name ≠ "_"), f.type, f.offset)) = [(true, 3, 0), (true, 3, 1)] := by kernel_rfl
theorem run_eqZ (w : World) (d : Nat) (z u : Sz) : (Op.equalIn (d + 1 + 1) 90 (.agg z.cs) (.agg u.cs)).run Tryz.prog w = .ok (decide (z = u)) w := by
  have hst : Tryz.prog.stoodInHeld 90 = false := by kernel_rfl
  have hfo : Tryz.prog.underlying 90 = some (.struct (Tryz.prog.fieldsOf 90)) := by simp [Program.fieldsOf, Tryz.underlying90]
  rw [run_equalIn_struct w (d + 1) 90 _ _ hfo hst, fields_eq (d + 1) _ _ _ [⟨"a", 24, 0, false, "", "", 0⟩, ⟨"a", 24, 1, false, "", "", 0⟩, ⟨"a", 24, 2, false, "", "", 0⟩, ⟨"a", 24, 3, false, "", "", 0⟩] (by rw [Tryz.fieldsSz]; rfl)]
  have nm : ("a" : String) ≠ "_" := by decide
  have a0 := run_part_cell w 24 .u32 z.cs 0 _ Tryz.underlying24 rfl
  have b0 := run_part_cell w 24 .u32 u.cs 0 _ Tryz.underlying24 rfl
  have a1 := run_part_cell w 24 .u32 z.cs 1 _ Tryz.underlying24 rfl
  have b1 := run_part_cell w 24 .u32 u.cs 1 _ Tryz.underlying24 rfl
  have a2 := run_part_cell w 24 .u32 z.cs 2 _ Tryz.underlying24 rfl
  have b2 := run_part_cell w 24 .u32 u.cs 2 _ Tryz.underlying24 rfl
  have a3 := run_part_cell w 24 .u32 z.cs 3 _ Tryz.underlying24 rfl
  have b3 := run_part_cell w 24 .u32 u.cs 3 _ Tryz.underlying24 rfl
  have e0 := run_equalIn_int (P := Tryz.prog) w d 24 .u32 .u32 (z.a : Int) u.a Tryz.underlying24
  have e1 := run_equalIn_int (P := Tryz.prog) w d 24 .u32 .u32 (z.b : Int) u.b Tryz.underlying24
  have e2 := run_equalIn_int (P := Tryz.prog) w d 24 .u32 .u32 (z.c : Int) u.c Tryz.underlying24
  have e3 := run_equalIn_int (P := Tryz.prog) w d 24 .u32 .u32 (z.e : Int) u.e Tryz.underlying24
  have hh := step_field (f := ⟨"a", 24, 0, false, "", "", 0⟩) nm a0 b0 e0 (step_field (f := ⟨"a", 24, 1, false, "", "", 0⟩) nm a1 b1 e1 (step_field (f := ⟨"a", 24, 2, false, "", "", 0⟩) nm a2 b2 e2 (step_field (f := ⟨"a", 24, 3, false, "", "", 0⟩) nm a3 b3 e3 no_fields)))
  rw [hh, beq_nat, beq_nat, beq_nat, beq_nat]
  have e : decide (z = u) = (decide (z.a = u.a) && (decide (z.b = u.b) && (decide (z.c = u.c) && (decide (z.e = u.e) && true)))) := by
    cases z; cases u
    simp [and_assoc]
  rw [e]
theorem run_eqlZ (w : World) (z u : Sz) : (binOp .eql 90 (.agg z.cs) (.agg u.cs)).run Tryz.prog w = .ok (.bool (decide (z = u))) w := by
  rw [run_eql_struct, show (10000 : Nat) = 9998 + 1 + 1 from rfl]
  generalize 9998 = d
  rw [run_eqZ w d z u]
  rfl
theorem run_neqZ (w : World) (z u : Sz) : (binOp .neq 90 (.agg z.cs) (.agg u.cs)).run Tryz.prog w = .ok (.bool (!decide (z = u))) w := by
  rw [run_neq_struct, show (10000 : Nat) = 9998 + 1 + 1 from rfl]
  generalize 9998 = d
  rw [run_eqZ w d z u]
  rfl
theorem run_eqE (w : World) (d : Nat) (a b x y : Int) : (Op.equalIn (d + 1 + 1) 120 (.agg #[.int .i64 a, .int .i64 b]) (.agg #[.int .i64 x, .int .i64 y])).run Tryz.prog w = .ok (decide (a = x) && decide (b = y)) w := by
  have hst : Tryz.prog.stoodInHeld 120 = false := by kernel_rfl
  have hfo : Tryz.prog.underlying 120 = some (.struct (Tryz.prog.fieldsOf 120)) := by simp [Program.fieldsOf, Tryz.underlying120]
  rw [run_equalIn_struct w (d + 1) 120 _ _ hfo hst, fields_eq (d + 1) _ _ _ [⟨"a", 3, 0, false, "", "", 0⟩, ⟨"a", 3, 1, false, "", "", 0⟩] (by rw [Tryz.fieldsEv]; rfl)]
  have nm : ("a" : String) ≠ "_" := by decide
  have a0 := run_part_cell w 3 .i64 #[.int .i64 a, .int .i64 b] 0 _ Tryz.underlying3 rfl
  have b0 := run_part_cell w 3 .i64 #[.int .i64 x, .int .i64 y] 0 _ Tryz.underlying3 rfl
  have a1 := run_part_cell w 3 .i64 #[.int .i64 a, .int .i64 b] 1 _ Tryz.underlying3 rfl
  have b1 := run_part_cell w 3 .i64 #[.int .i64 x, .int .i64 y] 1 _ Tryz.underlying3 rfl
  have e0 := run_equalIn_int (P := Tryz.prog) w d 3 .i64 .i64 a x Tryz.underlying3
  have e1 := run_equalIn_int (P := Tryz.prog) w d 3 .i64 .i64 b y Tryz.underlying3
  have hh := step_field (f := ⟨"a", 3, 0, false, "", "", 0⟩) nm a0 b0 e0 (step_field (f := ⟨"a", 3, 1, false, "", "", 0⟩) nm a1 b1 e1 no_fields)
  have h4 : ∀ x y : Int, (x == y) = decide (x = y) := fun x y => rfl
  rw [hh, h4, h4, Bool.and_true]
theorem run_eqlE (w : World) (a b x y : Int) : (binOp .eql 120 (.agg #[.int .i64 a, .int .i64 b]) (.agg #[.int .i64 x, .int .i64 y])).run Tryz.prog w = .ok (.bool (decide (a = x) && decide (b = y))) w := by
  rw [run_eql_struct, show (10000 : Nat) = 9998 + 1 + 1 from rfl]
  generalize 9998 = d
  rw [run_eqE w d]
  rfl
theorem run_neqE (w : World) (a b x y : Int) : (binOp .neq 120 (.agg #[.int .i64 a, .int .i64 b]) (.agg #[.int .i64 x, .int .i64 y])).run Tryz.prog w = .ok (.bool (!(decide (a = x) && decide (b = y)))) w := by
  rw [run_neq_struct, show (10000 : Nat) = 9998 + 1 + 1 from rfl]
  generalize 9998 = d
  rw [run_eqE w d]
  rfl
/-- Events have been answered, a terminal is left. -/
def RetPe (w0 : World) (g p : Nat) (S0 : Nat → Prop) (r : Ps × List (Int × Int)) (e : Ending) (w' : World) : Prop := ∃ A n c S', e = .returned (.slice A n c) ∧ Hid (r.2.length = n) ∧ Hid (Lies w' w'.heap.size A (evV r.2)) ∧ Hid (Py w0 g p S0 w' S' r.1) ∧ Hid (r.2 ≠ [] → ∀ a, A = some a → w0.heap.size ≤ a.block ∧ ¬ GS g S' a.block)
theorem ev_fresh {w0 u w' : World} {g p : Nat} {S0 S : Nat → Prop} {P : Ps} {T : TypeId} {A : Option Addr} {n c : Nat} {xs : List Value} (H : Hid (Py w0 g p S0 u S P)) (O : Hid (w'.ownsRow u.heap.size T 2 (.slice A n c) n xs)) : ∀ a, A = some a → w0.heap.size ≤ a.block ∧ ¬ GS g S a.block := fun a ha => by
  subst ha
  have h1 := (O.out.lt a.block rfl).1
  have h2 := H.out.but.size
  have h3 := H.out.at_.lt
  refine ⟨by omega, ?_⟩
  rintro (h | h)
  · have := H.out.at_.at_.top _ h; omega
  · omega
def sizeP (P : Ps) (z : Sz) : Ps × List (Int × Int) := if z = P.z then (P, []) else ({ P with z := z }, evs P.gp [28])
section
variable {w0 w : World} {g p : Nat} {S0 S : Nat → Prop} {P : Ps}
theorem Py.size4 (H : Hid (Py w0 g p S0 w S P)) (z : Sz) : Hid (Py w0 g p S0 ((((w.setCell ⟨g, 1, none⟩ (.int .u32 (z.a : Int))).setCell ⟨g, 2, none⟩ (.int .u32 (z.b : Int))).setCell ⟨g, 3, none⟩ (.int .u32 (z.c : Int))).setCell ⟨g, 4, none⟩ (.int .u32 (z.e : Int))) S { P with z := z }) :=
  Py.store (P' := { P with z := z }) (Py.store (P' := { P with z := ⟨z.a, z.b, z.c, P.z.e⟩ }) (Py.store (P' := { P with z := ⟨z.a, z.b, P.z.c, P.z.e⟩ }) (Py.store (P' := { P with z := ⟨z.a, P.z.b, P.z.c, P.z.e⟩ }) H 1 _ rfl rfl) 2 _ rfl rfl) 3 _ rfl rfl) 4 _ rfl rfl
set_option maxRecDepth 100000 in
set_option maxHeartbeats 4000000 in
theorem size_any (H : Hid (Py w0 g p S0 w S P)) (z : Sz) {r : Ps × List (Int × Int)} (hr : Hid (sizeP P z = r)) : Calls Tryz.prog 49 #[.pointer (some ⟨g, 0, none⟩), .agg z.cs] w (RetPe w0 g p S0 r) := by
  have q0 : ∀ W : World, (binOp .eql 90 (.agg z.cs) (.agg P.z.cs)).run Tryz.prog W = .ok (.bool (decide (z = P.z))) W := fun W => run_eqlZ W z P.z
  obtain ⟨⟨xa, xb, xc, xe⟩, hx⟩ : ∃ x, Hid (P.z = x) := ⟨_, hid rfl⟩
  obtain ⟨za, zb, zc, ze⟩ := z
  rw [hx.out] at q0
  obtain ⟨bq, hbq⟩ : ∃ x, Hid (decide ((⟨za, zb, zc, ze⟩ : Sz) = ⟨xa, xb, xc, xe⟩) = x) := ⟨_, hid rfl⟩
  rw [hbq.out] at q0
  simp only [Sz.cs] at q0
  have bz : ∀ W, Below w.heap.size w W → W.cell? ⟨g, 1, none⟩ = some (.int .u32 (xa : Int)) ∧ W.cell? ⟨g, 2, none⟩ = some (.int .u32 (xb : Int)) ∧ W.cell? ⟨g, 3, none⟩ = some (.int .u32 (xc : Int)) ∧ W.cell? ⟨g, 4, none⟩ = some (.int .u32 (xe : Int)) := fun W k =>
    ⟨Py.cellW H 1 (by unfold psC; rw [hx.out]; rfl) W k, Py.cellW H 2 (by unfold psC; rw [hx.out]; rfl) W k, Py.cellW H 3 (by unfold psC; rw [hx.out]; rfl) W k, Py.cellW H 4 (by unfold psC; rw [hx.out]; rfl) W k⟩
  obtain ⟨w1, hw1⟩ : ∃ w1, w1 = w.alloc (.cells #[.int .u32 (za : Int), .int .u32 (zb : Int), .int .u32 (zc : Int), .int .u32 (ze : Int)] 90) := ⟨_, rfl⟩
  have K1 : Below w.heap.size w w1 := by rw [hw1]; exact (Below.refl _ w).alloc (Nat.le_refl _) _
  have X1 : Box w1 w.heap.size 90 #[.int .u32 (za : Int), .int .u32 (zb : Int), .int .u32 (zc : Int), .int .u32 (ze : Int)] := by rw [hw1]; exact Box.new w _ _
  have X1 := hid X1
  have H1 := Py.bel H K1
  have cz : ∀ W, Below w1.heap.size w1 W → W.cell? ⟨g, 1, none⟩ = some (.int .u32 (xa : Int)) ∧ W.cell? ⟨g, 2, none⟩ = some (.int .u32 (xb : Int)) ∧ W.cell? ⟨g, 3, none⟩ = some (.int .u32 (xc : Int)) ∧ W.cell? ⟨g, 4, none⟩ = some (.int .u32 (xe : Int)) ∧ W.cell? ⟨w.heap.size, 0, none⟩ = some (.int .u32 (za : Int)) ∧ W.cell? ⟨w.heap.size, 1, none⟩ = some (.int .u32 (zb : Int)) ∧ W.cell? ⟨w.heap.size, 2, none⟩ = some (.int .u32 (zc : Int)) ∧ W.cell? ⟨w.heap.size, 3, none⟩ = some (.int .u32 (ze : Int)) := fun W k => by
    obtain ⟨h1, h2, h3, h4⟩ := bz W (K1.trans (k.mono K1.size))
    have h5 := box_below X1.out k
    exact ⟨h1, h2, h3, h4, h5.cell 0, h5.cell 1, h5.cell 2, h5.cell 3⟩
  clear bz
  simp only [Sz.cs]
  go_enter Tryz.func49, Tryz.ntmps49
  go_upto_region 1 with fail
  rw [← hw1]
  clear hw1
  go_cut [15] (fun a wx => a = .bool bq ∧ Hid (Below w1.heap.size w1 wx))
  case first =>
    go_region_held3 (fun W => W.cell? ⟨g, 1, none⟩ = some (.int .u32 (xa : Int)) ∧ W.cell? ⟨g, 2, none⟩ = some (.int .u32 (xb : Int)) ∧ W.cell? ⟨g, 3, none⟩ = some (.int .u32 (xc : Int)) ∧ W.cell? ⟨g, 4, none⟩ = some (.int .u32 (xe : Int)) ∧ W.cell? ⟨w.heap.size, 0, none⟩ = some (.int .u32 (za : Int)) ∧ W.cell? ⟨w.heap.size, 1, none⟩ = some (.int .u32 (zb : Int)) ∧ W.cell? ⟨w.heap.size, 2, none⟩ = some (.int .u32 (zc : Int)) ∧ W.cell? ⟨w.heap.size, 3, none⟩ = some (.int .u32 (ze : Int))) (exact cz _ (by repeat (first | exact Below.refl _ _ | exact b2 | with_reducible apply bel_dr | with_reducible apply bel_al))) ((first
      | (go_at_call 83
         (with_reducible refine (isThere_b (Py.bel H1 (by repeat (first | exact Below.refl _ _ | with_reducible apply bel_dr | with_reducible apply bel_al)))).mono ?_)
         rintro e w2 ⟨rfl, k2⟩
         have b2 : Below w1.heap.size w1 w2 := bel_vt k2 (by repeat (first | exact Below.refl _ _ | with_reducible apply bel_dr | with_reducible apply bel_al)))))
    all_goals
      go_wp2_with fail
      go_meet
      exact ⟨rfl, hid b2⟩
  case rest =>
  obtain ⟨rfl, K2⟩ := hcut
  have H2 := Py.bel H1 K2.out
  have X2 := hid (box_below X1.out K2.out)
  have d := cz wc K2.out
  obtain ⟨d1, d2, d3, d4, d5, d6, d7, d8⟩ := d
  clear cz
  by_cases hz : (⟨za, zb, zc, ze⟩ : Sz) = ⟨xa, xb, xc, xe⟩
  · obtain rfl : (P, []) = r := by rw [← hr.out]; unfold sizeP; rw [hx.out, if_pos hz]
    obtain rfl : true = bq := by rw [← hbq.out, decide_eq_true hz]
    go_wp2_with fail
    go_ret
    exact ⟨none, 0, 0, _, rfl, hid rfl, hid Lies.nil_, H2, hid (fun h => absurd rfl h)⟩
  · obtain rfl : ({ P with z := ⟨za, zb, zc, ze⟩ }, evs P.gp [28]) = r := by rw [← hr.out]; unfold sizeP; rw [hx.out, if_neg hz]
    obtain rfl : false = bq := by rw [← hbq.out, decide_eq_false hz]
    have z1 := Py.fz H2 1
    have z2 := Py.fz H2 2
    have z3 := Py.fz H2 3
    have z4 := Py.fz H2 4
    have H3 := Py.size4 H2 ⟨za, zb, zc, ze⟩
    clear hz
    go_upto_region 4 with fail
    generalize World.setCell (World.setCell (World.setCell (World.setCell wc _ _) _ _) _ _) _ _ = w5 at H3 ⊢
    have k5 : Below w5.heap.size w5 (w5.alloc (.cells #[.int .i64 28] 3)) := (Below.refl _ _).alloc (Nat.le_refl _) _
    have H4 := Py.bel H3 k5
    have L4 : Hid (SlI (w5.alloc (.cells #[.int .i64 28] 3)) (w5.alloc (.cells #[.int .i64 28] 3)).heap.size (some ⟨w5.heap.size, 0, none⟩) 1 [28]) := hid (sli_lit rfl rfl (by unfold maxLen; omega))
    go_wp2_with (first
      | (go_at_call 81
         (with_reducible refine (events_any H4 (some ⟨w5.heap.size, 0, none⟩) 1 1 [28] L4 (hid rfl) (by omega) (hid rfl)).mono ?_)
         rintro e w6 ⟨A6, n6, c6, rfl, N6, O6, k6⟩
         have H6 := Py.bel H4 k6.out))
    go_ret
    exact ⟨A6, n6, c6, _, rfl, N6, hid (Lies.own O6.out), H6, hid (fun _ => ev_fresh H4 O6)⟩
end
end Go.Proofs.YtggcampdkgfmgaaGreat
