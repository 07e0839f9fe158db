import Derived.Test.YteeienmigoebmaaGreatDoorPRF
import Derived.DeepKeys
namespace Go.Proofs.YteeienmigoebmaaGreatDoor
namespace L19
open Go.RowKit L18

/-! Layer 19: are programs the same? -/
def opA (o : OpV) : Array Value := #[.int .i64 o.1, .int .i64 o.2.1, .int .i64 o.2.2.1, .string (bs o.2.2.2)]
theorem Tryz.fieldsRO : (Tryz.prog.fieldsOf 53).toList.map (fun f => (decide (f.name ≠ "_"), f.type, f.offset)) = [(true, 3, 0), (true, 3, 1), (true, 3, 2), (true, 9, 3)] := by kernel_rfl
theorem fields_eq (d : Nat) (xs ys : Array Value) : ∀ (fs gs : List Field), fs.map (fun f => (decide (f.name ≠ "_"), f.type, f.offset)) = gs.map (fun f => (decide (f.name ≠ "_"), f.type, f.offset)) → Op.eqFields d xs ys fs = Op.eqFields d xs ys gs
  | [], [], _ => rfl
  | [], _ :: _, h => by simp at h
  | _ :: _, [], h => by simp at h
  | f :: fs, g :: gs, h => by
    simp only [List.map_cons, List.cons.injEq, Prod.mk.injEq] at h
    obtain ⟨⟨h1, h2, h3⟩, h4⟩ := h
    have h5 : (f.name ≠ "_") = (g.name ≠ "_") := propext (decide_eq_decide.1 h1)
    simp only [Op.eqFields, h5, h2, h3, fields_eq d xs ys fs gs h4]
def four : List Field := [⟨"a", 3, 0, false, "", "", 0⟩, ⟨"a", 3, 1, false, "", "", 0⟩, ⟨"a", 3, 2, false, "", "", 0⟩, ⟨"a", 9, 3, false, "", "", 0⟩]
theorem step_field {P : Program} {w : World} {d : Nat} {xs ys : Array Value} {f : Field} {fs : List Field} {a b : Value} {r r' : Bool} (hn : f.name ≠ "_") (pa : (part f.type xs f.offset).run P w = .ok a w) (pb : (part f.type ys f.offset).run P w = .ok b w)
    (he : (Op.equalIn d f.type a b).run P w = .ok r w) (hr : (Op.eqFields d xs ys fs).run P w = .ok r' w) : (Op.eqFields d xs ys (f :: fs)).run P w = .ok (r && r') w := by
  rw [Op.eqFields, if_pos hn]
  simp only [Sem.run_bind, pa, pb, he, Result.andThen_ok]
  cases r
  · rfl
  · exact hr
theorem no_fields {P : Program} {w : World} {d : Nat} {xs ys : Array Value} : (Op.eqFields d xs ys []).run P w = .ok true w := by simp [Op.eqFields]
theorem str_eqb (a b : List UInt8) : ((bs a).toList == (bs b).toList) = decide (a = b) := by
  rw [ByteArray.toList_eq, ByteArray.toList_eq, Bool.eq_iff_iff, decide_eq_true_eq]
  simp [bs]
theorem run_eqO (w : World) (d : Nat) (x y : OpV) : (Op.equalIn (d + 1 + 1) 53 (.agg (opA x)) (.agg (opA y))).run Tryz.prog w = .ok (decide (x = y)) w := by
  have hst : Tryz.prog.stoodInHeld 53 = false := by kernel_rfl
  have hfo : Tryz.prog.underlying 53 = some (.struct (Tryz.prog.fieldsOf 53)) := by simp [Program.fieldsOf, Tryz.underlying53]
  rw [run_equalIn_struct w (d + 1) 53 _ _ hfo hst, fields_eq (d + 1) _ _ _ four (by rw [Tryz.fieldsRO]; rfl)]
  have k3 : Tryz.prog.plainKey 3 = true := by kernel_rfl
  have k9 : Tryz.prog.plainKey 9 = true := by kernel_rfl
  have a0 := fun z : OpV => run_part_plain (w := w) k3 (xs := opA z) (off := 0) rfl
  have a1 := fun z : OpV => run_part_plain (w := w) k3 (xs := opA z) (off := 1) rfl
  have a2 := fun z : OpV => run_part_plain (w := w) k3 (xs := opA z) (off := 2) rfl
  have a3 := fun z : OpV => run_part_plain (w := w) k9 (xs := opA z) (off := 3) rfl
  have e0 := run_equalIn_int (P := Tryz.prog) w d 3 .i64 .i64 x.1 y.1 Tryz.underlying3
  have e1 := run_equalIn_int (P := Tryz.prog) w d 3 .i64 .i64 x.2.1 y.2.1 Tryz.underlying3
  have e2 := run_equalIn_int (P := Tryz.prog) w d 3 .i64 .i64 x.2.2.1 y.2.2.1 Tryz.underlying3
  have e3 := run_equalIn_string (P := Tryz.prog) w d 9 (bs x.2.2.2) (bs y.2.2.2) Tryz.underlying9
  have nm : ("a" : String) ≠ "_" := by decide
  have hh := step_field (f := ⟨"a", 3, 0, false, "", "", 0⟩) nm (a0 x) (a0 y) e0 (step_field (f := ⟨"a", 3, 1, false, "", "", 0⟩) nm (a1 x) (a1 y) e1 (step_field (f := ⟨"a", 3, 2, false, "", "", 0⟩) nm (a2 x) (a2 y) e2 (step_field (f := ⟨"a", 9, 3, false, "", "", 0⟩) nm (a3 x) (a3 y) e3 no_fields)))
  rw [four, hh, str_eqb]
  have h4 : ∀ x y : Int, (x == y) = decide (x = y) := fun x y => rfl
  rw [h4, h4, h4]
  have e : decide (x = y) = (decide (x.1 = y.1) && (decide (x.2.1 = y.2.1) && (decide (x.2.2.1 = y.2.2.1) && decide (x.2.2.2 = y.2.2.2)))) := by
    rw [Bool.eq_iff_iff]
    simp [Prod.ext_iff]
  rw [e]
  simp
theorem run_eqO2 (w : World) (x y : OpV) (n : Nat) (hn : n = 9998 + 1 + 1) : (Op.equalIn n 53 (.agg (opA x)) (.agg (opA y))).run Tryz.prog w = .ok (decide (x = y)) w := by
  rw [hn]
  generalize 9998 = d
  exact run_eqO w d x y
theorem run_neO (w : World) (x y : OpV) : (binOp .neq 53 (.agg (opA x)) (.agg (opA y))).run Tryz.prog w = .ok (.bool (!decide (x = y))) w := by
  rw [run_neq_struct, run_eqO2 w x y _ (by decide)]
  rfl
theorem q_neO {C : World → Prop} {o : Oper} {a : Act} {K : Act → Prop} (p r : Operand) (t : TypeId) (ho : o.op = .binOp .neq 53 p r t) (x y : OpV) (hx : a.eval p = .agg (opA x)) (hy : a.eval r = .agg (opA y)) (b : Bool) (hb : (!decide (x = y)) = b) (h : K (a.put o.dst (.bool b))) :
    o.quiet Tryz.prog a C K :=
  ⟨_, fun w _ => by
    unfold Oper.quietAt execOp
    have hm : Tryz.prog.eqGuardType Tryz.prog.depth 53 = false := by kernel_rfl
    simp only [ho, hx, hy, Sem.run_bind, run_eqGuard_agg w _ 53 _ _ _ _ hm, Result.andThen_ok, run_neO w x y, Oper.quietUpon]
    exact ⟨rfl, by rw [hb]⟩, h⟩
/-- Nothing but draws. -/
def Quiet (w w' : World) : Prop := ∃ n, w' = w.drewN n
theorem Quiet.below {w w' : World} (h : Quiet w w') : Hid (Below w.heap.size w w') := by
  obtain ⟨n, rfl⟩ := h
  have h := Below.refl w.heap.size w
  exact hid ⟨h.os, h.tape, h.output, h.size, h.block⟩
theorem quiet2 (w : World) (a b : Nat) : Quiet w ((w.drewN a).drewN b) := ⟨a + b, World.drewN_drewN w a b⟩
theorem list_ne {α : Type} {a b : List α} {k : Nat} {x y : α} (ha : a[k]? = some x) (hb : b[k]? = some y) (h : x ≠ y) : a ≠ b := by
  rintro rfl
  rw [ha] at hb
  exact h (Option.some.inj hb)
theorem take_same {α : Type} {a b : List α} {k : Nat} {x : α} (h : a.take k = b.take k) (ha : a[k]? = some x) (hb : b[k]? = some x) : a.take (k + 1) = b.take (k + 1) := by
  rw [take_at ha, take_at hb, h]
set_option maxRecDepth 100000 in
set_option maxHeartbeats 8000000 in
theorem same_any (w : World) (A A2 : Option Addr) (n n2 c c2 : Nat) (X Y : List PgX) (hl : Hid (PgM w w.heap.size A c X)) (hn : X.length = n) (hl2 : Hid (PgM w w.heap.size A2 c2 Y)) (hn2 : Y.length = n2) {g : Bool} (hg : Hid (decide (prL X = prL Y) = g)) :
    Calls Tryz.prog 12 #[.slice A n c, .slice A2 n2 c2] w fun e w' => e = .returned (.bool g) ∧ Hid (Below w.heap.size w w') := by
  have HN := hid hn
  have HN2 := hid hn2
  have hcap : n ≤ maxLen := by rw [← hn]; exact Nat.le_trans hl.out.len hl.out.cap
  unfold maxLen at hcap
  by_cases hlen : n = n2
  · subst hlen
    go_enter Tryz.func12, Tryz.ntmps12
    go_wp2
    go_loopw [14] (fun i wr => ∃ (k d : Nat), k ≤ n ∧ i = .int .i64 k ∧ wr = w.drewN d ∧ Hid ((prL X).take k = (prL Y).take k)) (fun i _ => n - (intOf i).toNat)
    case atStart => exact ⟨0, 0, Nat.zero_le _, rfl, rfl, hid rfl⟩
    case round =>
      obtain ⟨k, d, hk, rfl, rfl, HT⟩ := hrel
      by_cases hlt : k < n
      · obtain ⟨b, o, x, hA, hx, c0, c1, hS⟩ := hl.out.at (k := k) (by rw [hn]; exact hlt)
        obtain ⟨b2, o2, y, hA2, hy, e0, e1, hS2⟩ := hl2.out.at (k := k) (by rw [hn2]; exact hlt)
        subst hA
        subst hA2
        have hx' : (prL X)[k]? = some x.1 := by simp [prL, hx]
        have hy' : (prL Y)[k]? = some y.1 := by simp [prL, hy]
        obtain ⟨⟨nm, ops⟩, oA, oc⟩ := x
        obtain ⟨⟨nm2, ops2⟩, oA2, oc2⟩ := y
        simp only at c0 c1 e0 e1 hS hS2 hx' hy'
        obtain ⟨q, hq⟩ : ∃ z, Hid (ops.length = z) := ⟨_, hid rfl⟩
        obtain ⟨q2, hq2⟩ : ∃ z, Hid (ops2.length = z) := ⟨_, hid rfl⟩
        rw [hq.out] at c1
        rw [hq2.out] at e1
        have hqc : q ≤ maxLen := by rw [← hq.out]; exact Nat.le_trans hS.len hS.cap
        unfold maxLen at hqc
        have hi : (k : Int) < n := by omega
        by_cases hnm : nm = nm2
        · have t1 : ((bs nm).toList == (bs nm2).toList) = true := by rw [str_eqb]; simp [hnm]
          have t2 : ((bs nm).toList != (bs nm2).toList) = false := by rw [bne, t1]; rfl
          by_cases hqq : q = q2
          · have t3 : ((q : Int) != q2) = false := by simp [hqq]
            have HQ := hid hqq
            have HNM := hid hnm
            clear hqq hnm
            go_wp2
            go_quiet (fail)
            go_wp2
            go_loopw [49] (fun i wq => ∃ (j d2 : Nat), j ≤ q ∧ i = .int .i64 j ∧ wq = w.drewN d2 ∧ Hid (ops.take j = ops2.take j)) (fun i _ => q - (intOf i).toNat)
            case atStart => exact ⟨0, d + nq, Nat.zero_le _, rfl, by first | rfl | exact World.drewN_drewN w d nq, hid rfl⟩
            case round =>
              obtain ⟨j, d2, hj, rfl, rfl, HTj⟩ := hrel
              by_cases hjq : j < q
              · have hij : (j : Int) < q := by omega
                have hij2 : (j : Int) < q2 := by have := HQ.out; omega
                obtain ⟨b5, o5, y, hA5, hy5, m0, m1, m2, m3⟩ := hS.at (k := j) (by rw [hq.out]; exact hjq)
                obtain ⟨b6, o6, z, hA6, hz6, n0, n1, n2', n3⟩ := hS2.at (k := j) (by rw [hq2.out]; have := HQ.out; omega)
                subst hA5
                subst hA6
                by_cases hyz : y = z
                · have HE : (!decide (y = z)) = false := by simp [hyz]
                  have HS := hid (take_same HTj.out hy5 (by rw [hyz]; exact hz6))
                  clear hyz hy5 hz6
                  go_wp2
                  refine wp_region_quiet_lit (by kernel_rfl) (by kernel_rfl) ?_
                  repeat (first
                    | go_big_quiet_skip
                    | (go_big_quiet_want
                       first
                        | (refine q_neO _ _ _ (by rfl) y z (by rfl) (by rfl) _ HE ?_
                           simp only [Act.put, List.setIfInBounds_toArray, List.set_cons_succ, List.set_cons_zero]
                           go_big_quiet_on)
                        | (go_big_quiet_op
                           go_big_quiet_on)))
                  refine wpQuiet_nil ?_
                  intro _ hw'
                  obtain ⟨nq2, hw''⟩ := hw'
                  subst hw''
                  go_wp2
                  go_roundw
                  case rel => exact ⟨j + 1, _, by omega, by go_num, by first | rfl | exact World.drewN_drewN w d2 nq2, HS⟩
                  case measure => simp [intOf]; omega
                · have HE : (!decide (y = z)) = true := by simp [hyz]
                  have HF : Hid (g = false) := hid (by
                    rw [← hg.out]
                    exact decide_eq_false (list_ne hx' hy' (by
                      intro e
                      exact list_ne hy5 hz6 hyz (congrArg Prod.snd e))))
                  clear hyz hy5 hz6
                  go_wp2
                  refine wp_region_quiet_lit (by kernel_rfl) (by kernel_rfl) ?_
                  repeat (first
                    | go_big_quiet_skip
                    | (go_big_quiet_want
                       first
                        | (refine q_neO _ _ _ (by rfl) y z (by rfl) (by rfl) _ HE ?_
                           simp only [Act.put, List.setIfInBounds_toArray, List.set_cons_succ, List.set_cons_zero]
                           go_big_quiet_on)
                        | (go_big_quiet_op
                           go_big_quiet_on)))
                  refine wpQuiet_nil ?_
                  intro _ hw'
                  obtain ⟨nq2, hw''⟩ := hw'
                  subst hw''
                  go_wp2
                  go_ret
                  rw [HF.out]
                  exact ⟨rfl, (quiet2 _ _ _).below⟩
              · have hij : ¬ (j : Int) < q := by omega
                have HO : ops = ops2 := by
                  have h := HTj.out
                  rw [List.take_of_length_le (by rw [hq.out]; omega), List.take_of_length_le (by rw [hq2.out]; have := HQ.out; omega)] at h
                  exact h
                have HS := hid (take_same HT.out hx' (by rw [HO, HNM.out]; exact hy'))
                clear HO
                go_wp2
                go_roundw
                case rel => exact ⟨k + 1, d2, by omega, by go_num, rfl, HS⟩
                case measure => simp [intOf]; omega
          · have t3 : ((q : Int) != q2) = true := by simp; omega
            have HF : Hid (g = false) := hid (by
              rw [← hg.out]
              exact decide_eq_false (list_ne hx' hy' (by
                intro e
                have := congrArg (fun z : ProgV => z.2.length) e
                exact hqq (by rw [← hq.out, ← hq2.out]; exact this))))
            clear hqq hnm
            go_wp2
            go_quiet (fail)
            go_wp2
            go_ret
            rw [HF.out]
            exact ⟨rfl, (quiet2 _ _ _).below⟩
        · have t1 : ((bs nm).toList == (bs nm2).toList) = false := by rw [str_eqb]; simp [hnm]
          have t2 : ((bs nm).toList != (bs nm2).toList) = true := by rw [bne, t1]; rfl
          have HF : Hid (g = false) := hid (by
            rw [← hg.out]
            exact decide_eq_false (list_ne hx' hy' (fun e => hnm (congrArg Prod.fst e))))
          clear hnm
          go_wp2
          go_quiet (fail)
          go_wp2
          go_ret
          rw [HF.out]
          exact ⟨rfl, (quiet2 _ _ _).below⟩
      · have hi : ¬ (k : Int) < n := by omega
        have HF : Hid (g = true) := hid (by
          rw [← hg.out]
          have h := HT.out
          rw [List.take_of_length_le (by rw [prL_len, hn]; omega), List.take_of_length_le (by rw [prL_len, hn2]; omega)] at h
          exact decide_eq_true h)
        go_wp2
        go_ret
        rw [HF.out]
        exact ⟨rfl, Quiet.below ⟨d, rfl⟩⟩
  · have t1 : ((n : Int) != n2) = true := by simp; omega
    have HF : Hid (g = false) := hid (by
      rw [← hg.out]
      refine decide_eq_false fun e => hlen ?_
      have := congrArg List.length e
      rw [prL_len, prL_len, hn, hn2] at this
      exact this)
    clear hlen
    go_enter Tryz.func12, Tryz.ntmps12
    go_wp2
    go_ret
    rw [HF.out]
    exact ⟨rfl, hid (Below.refl _ _)⟩
end L19
end Go.Proofs.YteeienmigoebmaaGreatDoor
