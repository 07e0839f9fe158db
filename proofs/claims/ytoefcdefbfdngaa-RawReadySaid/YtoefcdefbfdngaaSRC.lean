import Derived.Test.YtoefcdefbfdngaaSRB
namespace Go.Proofs.Ytoefcdefbfdngaa
open Go.RowKit

/-! Layer 14: the law's helpers. -/
theorem ok_lit (x : Int) (h1 : -1000 ≤ x := by decide) (h2 : x ≤ 1000 := by decide) : i64ok x := ⟨by omega, by omega⟩
set_option maxRecDepth 100000 in
set_option maxHeartbeats 2000000 in
theorem alive_any (w : World) : Calls Try.prog 6 #[] w fun e w' => e = .returned (.bool true) ∧ Hid (Below w.heap.size w w') := by
  have e1 : Hid (readyI 1 0 0 2 0 0 = (0, false)) := hid (by decide)
  have e2 : Hid (readyI 1 0 3 2 0 0 = (2, true)) := hid (by decide)
  have e3 : Hid (readyI 0 5 0 2 0 5 = (0, true)) := hid (by decide)
  have e4 : Hid (waitI 4 2 3 9 1 7 = (1, true)) := hid (by decide)
  have o0 : i64ok 0 := ok_lit 0
  have o1 : i64ok 1 := ok_lit 1
  have o2 : i64ok 2 := ok_lit 2
  have o3 : i64ok 3 := ok_lit 3
  have o4 : i64ok 4 := ok_lit 4
  have o5 : i64ok 5 := ok_lit 5
  have o7 : i64ok 7 := ok_lit 7
  have o9 : i64ok 9 := ok_lit 9
  go_enter Try.func6, Try.ntmps6
  go_wp2_with (first
    | (go_at_call 13
       (first
         | ((with_reducible refine (readyp_any w 1 0 0 2 0 0 o1 o0 o0 o2 o0 o0 e1).mono ?_)
            rintro e u1 ⟨rfl, k1⟩)
         | ((with_reducible refine (readyp_any u1 1 0 3 2 0 0 o1 o0 o3 o2 o0 o0 e2).mono ?_)
            rintro e u2 ⟨rfl, k2⟩
            have K2 := bel_t k1 k2.out)
         | ((with_reducible refine (readyp_any u2 0 5 0 2 0 5 o0 o5 o0 o2 o0 o5 e3).mono ?_)
            rintro e u3 ⟨rfl, k3⟩
            have K3 := bel_t K2 k3.out)))
    | (go_at_call 14
       (with_reducible refine (waitp_any u3 4 2 3 9 1 7 o4 o2 o3 o9 o1 o7 e4).mono ?_)
       rintro e u4 ⟨rfl, k4⟩
       have K4 := bel_t K3 k4.out))
  go_ret
  exact ⟨rfl, K4⟩
section
variable {mn tm hv wn idl wt : Int}
set_option maxRecDepth 100000 in
theorem ready_any (w : World) (h1 : i64ok mn) (h2 : i64ok tm) (h3 : i64ok hv) (h4 : i64ok wn) (h5 : i64ok idl) (h6 : i64ok wt) {n : Int} {b : Bool} (hR : Hid (readyI mn tm hv wn idl wt = (n, b))) :
    Calls Try.prog 7 #[.agg #[.int .i64 mn, .int .i64 tm, .int .i64 hv, .int .i64 wn, .int .i64 idl, .int .i64 wt]] w fun e w' => e = .returned (.tuple #[.int .i64 n, .bool b]) ∧ Hid (Below w.heap.size w w') := by
  have K0 : Hid (Below w.heap.size w (w.alloc (.cells #[.int .i64 mn, .int .i64 tm, .int .i64 hv, .int .i64 wn, .int .i64 idl, .int .i64 wt] 23))) := hid ((Below.refl _ w).alloc (Nat.le_refl _) _)
  go_enter Try.func7, Try.ntmps7
  go_wp2_with (first
    | (go_at_call 13
       (with_reducible refine (readyp_any _ mn tm hv wn idl wt h1 h2 h3 h4 h5 h6 hR).mono ?_)
       rintro e u1 ⟨rfl, k1⟩
       have K1 := bel_t K0 k1.out))
  go_ret2
  exact ⟨rfl, K1⟩
set_option maxRecDepth 100000 in
theorem wait_any (w : World) (h1 : i64ok mn) (h2 : i64ok tm) (h3 : i64ok hv) (h4 : i64ok wn) (h5 : i64ok idl) (h6 : i64ok wt) {n : Int} {b : Bool} (hW : Hid (waitI mn tm hv wn idl wt = (n, b))) :
    Calls Try.prog 9 #[.agg #[.int .i64 mn, .int .i64 tm, .int .i64 hv, .int .i64 wn, .int .i64 idl, .int .i64 wt]] w fun e w' => e = .returned (.tuple #[.int .i64 n, .bool b]) ∧ Hid (Below w.heap.size w w') := by
  have K0 : Hid (Below w.heap.size w (w.alloc (.cells #[.int .i64 mn, .int .i64 tm, .int .i64 hv, .int .i64 wn, .int .i64 idl, .int .i64 wt] 23))) := hid ((Below.refl _ w).alloc (Nat.le_refl _) _)
  go_enter Try.func9, Try.ntmps9
  go_wp2_with (first
    | (go_at_call 14
       (with_reducible refine (waitp_any _ mn tm hv wn idl wt h1 h2 h3 h4 h5 h6 hW).mono ?_)
       rintro e u1 ⟨rfl, k1⟩
       have K1 := bel_t K0 k1.out))
  go_ret2
  exact ⟨rfl, K1⟩
end
theorem Try.size3 : (Try.prog.info? 3).map (·.size) = some 1 := by kernel_rfl
theorem index_six (l : List Int) (k : Nat) (v : Int) (hk : k < 6) (hv : l[k]? = some v) : ∀ W : World, (Instr.index 32 (.agg (l.map (Value.int .i64)).toArray) (.int .i64 (k : Int))).run Try.prog W = .ok (.int .i64 v) W := fun W => by
  have hsz : (sizeOf 3).run Try.prog W = .ok 1 W := by
    have hi := Try.size3
    cases hq : Try.prog.info? 3 with
    | none => simp [hq] at hi
    | some i0 => simp [sizeOf, typeInfo, hq] at hi ⊢; exact hi
  have hagg : (isAgg 3).run Try.prog W = .ok false W := by
    unfold isAgg
    rw [Sem.run_bind, run_underlying Try.underlying3 W]
    rfl
  have hp : (part 3 (l.map (Value.int .i64)).toArray k).run Try.prog W = .ok (.int .i64 v) W := by simp [part, Sem.run_bind, hagg, hv]
  have h2 : (k : Int) < 6 := by omega
  simp only [Instr.index, asIntOf, Sem.run_bind]
  simp [hp]
  intro h
  omega
/-- Numbers such as can be. -/
def fairL (l : List Int) : Bool := l.all fun x => decide (0 ≤ x) && decide (x ≤ 1073741824)
set_option maxRecDepth 100000 in
set_option maxHeartbeats 2000000 in
theorem fair_any (w : World) (mn tm hv wn idl wt : Int) : Calls Try.prog 11 #[.agg #[.int .i64 mn, .int .i64 tm, .int .i64 hv, .int .i64 wn, .int .i64 idl, .int .i64 wt]] w fun e w' => e = .returned (.bool (fairL [mn, tm, hv, wn, idl, wt])) ∧ Hid (Below w.heap.size w w') := by
  have K0 : Hid (Below w.heap.size w (w.alloc (.cells #[.int .i64 mn, .int .i64 tm, .int .i64 hv, .int .i64 wn, .int .i64 idl, .int .i64 wt] 23))) := hid ((Below.refl _ w).alloc (Nat.le_refl _) _)
  have hix : ∀ (k : Nat) (v : Int), k < 6 → [mn, tm, hv, wn, idl, wt][k]? = some v → ∀ W : World, (Instr.index 32 (.agg #[.int .i64 mn, .int .i64 tm, .int .i64 hv, .int .i64 wn, .int .i64 idl, .int .i64 wt]) (.int .i64 (k : Int))).run Try.prog W = .ok (.int .i64 v) W := fun k v hk h W => index_six [mn, tm, hv, wn, idl, wt] k v hk h W
  obtain ⟨l, hl⟩ : ∃ l, Hid ([mn, tm, hv, wn, idl, wt] = l) := ⟨_, hid rfl⟩
  have hlen : Hid (l.length = 6) := hid (by rw [← hl.out]; rfl)
  rw [hl.out] at hix ⊢
  have hix := hid hix
  go_enter Try.func11, Try.ntmps11
  go_wp2
  go_loopw [18] (fun i wr => ∃ k : Nat, k ≤ 6 ∧ i = .int .i64 k ∧ Hid (fairL (l.drop k) = fairL l) ∧ Hid (Below w.heap.size w wr)) (fun i _ => 6 - (intOf i).toNat)
  case atStart => exact ⟨0, Nat.zero_le _, rfl, hid rfl, K0⟩
  case round =>
    obtain ⟨k, hk, rfl, HF, HB⟩ := hrel
    by_cases hlt : k < 6
    · obtain ⟨v, hv⟩ : ∃ v, l[k]? = some v := ⟨_, List.getElem?_eq_getElem (by rw [hlen.out]; exact hlt)⟩
      have hx := hix.out k v hlt hv
      have hd : Hid (fairL (l.drop k) = ((decide (0 ≤ v) && decide (v ≤ 1073741824)) && fairL (l.drop (k + 1)))) := hid (by
        obtain ⟨hkl, rfl⟩ := List.getElem?_eq_some_iff.1 hv
        rw [List.drop_eq_getElem_cons hkl]
        rfl)
      clear hv
      by_cases h1 : v < 0
      · have hf : fairL l = false := by rw [← HF.out, hd.out]; simp; omega
        go_wp2
        go_ret
        first | exact ⟨rfl, HB⟩ | exact ⟨congrArg (fun b => Ending.returned (.bool b)) hf.symm, HB⟩
      · by_cases h2 : 1073741824 < v
        · have hf : fairL l = false := by rw [← HF.out, hd.out]; simp; omega
          go_wp2
          go_ret
          first | exact ⟨rfl, HB⟩ | exact ⟨congrArg (fun b => Ending.returned (.bool b)) hf.symm, HB⟩
        · have hf : Hid (fairL (l.drop (k + 1)) = fairL l) := hid (by
            rw [← HF.out, hd.out, decide_eq_true (show 0 ≤ v by omega), decide_eq_true (show v ≤ 1073741824 by omega)]
            rfl)
          go_wp2
          go_roundw
          case rel => exact ⟨k + 1, by omega, by go_num, hf, HB⟩
          case measure => simp [intOf] <;> omega
    · have hf : fairL l = true := by
        rw [← HF.out, List.drop_eq_nil_of_le (by rw [hlen.out]; omega)]
        rfl
      go_wp2
      go_ret
      first | exact ⟨rfl, HB⟩ | exact ⟨congrArg (fun b => Ending.returned (.bool b)) hf.symm, HB⟩
theorem fair_b (w : World) (mn tm hv wn idl wt : Int) {b : Bool} (hb : fairL [mn, tm, hv, wn, idl, wt] = b) : Calls Try.prog 11 #[.agg #[.int .i64 mn, .int .i64 tm, .int .i64 hv, .int .i64 wn, .int .i64 idl, .int .i64 wt]] w fun e w' => e = .returned (.bool b) ∧ Hid (Below w.heap.size w w') := by
  subst hb
  exact fair_any w mn tm hv wn idl wt
end Go.Proofs.Ytoefcdefbfdngaa
