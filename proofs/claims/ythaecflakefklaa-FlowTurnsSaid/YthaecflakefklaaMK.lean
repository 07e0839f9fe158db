import Derived.Test.YthaecflakefklaaMG
namespace Go.Proofs.Ythaecflakefklaa
open Go.RowKit

theorem wpList_build_at {P : Program} {ops : Array Oper} {rest : List Oper} {o : Oper} {a : Act} {w : World} {Q : Exit → Act → World → Prop} (hg : o.guard = none) (t : TypeId) (parts : Array (Nat × Operand)) (ho : o.op = .build t parts) (cells : Array Value)
    (hc : P.built t (parts.map fun (i, x) => (i, a.eval x)).toList = some cells) (h : wpList P ops Q rest (a.put o.dst (.agg cells)) w) : wpList P ops Q (o :: rest) a w := by
  refine wpList_build hg t parts ho (by rw [hc]; rfl) ?_
  rw [hc]
  exact h
theorem run_index_cell {P : Program} (w : World) (t e : TypeId) (len : Nat) (q : IntKind) (cs : Array Value) (k : IntKind) (i : Nat) (v : Value) (ht : P.underlying t = some (.array len e)) (hu : P.underlying e = some (.int q)) (hi : (P.info? e).map (·.size) = some 1) (hlt : i < len) (hv : cs[i]? = some v) :
    (Instr.index t (.agg cs) (.int k (i : Int))).run P w = .ok v w := by
  have hsz : (sizeOf e).run P w = .ok 1 w := by
    cases hq : P.info? e with
    | none => simp [hq] at hi
    | some i0 => simp [sizeOf, typeInfo, hq] at hi ⊢; exact hi
  have h2 : ((i : Int) < len) := by omega
  have hp : (part e cs i).run P w = .ok v w := run_part_cell w e q cs i v hu hv
  simp [Instr.index, asIntOf, run_underlying ht, hsz, hp]
  intro h
  omega
theorem Try.size3 : (Try.prog.info? 3).map (·.size) = some 1 := by kernel_rfl
def opsD : List Int := [36, 38, 41, 50, 51, 53, 54, 55, 60, 61, 59, 70, 72, 91]
def opD (j : Nat) : Int := opsD.getD j 0
def defF (j : Nat) : Nat := (opsD.take j).foldl (fun f op => setN f op true) 0
theorem defF_step (j : Nat) (h : j < 14) : setN (defF j) (opD j) true = defF (j + 1) := by
  have : ∀ k : Fin 14, setN (defF k.1) (opD k.1) true = defF (k.1 + 1) := by decide
  exact this ⟨j, h⟩
/-- How a terminal is set at first, so many flags on. -/
def dN (j : Nat) : Tm := ⟨[0, 3, 28, 127, 21, 4, 255, 255, 17, 19, 26, 255, 18, 23, 22, 255, 255, 255, 15], defF j, 38400, 38400, 1, 0⟩
def dT : Tm := dN 14
theorem defF_lt (j : Nat) (h : j ≤ 14) : defF j < 18446744073709551616 := by
  have : ∀ k : Fin 15, defF k.1 < 18446744073709551616 := by decide
  exact this ⟨j, by omega⟩
theorem dN_ok (j : Nat) (h : j ≤ 14) : (dN j).Ok := ⟨rfl, defF_lt j h, show 38400 < 4294967296 by decide, show 38400 < 4294967296 by decide, show i64ok 1 from ⟨by decide, by decide⟩, show i64ok 0 from ⟨by decide, by decide⟩⟩
theorem dT_ok : dT.Ok := dN_ok 14 (by omega)
theorem Pair.new2 (w : World) : Pair w ((w.alloc (.cells #[.int .u8 0, .int .u8 0, .int .u8 0, .int .u8 0, .int .u8 0, .int .u8 0, .int .u8 0, .int .u8 0, .int .u8 0, .int .u8 0, .int .u8 0, .int .u8 0, .int .u8 0, .int .u8 0, .int .u8 0, .int .u8 0, .int .u8 0, .int .u8 0, .int .u8 0, .int .u64 0, .int .u32 0, .int .u32 0, .int .i64 0, .int .i64 0] 26)).alloc (.cells #[.int .u8 0, .int .u8 0, .int .u8 0, .int .u8 0, .int .u8 0, .int .u8 0, .int .u8 0, .int .u8 0, .int .u8 0, .int .u8 0, .int .u8 0, .int .u8 0, .int .u8 0, .int .u8 0, .int .u8 0, .int .u8 0, .int .u8 0, .int .u8 0, .int .u8 0, .int .u64 0, .int .u32 0, .int .u32 0, .int .i64 0, .int .i64 0] 26)) (w.heap.size + 1) w.heap.size Tm.zero Tm.zero :=
  ⟨((Below.refl _ w).alloc (Nat.le_refl _) _).alloc (by simp) _, by omega, Nat.le_refl _, by omega, by
    have := Box.new (w.alloc (.cells Tm.zero.cs 26)) 26 Tm.zero.cs
    rwa [World.size_alloc] at this, box_below (Box.new w 26 Tm.zero.cs) ((Below.refl _ _).alloc (Nat.le_refl _) _)⟩
theorem opD_at (j : Nat) (h : j < 14) : (#[.int .i64 36, .int .i64 38, .int .i64 41, .int .i64 50, .int .i64 51, .int .i64 53, .int .i64 54, .int .i64 55, .int .i64 60, .int .i64 61, .int .i64 59, .int .i64 70, .int .i64 72, .int .i64 91] : Array Value)[j]? = some (.int .i64 (opD j)) := by
  have : ∀ k : Fin 14, (#[.int .i64 36, .int .i64 38, .int .i64 41, .int .i64 50, .int .i64 51, .int .i64 53, .int .i64 54, .int .i64 55, .int .i64 60, .int .i64 61, .int .i64 59, .int .i64 70, .int .i64 72, .int .i64 91] : Array Value)[k.1]? = some (.int .i64 (opD k.1)) := fun k => by
    obtain ⟨k, hk⟩ := k
    rcases (by omega : k = 0 ∨ k = 1 ∨ k = 2 ∨ k = 3 ∨ k = 4 ∨ k = 5 ∨ k = 6 ∨ k = 7 ∨ k = 8 ∨ k = 9 ∨ k = 10 ∨ k = 11 ∨ k = 12 ∨ k = 13) with rfl | rfl | rfl | rfl | rfl | rfl | rfl | rfl | rfl | rfl | rfl | rfl | rfl | rfl <;> rfl
  exact this ⟨j, h⟩
theorem index_ops (j : Nat) (h : j < 14) : ∀ W : World, (Instr.index 68 (.agg #[.int .i64 36, .int .i64 38, .int .i64 41, .int .i64 50, .int .i64 51, .int .i64 53, .int .i64 54, .int .i64 55, .int .i64 60, .int .i64 61, .int .i64 59, .int .i64 70, .int .i64 72, .int .i64 91]) (.int .i64 (j : Int))).run Try.prog W = .ok (.int .i64 (opD j)) W := fun W =>
  run_index_cell W 68 3 14 .i64 _ .i64 j _ Try.underlying68 Try.underlying3 Try.size3 h (opD_at j h)
theorem setT_dN (j : Nat) (h : j < 14) : setT (dN j) (opD j) true = dN (j + 1) := by
  simp only [setT, dN, defF_step j h]
set_option maxRecDepth 100000 in
set_option maxHeartbeats 4000000 in
theorem default_any (w : World) : Calls Try.prog 19 #[] w fun e w' => e = .returned (.agg dT.cs) ∧ Hid (Below w.heap.size w w') := by
  have H0 := hid (Pair.new2 w)
  have hz : Hid (Tm.zero.cs.size = 24) := hid (cs_size rfl)
  go_enter Try.func19, Try.ntmps19
  go_wp2_with (first
    | (refine wpList_build_at rfl 22 _ rfl #[.int .u8 0, .int .u8 3, .int .u8 28, .int .u8 127, .int .u8 21, .int .u8 4, .int .u8 255, .int .u8 255, .int .u8 17, .int .u8 19, .int .u8 26, .int .u8 255, .int .u8 18, .int .u8 23, .int .u8 22, .int .u8 255, .int .u8 255, .int .u8 255, .int .u8 15] ?hc ?_
       case hc => kernel_rfl)
    | (refine wpList_build_at rfl 26 _ rfl (dN 0).cs ?hc ?_
       case hc => kernel_rfl)
    | (refine wpList_build_at rfl 68 _ rfl #[.int .i64 36, .int .i64 38, .int .i64 41, .int .i64 50, .int .i64 51, .int .i64 53, .int .i64 54, .int .i64 55, .int .i64 60, .int .i64 61, .int .i64 59, .int .i64 70, .int .i64 72, .int .i64 91] ?hc ?_
       case hc => kernel_rfl)
    | (refine st26 (by rfl) _ _ (by rfl) _ (by rfl) (dN 0) rfl (by rfl) _ H0.out.boxT hz.out ?_
       intro u2 hb2 ht2
       have H2 := hid (H0.out.turnT ht2.out hb2.out)
       clear H0 hb2 ht2))
  go_loopw [7] (fun i wr => ∃ j : Nat, j ≤ 14 ∧ i = .int .i64 (j : Int) ∧ Hid (Pair w wr (w.heap.size + 1) w.heap.size (dN j) Tm.zero)) (fun i _ => (14 - intOf i).toNat)
  case atStart => exact ⟨0, by omega, rfl, H2⟩
  case round =>
    obtain ⟨j, hj, rfl, H3⟩ := hrel
    clear H2
    have hs : (dN j).cs.size = 24 := cs_size rfl
    by_cases hlt : j < 14
    · have hix := index_ops j hlt
      have hst := hid (setT_dN j hlt)
      go_wp2_with (first
        | (refine ld26 (by rfl) _ (by rfl) _ (by rfl) (dN j).cs H3.out.boxT hs ?_)
        | (go_at_call 17
           (with_reducible refine (set_any _ (dN j) (dN_ok j hj) (opD j) true).mono ?_)
           rintro e u4 ⟨rfl, K4⟩
           have H4 := hid (H3.out.grow K4.out)
           clear H3 K4)
        | (refine st26 (by rfl) _ _ (by rfl) _ (by rfl) (setT (dN j) (opD j) true) rfl (by rfl) _ H4.out.boxT hs ?_
           intro u5 hb5 ht5
           have H5 := hid (H4.out.turnT ht5.out hb5.out)
           rw [hst.out] at H5))
      go_roundw
      case rel => exact ⟨j + 1, by omega, by go_num, H5⟩
      case measure => simp [intOf]; omega
    · obtain rfl : j = 14 := by omega
      go_wp2_with (first
        | (refine ld26 (by rfl) _ (by rfl) _ (by rfl) (dN 14).cs H3.out.boxT hs ?_)
        | (refine st26 (by rfl) _ _ (by rfl) _ (by rfl) (dN 14) rfl (by rfl) _ H3.out.boxR hz.out ?_
           intro u5 hb5 ht5
           have H5 := hid (H3.out.turnR ht5.out hb5.out)))
      refine bodyPost_ret (results26 rfl _ _ _ (dN 14) rfl rfl H5.out.boxR) rfl ?_
      exact ⟨rfl, hid H5.out.bel⟩
end Go.Proofs.Ythaecflakefklaa
