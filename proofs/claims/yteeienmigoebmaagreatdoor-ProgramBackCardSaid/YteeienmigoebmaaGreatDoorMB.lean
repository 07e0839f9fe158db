import Derived.RangeFuncNested
import Derived.RangeFuncBound
import Derived.RangeFuncCalls
import Derived.RangeFuncLeaves
import Derived.RangeFuncBox
import Derived.Shelf.Abstract
import Derived.Shelf.RegionOpen
import Derived.WalkKit
import Derived.OwnWalkIn
import Derived.TacticsInMore
import Derived.LoopNIn
import Derived.LoopIn
import Derived.Maps.AppendAt
import Derived.Test.YteeienmigoebmaaGreatDoorMA
namespace Go.Proofs.YteeienmigoebmaaGreatDoor
open Go.RowKit Go.Shelf
attribute [local go_sem] Oper.semAt_some

/-- What a round keeps: the blocks of the iterator's own variable. -/
def Span (W W' : World) : Prop := ∀ (b : Nat) (cs : Array Value), W.heap[b]? = some (.cells cs 120 (0, 0)) → W'.heap[b]? = some (.cells cs 120 (0, 0))
theorem span_t {A B C : World} (h : Span A B) (k : Span B C) : Span A C := fun b cs hb => k b cs (h b cs hb)
theorem span_b {w : World} (W : World) (l : Nat) (o o' : Obj) (_ : w.heap.size ≤ l) (h : W.heap[l]? = some o) (hc : o.isCells = false) (_ : o.isWalk = false) : Span W (W.putObj l o') := fun b cs hb => by
  have : b ≠ l := by
    rintro rfl
    rw [h] at hb
    injection hb with hb
    subst hb
    cases hc
  rw [World.putObj_heap_other this]
  exact hb
theorem span_refl (W : World) : Span W W := fun _ _ h => h
theorem span_below {W W' : World} (h : Below W.heap.size W W') : Span W W' := fun b _cs hb => (h.block b (Array.getElem?_eq_some_iff.1 hb).1).trans hb
theorem run_part_agg {P : Program} (w : World) (e : TypeId) (d : TypeDesc) (sz : Nat) (cs : Array Value) (off : Nat) (hu : P.underlying e = some d) (hd : (match d with | .struct _ | .array _ _ => true | _ => false) = true) (hi : (P.info? e).map (·.size) = some sz) :
    (part e cs off).run P w = .ok (.agg (cs.extract off (off + sz))) w := by
  cases hq : P.info? e with
  | none => simp [hq] at hi
  | some i =>
    have hs : i.size = sz := by simpa [hq] using hi
    have hagg : (isAgg e).run P w = .ok true w := by
      unfold isAgg
      rw [Sem.run_bind, run_underlying hu w]
      cases d <;> simp_all
    simp [part, Sem.run_bind, hagg, sizeOf, typeInfo, hq, hs]
theorem run_index_agg {P : Program} (w : World) (t e : TypeId) (len : Nat) (d : TypeDesc) (sz : Nat) (cs : Array Value) (k : IntKind) (i : Nat) (ht : P.underlying t = some (.array len e)) (hu : P.underlying e = some d) (hd : (match d with | .struct _ | .array _ _ => true | _ => false) = true) (hi : (P.info? e).map (·.size) = some sz) (hlt : i < len) :
    (Instr.index t (.agg cs) (.int k (i : Int))).run P w = .ok (.agg (cs.extract (i * sz) (i * sz + sz))) w := by
  have hsz : (sizeOf e).run P w = .ok sz w := by
    cases hq : P.info? e with
    | none => simp [hq] at hi
    | some i0 => simp [sizeOf, typeInfo, hq] at hi ⊢; exact hi
  have h2 : ((i : Int) < len) := by omega
  simp [Instr.index, asIntOf, run_underlying ht, hsz, run_part_agg w e d sz cs _ hu hd hi]
  intro h
  omega
theorem Tryz.size52 : (Tryz.prog.info? 120).map (·.size) = some 2 := by kernel_rfl
theorem span_kept {W W' : World} {B : Nat} {T : List TypeId} (h : Kept B T W W') (hT : 120 ∉ T) : Span W W' := fun _b _cs hb => h.box (t := 120) hb hT

abbrev Fl := { x : Int // flagB x = true }
/-- The flags, each with the proof that it is one. -/
def flagsF : List Fl := flagsL.pmap Subtype.mk fun x hx => (mem_flags x).1 hx
theorem flagsF_len : flagsF.length = 36 := by simp [flagsF, flagsL]
theorem flagsF_val : flagsF.map (·.1) = flagsL := by simp [flagsF, List.map_pmap]
theorem flagsF_at {m : Nat} {x : Int} (h : flagsL[m]? = some x) (hx : flagB x = true) : flagsF[m]? = some ⟨x, hx⟩ := by simp [flagsF, List.getElem?_pmap, h]
theorem flags_at_flag {m : Nat} {x : Int} (h : flagsL[m]? = some x) : flagB x = true := (mem_flags x).1 (List.mem_of_getElem? h)
theorem flags_take (m : Nat) (x : Fl) (h : flagsF[m]? = some x) : flagsF.take m ++ [x] = flagsF.take (m + 1) := by
  rw [List.take_add_one, h]
  rfl
theorem flags_pre (m : Nat) : flagsF.take m <+: flagsF := List.take_prefix m flagsF
theorem flags_at0 (j : Nat) (h : j < 13) : flagsL[0 + j]? = some (30 + (j : Int)) := by
  have : ∀ k : Fin 13, flagsL[0 + k.1]? = some (30 + (k.1 : Int)) := by decide
  exact this ⟨j, h⟩
theorem flags_at1 (j : Nat) (h : j < 13) : flagsL[13 + j]? = some (50 + (j : Int)) := by
  have : ∀ k : Fin 13, flagsL[13 + k.1]? = some (50 + (k.1 : Int)) := by decide
  exact this ⟨j, h⟩
theorem flags_at2 (j : Nat) (h : j < 6) : flagsL[26 + j]? = some (70 + (j : Int)) := by
  have : ∀ k : Fin 6, flagsL[26 + k.1]? = some (70 + (k.1 : Int)) := by decide
  exact this ⟨j, h⟩
theorem flags_at3 (j : Nat) (h : j < 4) : flagsL[32 + j]? = some (90 + (j : Int)) := by
  have : ∀ k : Fin 4, flagsL[32 + k.1]? = some (90 + (k.1 : Int)) := by decide
  exact this ⟨j, h⟩

set_option maxRecDepth 100000 in
set_option maxHeartbeats 4000000 in
/-- The iterator yields the flags, in order. -/
theorem flags_stops (F : Fence) (n : Nat) (h39 : F.fn 112) (hro : F.round = none) (hn : 1 ≤ n) (w : World) :
    SeqStopsK F n Tryz.prog 112 #[] (fun x : Fl => #[Value.int .i64 x.1]) Span (fun ys => ys = flagsF) (fun pre => pre <+: flagsF) 36 w := fun l J Jx W _ hJ _ hY h0 => by
  refine callsIn_of_wp Tryz.func112 rfl h39 ?_ hro
  simp only [Tryz.ntmps112, List.size_toArray, List.length_cons, List.length_nil, Nat.reduceAdd, Nat.reduceSub, Array.replicate_succ, Array.replicate_zero, List.push_toArray, List.append_toArray, List.nil_append, List.cons_append]
  gi_wp2
  gi_loopw [10] (fun i wr => ∃ k : Nat, k ≤ 4 ∧ i = .int .i64 k ∧ J (flagsF.take ([0, 13, 26, 32, 36].getD k 0)) wr) (fun i _ => 4 - (intOf i).toNat)
  case atStart => exact ⟨0, by omega, rfl, h0⟩
  case round =>
    obtain ⟨k, hk, rfl, hJs⟩ := hrel
    by_cases hlt : k < 4
    · rcases (by omega : k = 0 ∨ k = 1 ∨ k = 2 ∨ k = 3) with h | h | h | h
      · have hJ0 : J (flagsF.take 0) wr := by rw [h] at hJs; exact hJs
        have hkc : (k : Int) = 0 := by omega
        rw [hkc]
        clear hJs hkc h hk hlt
        have hix : ∀ W : World, (Instr.index 172 (.agg #[.int .i64 30, .int .i64 42, .int .i64 50, .int .i64 62, .int .i64 70, .int .i64 75, .int .i64 90, .int .i64 93]) (.int .i64 0)).run Tryz.prog W = .ok (.agg #[.int .i64 30, .int .i64 42]) W := fun W => run_index_agg W 172 120 4 _ 2 _ .i64 0 Tryz.underlying172 Tryz.underlying120 rfl Tryz.size52 (by decide)
        gi_wp2
        have hB0 : (wr.alloc (.cells #[.int .i64 30, .int .i64 42] 120)).heap[wr.heap.size]? = some (.cells #[.int .i64 30, .int .i64 42] 120 (0, 0)) := heap_alloc_new _ _
        obtain ⟨p, hp⟩ : ∃ p, p = wr.heap.size := ⟨_, rfl⟩
        rw [← hp] at hB0 ⊢
        have hJ1 : J (flagsF.take 0) (wr.alloc (.cells #[.int .i64 30, .int .i64 42] 120)) := hJ _ _ _ none hJ0 (World.grownBy_alloc wr _ none) (by simp)
        generalize wr.alloc (.cells #[.int .i64 30, .int .i64 42] 120) = w1 at hB0 hJ1 ⊢
        clear hp hJ0
        gi_loopw [4] (fun o wr2 => ∃ j : Nat, j ≤ 13 ∧ o = .int .i64 (30 + (j : Int)) ∧ J (flagsF.take (0 + j)) wr2 ∧ wr2.heap[p]? = some (.cells #[.int .i64 30, .int .i64 42] 120 (0, 0))) (fun o _ => 43 - (intOf o).toNat)
        case atStart => exact ⟨0, by omega, rfl, hJ1, hB0⟩
        case round =>
          clear hJ1 hB0
          obtain ⟨j, hj, rfl, hJ2, hB2⟩ := hrel
          have c1 : wr.cell? ⟨p, 1, none⟩ = some (.int .i64 42) := cell_of_row _ _ 1 _ _ _ hB2
          by_cases hjl : j < 13
          · obtain ⟨fn, tmps, assign, body, hy, hR⟩ := hY (flagsF.take (0 + j)) ⟨30 + (j : Int), flags_at_flag (flags_at0 j hjl)⟩ wr hJ2 (by rw [List.length_take, flagsF_len]; omega)
            dsimp only at hy
            gi_wp2
            refine hR.mono ?_
            rintro e W3 (⟨rfl, hJ3, hk3⟩ | ⟨rfl, hJx3⟩)
            · rw [flags_take _ _ (flagsF_at (flags_at0 j hjl) _)] at hJ3
              have hB3 := hk3 _ _ hB2
              gi_wp2
              go_roundw
              case rel => exact ⟨j + 1, by omega, by go_num, hJ3, hB3⟩
              case measure => simp [intOf]; omega
            · gi_wp2
              refine bodyPost_ret (results_none rfl _ _ _) rfl ?_
              rw [flags_take _ _ (flagsF_at (flags_at0 j hjl) _)] at hJx3
              exact ⟨⟨_, rfl⟩, .inr ⟨_, flags_pre _, hJx3⟩⟩
          · obtain rfl : j = 13 := by omega
            gi_wp2
            go_roundw
            case rel => exact ⟨1, by omega, by go_num, hJ2⟩
            case measure => simp [intOf]
      · have hJ0 : J (flagsF.take 13) wr := by rw [h] at hJs; exact hJs
        have hkc : (k : Int) = 1 := by omega
        rw [hkc]
        clear hJs hkc h hk hlt
        have hix : ∀ W : World, (Instr.index 172 (.agg #[.int .i64 30, .int .i64 42, .int .i64 50, .int .i64 62, .int .i64 70, .int .i64 75, .int .i64 90, .int .i64 93]) (.int .i64 1)).run Tryz.prog W = .ok (.agg #[.int .i64 50, .int .i64 62]) W := fun W => run_index_agg W 172 120 4 _ 2 _ .i64 1 Tryz.underlying172 Tryz.underlying120 rfl Tryz.size52 (by decide)
        gi_wp2
        have hB0 : (wr.alloc (.cells #[.int .i64 50, .int .i64 62] 120)).heap[wr.heap.size]? = some (.cells #[.int .i64 50, .int .i64 62] 120 (0, 0)) := heap_alloc_new _ _
        obtain ⟨p, hp⟩ : ∃ p, p = wr.heap.size := ⟨_, rfl⟩
        rw [← hp] at hB0 ⊢
        have hJ1 : J (flagsF.take 13) (wr.alloc (.cells #[.int .i64 50, .int .i64 62] 120)) := hJ _ _ _ none hJ0 (World.grownBy_alloc wr _ none) (by simp)
        generalize wr.alloc (.cells #[.int .i64 50, .int .i64 62] 120) = w1 at hB0 hJ1 ⊢
        clear hp hJ0
        gi_loopw [4] (fun o wr2 => ∃ j : Nat, j ≤ 13 ∧ o = .int .i64 (50 + (j : Int)) ∧ J (flagsF.take (13 + j)) wr2 ∧ wr2.heap[p]? = some (.cells #[.int .i64 50, .int .i64 62] 120 (0, 0))) (fun o _ => 63 - (intOf o).toNat)
        case atStart => exact ⟨0, by omega, rfl, hJ1, hB0⟩
        case round =>
          clear hJ1 hB0
          obtain ⟨j, hj, rfl, hJ2, hB2⟩ := hrel
          have c1 : wr.cell? ⟨p, 1, none⟩ = some (.int .i64 62) := cell_of_row _ _ 1 _ _ _ hB2
          by_cases hjl : j < 13
          · obtain ⟨fn, tmps, assign, body, hy, hR⟩ := hY (flagsF.take (13 + j)) ⟨50 + (j : Int), flags_at_flag (flags_at1 j hjl)⟩ wr hJ2 (by rw [List.length_take, flagsF_len]; omega)
            dsimp only at hy
            gi_wp2
            refine hR.mono ?_
            rintro e W3 (⟨rfl, hJ3, hk3⟩ | ⟨rfl, hJx3⟩)
            · rw [flags_take _ _ (flagsF_at (flags_at1 j hjl) _)] at hJ3
              have hB3 := hk3 _ _ hB2
              gi_wp2
              go_roundw
              case rel => exact ⟨j + 1, by omega, by go_num, hJ3, hB3⟩
              case measure => simp [intOf]; omega
            · gi_wp2
              refine bodyPost_ret (results_none rfl _ _ _) rfl ?_
              rw [flags_take _ _ (flagsF_at (flags_at1 j hjl) _)] at hJx3
              exact ⟨⟨_, rfl⟩, .inr ⟨_, flags_pre _, hJx3⟩⟩
          · obtain rfl : j = 13 := by omega
            gi_wp2
            go_roundw
            case rel => exact ⟨2, by omega, by go_num, hJ2⟩
            case measure => simp [intOf]
      · have hJ0 : J (flagsF.take 26) wr := by rw [h] at hJs; exact hJs
        have hkc : (k : Int) = 2 := by omega
        rw [hkc]
        clear hJs hkc h hk hlt
        have hix : ∀ W : World, (Instr.index 172 (.agg #[.int .i64 30, .int .i64 42, .int .i64 50, .int .i64 62, .int .i64 70, .int .i64 75, .int .i64 90, .int .i64 93]) (.int .i64 2)).run Tryz.prog W = .ok (.agg #[.int .i64 70, .int .i64 75]) W := fun W => run_index_agg W 172 120 4 _ 2 _ .i64 2 Tryz.underlying172 Tryz.underlying120 rfl Tryz.size52 (by decide)
        gi_wp2
        have hB0 : (wr.alloc (.cells #[.int .i64 70, .int .i64 75] 120)).heap[wr.heap.size]? = some (.cells #[.int .i64 70, .int .i64 75] 120 (0, 0)) := heap_alloc_new _ _
        obtain ⟨p, hp⟩ : ∃ p, p = wr.heap.size := ⟨_, rfl⟩
        rw [← hp] at hB0 ⊢
        have hJ1 : J (flagsF.take 26) (wr.alloc (.cells #[.int .i64 70, .int .i64 75] 120)) := hJ _ _ _ none hJ0 (World.grownBy_alloc wr _ none) (by simp)
        generalize wr.alloc (.cells #[.int .i64 70, .int .i64 75] 120) = w1 at hB0 hJ1 ⊢
        clear hp hJ0
        gi_loopw [4] (fun o wr2 => ∃ j : Nat, j ≤ 6 ∧ o = .int .i64 (70 + (j : Int)) ∧ J (flagsF.take (26 + j)) wr2 ∧ wr2.heap[p]? = some (.cells #[.int .i64 70, .int .i64 75] 120 (0, 0))) (fun o _ => 76 - (intOf o).toNat)
        case atStart => exact ⟨0, by omega, rfl, hJ1, hB0⟩
        case round =>
          clear hJ1 hB0
          obtain ⟨j, hj, rfl, hJ2, hB2⟩ := hrel
          have c1 : wr.cell? ⟨p, 1, none⟩ = some (.int .i64 75) := cell_of_row _ _ 1 _ _ _ hB2
          by_cases hjl : j < 6
          · obtain ⟨fn, tmps, assign, body, hy, hR⟩ := hY (flagsF.take (26 + j)) ⟨70 + (j : Int), flags_at_flag (flags_at2 j hjl)⟩ wr hJ2 (by rw [List.length_take, flagsF_len]; omega)
            dsimp only at hy
            gi_wp2
            refine hR.mono ?_
            rintro e W3 (⟨rfl, hJ3, hk3⟩ | ⟨rfl, hJx3⟩)
            · rw [flags_take _ _ (flagsF_at (flags_at2 j hjl) _)] at hJ3
              have hB3 := hk3 _ _ hB2
              gi_wp2
              go_roundw
              case rel => exact ⟨j + 1, by omega, by go_num, hJ3, hB3⟩
              case measure => simp [intOf]; omega
            · gi_wp2
              refine bodyPost_ret (results_none rfl _ _ _) rfl ?_
              rw [flags_take _ _ (flagsF_at (flags_at2 j hjl) _)] at hJx3
              exact ⟨⟨_, rfl⟩, .inr ⟨_, flags_pre _, hJx3⟩⟩
          · obtain rfl : j = 6 := by omega
            gi_wp2
            go_roundw
            case rel => exact ⟨3, by omega, by go_num, hJ2⟩
            case measure => simp [intOf]
      · have hJ0 : J (flagsF.take 32) wr := by rw [h] at hJs; exact hJs
        have hkc : (k : Int) = 3 := by omega
        rw [hkc]
        clear hJs hkc h hk hlt
        have hix : ∀ W : World, (Instr.index 172 (.agg #[.int .i64 30, .int .i64 42, .int .i64 50, .int .i64 62, .int .i64 70, .int .i64 75, .int .i64 90, .int .i64 93]) (.int .i64 3)).run Tryz.prog W = .ok (.agg #[.int .i64 90, .int .i64 93]) W := fun W => run_index_agg W 172 120 4 _ 2 _ .i64 3 Tryz.underlying172 Tryz.underlying120 rfl Tryz.size52 (by decide)
        gi_wp2
        have hB0 : (wr.alloc (.cells #[.int .i64 90, .int .i64 93] 120)).heap[wr.heap.size]? = some (.cells #[.int .i64 90, .int .i64 93] 120 (0, 0)) := heap_alloc_new _ _
        obtain ⟨p, hp⟩ : ∃ p, p = wr.heap.size := ⟨_, rfl⟩
        rw [← hp] at hB0 ⊢
        have hJ1 : J (flagsF.take 32) (wr.alloc (.cells #[.int .i64 90, .int .i64 93] 120)) := hJ _ _ _ none hJ0 (World.grownBy_alloc wr _ none) (by simp)
        generalize wr.alloc (.cells #[.int .i64 90, .int .i64 93] 120) = w1 at hB0 hJ1 ⊢
        clear hp hJ0
        gi_loopw [4] (fun o wr2 => ∃ j : Nat, j ≤ 4 ∧ o = .int .i64 (90 + (j : Int)) ∧ J (flagsF.take (32 + j)) wr2 ∧ wr2.heap[p]? = some (.cells #[.int .i64 90, .int .i64 93] 120 (0, 0))) (fun o _ => 94 - (intOf o).toNat)
        case atStart => exact ⟨0, by omega, rfl, hJ1, hB0⟩
        case round =>
          clear hJ1 hB0
          obtain ⟨j, hj, rfl, hJ2, hB2⟩ := hrel
          have c1 : wr.cell? ⟨p, 1, none⟩ = some (.int .i64 93) := cell_of_row _ _ 1 _ _ _ hB2
          by_cases hjl : j < 4
          · obtain ⟨fn, tmps, assign, body, hy, hR⟩ := hY (flagsF.take (32 + j)) ⟨90 + (j : Int), flags_at_flag (flags_at3 j hjl)⟩ wr hJ2 (by rw [List.length_take, flagsF_len]; omega)
            dsimp only at hy
            gi_wp2
            refine hR.mono ?_
            rintro e W3 (⟨rfl, hJ3, hk3⟩ | ⟨rfl, hJx3⟩)
            · rw [flags_take _ _ (flagsF_at (flags_at3 j hjl) _)] at hJ3
              have hB3 := hk3 _ _ hB2
              gi_wp2
              go_roundw
              case rel => exact ⟨j + 1, by omega, by go_num, hJ3, hB3⟩
              case measure => simp [intOf]; omega
            · gi_wp2
              refine bodyPost_ret (results_none rfl _ _ _) rfl ?_
              rw [flags_take _ _ (flagsF_at (flags_at3 j hjl) _)] at hJx3
              exact ⟨⟨_, rfl⟩, .inr ⟨_, flags_pre _, hJx3⟩⟩
          · obtain rfl : j = 4 := by omega
            gi_wp2
            go_roundw
            case rel => exact ⟨4, by omega, by go_num, hJ2⟩
            case measure => simp [intOf]
    · obtain rfl : k = 4 := by omega
      gi_wp2
      go_end0
      exact ⟨⟨_, rfl⟩, .inl ⟨_, rfl, hJs⟩⟩
end Go.Proofs.YteeienmigoebmaaGreatDoor
