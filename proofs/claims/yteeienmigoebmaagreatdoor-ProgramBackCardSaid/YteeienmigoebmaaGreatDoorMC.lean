import Derived.Test.YteeienmigoebmaaGreatDoorMB
namespace Go.Proofs.YteeienmigoebmaaGreatDoor
open Go.RowKit Go.Shelf
attribute [local go_sem] Oper.semAt_some

theorem cellNew (W : World) (v : Value) (t : TypeId) : (W.alloc (.cells #[v] t)).cell? ⟨W.heap.size, 0, none⟩ = some v ∧ (W.alloc (.cells #[v] t)).frozen? ⟨W.heap.size, 0, none⟩ = false :=
  ⟨(Boxed.new W t v).cell, (Boxed.new W t v).frozen⟩
theorem cellOld {W : World} {a : Addr} {v : Value} (o : Obj) (h : W.cell? a = some v) : (W.alloc o).cell? a = some v := cell_kept h (World.grownBy_alloc W o none) (fun r e => by cases e)

set_option maxRecDepth 100000 in
set_option maxHeartbeats 2000000 in
theorem isFlag_in (w : World) (op : Int) :
    CallsIn Fence.wide 3 Tryz.prog 96 #[.int .i64 op] w fun e W' => e = .returned (.bool (flagB op)) ∧ Below w.heap.size w W' := by
  have h28 : Fence.wide.fn 96 := trivial
  have h39 : Fence.wide.fn 112 := trivial
  have hro : Fence.wide.round = none := rfl
  have h1 : 1 ≤ 3 := by omega
  refine callsIn_of_wp_marks Tryz.func96 rfl h28 ?_ hro
  simp only [Tryz.ntmps96, List.size_toArray, List.length_cons, List.length_nil, Nat.reduceAdd, Nat.reduceSub, Array.replicate_succ, Array.replicate_zero, List.push_toArray, List.append_toArray, List.nil_append, List.cons_append]
  gi_wp2
  have c0 := cellNew w (.int .i64 op) 3
  have c1 := cellNew (w.alloc (.cells #[.int .i64 op] 3)) (.bool false) 4
  simp only [World.size_alloc] at c1
  have hB0 : Below w.heap.size w ((w.alloc (.cells #[.int .i64 op] 3)).alloc (.cells #[.bool false] 4)) := ((Below.refl _ w).alloc (Nat.le_refl _) _).alloc (by simp) _
  refine wpIn_rangeFunc_ownF hro h1 (gf := 112) (lb := #[]) rfl h39 (enters_of Tryz.func112 (by kernel_rfl) rfl)
    (flags_stops Fence.wide 2 h39 hro (by omega) _) span_t span_b (Below.refl _ _) (fun _ => rfl)
    (fun pre W => ((∀ y ∈ pre, y.1 ≠ op) ∧ W.cell? ⟨w.heap.size, 0, none⟩ = some (.int .i64 op) ∧ W.cell? ⟨w.heap.size + 1, 0, none⟩ = some (.bool false) ∧ W.frozen? ⟨w.heap.size + 1, 0, none⟩ = false) ∧ Below w.heap.size w W)
    (fun c pre W => (c = .ret ∧ op ∈ pre.map (·.1) ∧ W.cell? ⟨w.heap.size + 1, 0, none⟩ = some (.bool true)) ∧ Below w.heap.size w W)
    (OwnFrom.and (Own.from (fun s A B row hs hg hr => ⟨hs.1, cell_kept hs.2.1 hg hr, cell_kept hs.2.2.1 hg hr, (frozen_kept hs.2.2.1 hg hr).trans hs.2.2.2⟩) _) (ownFrom_below (Nat.le_refl _) (by simp; omega)))
    (fun c => OwnFrom.and (Own.from (fun s A B row hs hg hr => ⟨hs.1, hs.2.1, cell_kept hs.2.2 hg hr⟩) _) (ownFrom_below (Nat.le_refl _) (by simp; omega)))
    ⟨⟨by simp, cellOld _ c0.1, c1.1, c1.2⟩, hB0⟩
    (fun x => { tmps := #[.int .i64 op, .pointer (some ⟨w.heap.size, 0, none⟩), .pointer (some ⟨w.heap.size + 1, 0, none⟩), .int .i64 x.1, .int .i64 x.1, undef, undef, undef], defers := [] }) ?assign ?body ?done ?stop
  case assign =>
    intro l x W K hK
    gi_wp2
    exact hK
  case body =>
    rintro l pre x W ⟨⟨hp, hcw, hcr, hfr⟩, hB⟩ _
    gi_wp2
    · rename_i hx
      obtain rfl : x.1 = op := eq_of_beq hx
      exact ⟨KeepsOthers.setCell _ _ _, ⟨rfl, by simp, World.cell?_setCell_same' _ _ _ (by rw [hcr]; rfl)⟩, hB.setCell (p := ⟨w.heap.size + 1, 0, none⟩) (by simp) _⟩
    · rename_i hx
      exact ⟨KeepsOthers.refl _, span_refl _, ⟨fun y hy => (List.mem_append.1 hy).elim (hp y) (fun e e' => by simp at e; subst e; subst e'; simp at hx), hcw, hcr, hfr⟩, hB⟩
  case done =>
    rintro D ys W hD rfl ⟨⟨hne, _, hcr, hfr⟩, hB⟩ hK
    gi_wp2
    have hK' := (KeepsOthers.setCell W ⟨w.heap.size + 1, 0, none⟩ (.bool false)).same D _ hK rfl
    refine ⟨by simp, .inl ⟨_, _, rfl, run_takeDeferred hK', ?_⟩⟩
    have hc5 := cell_kept (World.cell?_setCell_same' W ⟨w.heap.size + 1, 0, none⟩ (.bool false) (by rw [hcr]; rfl)) (grownBy_putObj' _ D (.deferred none)) (fun r e => by cases e; exact ⟨_, hK', rfl⟩)
    have hno : flagB op = false := by
      cases hf : flagB op
      · rfl
      · exact absurd rfl (hne ⟨op, hf⟩ (by
          have h9 : op ∈ flagsF.map (·.1) := by rw [flagsF_val]; exact (mem_flags op).2 hf
          obtain ⟨y, hy, rfl⟩ := List.mem_map.1 h9
          exact hy))
    refine ⟨.bool false, ?_, by rw [hno], (hB.setCell (p := ⟨w.heap.size + 1, 0, none⟩) (by simp) _).trans (belowK_b (w := w) (Nat.le_refl _) _ D _ _ (by simp at hD; omega) hK' rfl rfl)⟩
    simp [results, go_sem, hc5]
  case stop =>
    rintro D c pre W hD hpre ⟨⟨rfl, hin, hcr⟩, hB⟩ hK
    gi_wp2
    refine ⟨by simp, .inl ⟨_, _, rfl, run_takeDeferred hK, ?_⟩⟩
    have hc5 := cell_kept hcr (grownBy_putObj' _ D (.deferred none)) (fun r e => by cases e; exact ⟨_, hK, rfl⟩)
    refine ⟨.bool true, ?_, by rw [(show flagB op = true from by obtain ⟨y, _, rfl⟩ := List.mem_map.1 hin; exact y.2)], hB.trans (belowK_b (w := w) (Nat.le_refl _) W D _ _ (by simp at hD; omega) hK rfl rfl)⟩
    simp [results, go_sem, hc5]
theorem isFlag_any (w : World) (op : Int) : Calls Tryz.prog 96 #[.int .i64 op] w fun e W' => e = .returned (.bool (flagB op)) ∧ Hid (Below w.heap.size w W') := callsIn_wide.1 (isFlag_in w op)

/-- A flag's bit, as a number. -/
def bitV (op : Int) : Int := ((2 ^ kb op : Nat) : Int)
theorem bitV_rng {op : Int} (h : flagB op = true) : 0 < bitV op ∧ bitV op < 18446744073709551616 := by
  have h1 := pow_lt (kb_lt h)
  have h2 : 0 < 2 ^ kb op := Nat.pos_of_ne_zero (by simp)
  unfold bitV
  omega
theorem wrap_bit {op : Int} (h : flagB op = true) : IntKind.u64.wrap ((2 : Int) ^ (op - 30).toNat) = bitV op := by
  have h1 := bitV_rng h
  have e : ((2 : Int) ^ (op - 30).toNat) = bitV op := by simp [bitV, kb]
  rw [e, IntKind.wrap_u64]
  generalize bitV op = z at h1 ⊢
  omega
set_option maxRecDepth 100000 in
set_option maxHeartbeats 1000000 in
/-- The program's bit: a shift. -/
theorem bit_any (w : World) (op : Int) (hg : flagB op = true) : Calls Tryz.prog 97 #[.int .i64 op] w fun e w' => e = .returned (.int .u64 (bitV op)) ∧ w' = w := by
  have hr := flag_rng hg
  obtain ⟨h1, h2⟩ := hr
  go_enter Tryz.func97, Tryz.ntmps97
  go_wp2
  go_ret
  rw [wrap_bit hg]
  exact ⟨rfl, rfl⟩
end Go.Proofs.YteeienmigoebmaaGreatDoor
