import Derived.Test.YtggcampdkgfmgaaGreatJB
import Derived.Test.YtggcampdkgfmgaaGreatJL
namespace Go.Proofs.YtggcampdkgfmgaaGreat
open Go.RowKit Go.Shelf
attribute [local go_sem] Oper.semAt_some

/-! Layer 16: whether a setting is right (layer 8). -/
def vals (l : List Fl) : List Int := l.map (·.1)
theorem vals_snoc (l : List Fl) (x : Fl) : vals (l ++ [x]) = vals l ++ [x.1] := by simp [vals]
theorem vals_flags (l : List Fl) : ∀ y ∈ vals l, flagB y = true := fun y hy => by obtain ⟨z, _, rfl⟩ := List.mem_map.1 hy; exact z.2
theorem or_bits (l : List Fl) (x : Fl) : bits .or .u64 ((maskL (vals l) : Nat) : Int) (bitV x.1) = ((maskL (vals (l ++ [x])) : Nat) : Int) := by
  unfold bitV
  rw [u64_or_nat _ _ (maskL_lt _ (vals_flags l)) (pow_lt (kb_lt x.2)), vals_snoc, maskL_snoc]

set_option maxRecDepth 100000 in
set_option maxHeartbeats 2000000 in
theorem flagBits_in (w : World) :
    CallsIn Fence.wide 3 Tryz.prog 141 #[] w fun e W' => e = .returned (.int .u64 (mask : Nat)) ∧ Below w.heap.size w W' := by
  have h32 : Fence.wide.fn 141 := trivial
  have h39 : Fence.wide.fn 96 := trivial
  have hro : Fence.wide.round = none := rfl
  have h1 : 1 ≤ 3 := by omega
  refine callsIn_of_wp_marks Tryz.func141 rfl h32 ?_ hro
  simp only [Tryz.ntmps141, List.size_toArray, List.length_nil, Nat.reduceSub, Array.replicate_succ, Array.replicate_zero, List.push_toArray, List.append_toArray, List.nil_append, List.cons_append]
  gi_wp2
  refine wpIn_rangeFunc_ownF hro h1 (gf := 96) (lb := #[]) rfl h39 (enters_of Tryz.func96 (by kernel_rfl) rfl)
    (flags_stops Fence.wide 2 h39 hro (by omega) _) span_t span_b (Below.refl _ _) (fun _ => rfl)
    (fun pre W => Boxed W w.heap.size 23 (.int .u64 ((maskL (vals pre) : Nat) : Int)) ∧ Below w.heap.size w W)
    (fun _ _ _ => False)
    (OwnFrom.and (Own.from (fun s A B row hs hg hr => hs.kept hg (fun e => by obtain ⟨o, ho, hc⟩ := hr _ e.symm; rw [show A.heap[w.heap.size]? = _ from hs] at ho; cases ho; cases hc)) _) (ownFrom_below (Nat.le_refl _) (by simp)))
    (fun _ _ _ _ _ hs _ _ => hs)
    ⟨Boxed.new _ _ _, (Below.refl _ w).alloc (Nat.le_refl _) _⟩
    (fun x => { tmps := #[.int .u64 0, .pointer (some ⟨w.heap.size, 0, none⟩), .int .i64 x.1, .int .i64 x.1, undef, undef, undef, undef, undef], defers := [] }) ?assign ?body ?done ?stop
  case assign =>
    intro l x W K hK
    gi_wp2
    exact hK
  case body =>
    rintro l pre x W ⟨hx, hB⟩ _
    have hc := hx.cell
    have hf := hx.frozen
    have ho := or_bits pre x
    have hmx : Tryz.prog.follows .mixedOrders = true := by kernel_rfl
    have fin : ∀ u, u = Value.int .u64 ((maskL (vals (pre ++ [x])) : Nat) : Int) → ownPostK Span (fun pre W => Boxed W w.heap.size 23 (.int .u64 ((maskL (vals pre) : Nat) : Int)) ∧ Below w.heap.size w W) (fun (_ : Code) (_ : List Fl) (_ : World) => False) (pre ++ [x]) W .normal { tmps := #[], defers := [] } (W.setCell ⟨w.heap.size, 0, none⟩ u).drew := by
      rintro u rfl
      refine ⟨(KeepsOthers.setCell _ _ _).trans (KeepsOthers.drew _), fun b cs hb => ?_, hx.set _, (hB.setCell (p := ⟨w.heap.size, 0, none⟩) (Nat.le_refl _) _).drew⟩
      have hne : b ≠ w.heap.size := by
        rintro rfl
        rw [show W.heap[w.heap.size]? = _ from hx] at hb
        injection hb with hb
        injection hb with _ hb
        cases hb
      show (W.setCell ⟨w.heap.size, 0, none⟩ _).heap[b]? = _
      rw [heap_setCell_other _ _ _ _ hne]
      exact hb
    gi_wp2
    gi_region_with_o (first | (gi_at_call 57; refine (CallsIn.inRound l (callsIn_wide.2 (bit_any _ x.1 x.2))).mono ?_; rintro e w' ⟨rfl, rfl⟩) | (refine ⟨trivial, ?_⟩; gi_at_call 57; refine (CallsIn.inRound l (callsIn_wide.2 (bit_any _ x.1 x.2))).mono ?_; rintro e w' ⟨rfl, rfl⟩))
    all_goals gi_wp2
    all_goals exact fin _ (by simp)
  case done =>
    rintro D ys W hD rfl ⟨hx, hB⟩ hK
    have hc := hx.cell
    gi_wp2
    refine ⟨by simp, .inl ⟨_, _, rfl, run_takeDeferred hK, ?_⟩⟩
    refine ⟨_, results_tmp rfl _ _ _, ?_, hB.trans (belowK_b (w := w) (Nat.le_refl _) W D _ _ (by simp at hD; omega) hK rfl rfl)⟩
    show Ending.returned (.int .u64 ((maskL (flagsF.map (·.1)) : Nat) : Int)) = _
    rw [flagsF_val]
    rfl
  case stop =>
    rintro D c pre W _ _ h _
    exact h.elim
theorem flagBits_any (w : World) : Calls Tryz.prog 141 #[] w fun e W' => e = .returned (.int .u64 (mask : Nat)) ∧ Hid (Below w.heap.size w W') := callsIn_wide.1 (flagBits_in w)
def fitsB (x : Int) : Bool := decide (0 ≤ x) && decide (x ≤ 255)
set_option maxRecDepth 100000 in
theorem fits_any (w : World) (n : Int) : Calls Tryz.prog 142 #[.int .i64 n] w fun e w' => e = .returned (.bool (fitsB n)) ∧ w' = w := by
  rcases (by omega : n < 0 ∨ (0 ≤ n ∧ n ≤ 255) ∨ 255 < n) with h | h | h
  all_goals
    go_enter Tryz.func142, Tryz.ntmps142
    go_wp2
    go_ret
    simp [fitsB]
    try omega
theorem q33 {u0 : World} {z : Gr u0} {n : Int} {b : Bool} (hg : fitsB n = b) : Calls Tryz.prog 142 #[.int .i64 n] (grw z) fun e w'' => e = .returned (.bool b) ∧ ∃ z' : Gr u0, w'' = grw z' := by
  subst hg
  exact gr_call0 (fits_any (grw z) n)
theorem q32 {u0 : World} {z : Gr u0} : Calls Tryz.prog 141 #[] (grw z) fun e w'' => e = .returned (.int .u64 (mask : Nat)) ∧ ∃ z' : Gr u0, w'' = grw z' := gr_call (flagBits_any (grw z))
def rightB (t : Tm) : Bool := decide (okF t.f) && decide (t.c.getD 0 0 = 0) && fitsB t.m && fitsB t.s
theorem okF_v {f : Nat} (hf : f < 18446744073709551616) : ((bits .andNot .u64 (f : Int) ((mask : Nat) : Int) == 0) : Bool) = decide (okF f) := by
  rw [u64_andNot_nat _ _ hf mask_lt]
  rw [show decide (okF f) = decide (f &&& (18446744073709551615 - mask) = 0) from decide_eq_decide.2 Iff.rfl]
  generalize f &&& (18446744073709551615 - mask) = z
  by_cases h : z = 0
  · subst h; rfl
  · simp [h]
theorem c0_v {t : Tm} (h : t.c.length = 19) : t.cs[0]? = some (.int .u8 ((t.c.getD 0 0).toNat : Int)) ∧ ((((t.c.getD 0 0).toNat : Int) == 0) : Bool) = decide (t.c.getD 0 0 = 0) := by
  constructor
  · have := cs_char h 0 (by omega)
    rw [this]
    simp [List.getD, h]
  · generalize t.c.getD 0 0 = x
    by_cases hx : x = 0
    · subst hx; rfl
    · have : x.toNat ≠ 0 := fun e => hx (UInt8.toNat_inj.1 (by simpa using e))
      simp [hx]
      exact this
set_option maxRecDepth 100000 in
set_option maxHeartbeats 4000000 in
theorem right_any (w : World) (t : Tm) (ht : t.Ok) : Calls Tryz.prog 107 #[.agg t.cs] w fun e w' => e = .returned (.bool (rightB t)) ∧ Hid (Below w.heap.size w w') := by
  have hs := cs_size ht.len
  have H1 : Hid (Below w.heap.size w (w.alloc (.cells t.cs 26))) := hid ((Below.refl _ w).alloc (Nat.le_refl _) _)
  have HB := Box.new w 26 t.cs
  have c19 : ∀ z : Gr (w.alloc (.cells t.cs 26)), (grw z).cell? ⟨w.heap.size, 19, none⟩ = some (.int .u64 (t.f : Int)) := fun z => gr_cell z ((HB.cell 19).trans (cs_f ht.len))
  have c0 : ∀ z : Gr (w.alloc (.cells t.cs 26)), (grw z).cell? ⟨w.heap.size, 0, none⟩ = some (.int .u8 ((t.c.getD 0 0).toNat : Int)) := fun z => gr_cell z ((HB.cell 0).trans (c0_v ht.len).1)
  have c22 : ∀ z : Gr (w.alloc (.cells t.cs 26)), (grw z).cell? ⟨w.heap.size, 22, none⟩ = some (.int .i64 t.m) := fun z => gr_cell z ((HB.cell 22).trans (cs_m ht.len))
  have c23 : ∀ z : Gr (w.alloc (.cells t.cs 26)), (grw z).cell? ⟨w.heap.size, 23, none⟩ = some (.int .i64 t.s) := fun z => gr_cell z ((HB.cell 23).trans (cs_s ht.len))
  clear HB
  have hA := okF_v ht.f
  have hC := (c0_v ht.len).2
  have hr : Hid (rightB t = (decide (okF t.f) && decide (t.c.getD 0 0 = 0) && fitsB t.m && fitsB t.s)) := hid rfl
  generalize decide (okF t.f) = A at hA hr
  generalize decide (t.c.getD 0 0 = 0) = C at hC hr
  generalize (t.c.getD 0 0).toNat = y at c0 hC
  cases hm : fitsB t.m <;> cases hq : fitsB t.s <;> cases A <;> cases C
  all_goals
    go_enter Tryz.func107, Tryz.ntmps107
    go_wp2_with (refine bx26 (by rfl) _ (by rfl) _ (by rfl) hs ?_; intro _)
    refine wp_region_grown (by kernel_rfl) (by kernel_rfl) ?_
    repeat (go_big_quiet_step (first | (go_at_call 141; with_reducible exact q32) | (go_at_call 142; with_reducible exact q33 hm) | (go_at_call 142; with_reducible exact q33 hq)))
    refine wpQuiet_nil ?_
    intro z
    go_wp2
    go_ret
    exact ⟨by rw [hr.out, hm, hq]; rfl, hid (H1.out.trans (z.b.mono H1.out.size))⟩
end Go.Proofs.YtggcampdkgfmgaaGreat
