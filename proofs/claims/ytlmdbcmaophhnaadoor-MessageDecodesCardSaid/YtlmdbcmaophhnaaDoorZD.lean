import Derived.Test.YtlmdbcmaophhnaaDoorZC
namespace Go.Proofs.YtlmdbcmaophhnaaDoor
open Go.RowKit

theorem box_other {w : World} {g g' i : Nat} {t : TypeId} {cs : Array Value} (h : Box w g t cs) (hne : g ≠ g') (u : Value) : Box (w.setCell ⟨g', i, none⟩ u) g t cs :=
  h.same (Below.heap_setCell _ _ _ _ hne)
/-- The two boxes that the document's taking of a field lays first. -/
def Two (w w4 : World) (k : Int) : Prop := Below w.heap.size w w4 ∧ Box w4 w.heap.size 50 #[.int .i64 0, .int .u32 0, .slice none 0 0, .slice none 0 0] ∧ Box w4 (w.heap.size + 1) 50 #[.int .i64 k, .int .u32 0, .slice none 0 0, .slice none 0 0]
theorem two_lay (w : World) (k : Int) : Two w ((w.alloc (.cells #[.int .i64 0, .int .u32 0, .slice none 0 0, .slice none 0 0] 50)).alloc (.cells #[.int .i64 k, .int .u32 0, .slice none 0 0, .slice none 0 0] 50)) k := by
  refine ⟨((Below.refl _ _).alloc (Nat.le_refl _) _).alloc (by simp) _, box_below (Box.new w 50 _) ((Below.refl _ _).alloc (Nat.le_refl _) _), ?_⟩
  have := Box.new (w.alloc (.cells #[.int .i64 0, .int .u32 0, .slice none 0 0, .slice none 0 0] 50)) 50 #[.int .i64 k, .int .u32 0, .slice none 0 0, .slice none 0 0]
  simpa using this
theorem Two.later {w w4 w5 : World} {k : Int} (h : Two w w4 k) (hb : Below w4.heap.size w4 w5) : Two w w5 k :=
  ⟨h.1.trans (hb.mono h.1.size), box_below h.2.1 hb, box_below h.2.2 hb⟩
theorem two_four {w w4 : World} {k : Int} (h : Two w w4 k) (i : Nat) (u a b c d : Value) : Below w.heap.size w (((((w4.setCell ⟨w.heap.size + 1, i, none⟩ u).setCell ⟨w.heap.size, 0, none⟩ a).setCell ⟨w.heap.size, 1, none⟩ b).setCell ⟨w.heap.size, 2, none⟩ c).setCell ⟨w.heap.size, 3, none⟩ d) := by
  have k4 : Kept w.heap.size [] w w4 := by
    refine ⟨h.1.os, h.1.tape, h.1.output, h.1.size, fun b hb _ => h.1.block b hb⟩
  exact (((k4.new_ (p := ⟨w.heap.size + 1, i, none⟩) (Nat.le_succ _) u).four (Nat.le_refl _) a b c d).below (Nat.le_refl _))
theorem two_plain {w w4 : World} {k : Int} (h : Two w w4 k) (a b c d : Value) : Below w.heap.size w ((((w4.setCell ⟨w.heap.size, 0, none⟩ a).setCell ⟨w.heap.size, 1, none⟩ b).setCell ⟨w.heap.size, 2, none⟩ c).setCell ⟨w.heap.size, 3, none⟩ d) := by
  have k4 : Kept w.heap.size [] w w4 := by
    refine ⟨h.1.os, h.1.tape, h.1.output, h.1.size, fun b hb _ => h.1.block b hb⟩
  exact ((k4.four (Nat.le_refl _) a b c d).below (Nat.le_refl _))
theorem two_own {w w4 : World} {k : Int} (h : Two w w4 k) {base m : Nat} {e : TypeId} {size : Nat} {v : Value} {xs : List Value} (ho : w4.ownsRow base e size v m xs) (he : e ≠ 50) (i : Nat) (u a b c d : Value) :
    (((((w4.setCell ⟨w.heap.size + 1, i, none⟩ u).setCell ⟨w.heap.size, 0, none⟩ a).setCell ⟨w.heap.size, 1, none⟩ b).setCell ⟨w.heap.size, 2, none⟩ c).setCell ⟨w.heap.size, 3, none⟩ d).ownsRow base e size v m xs := by
  have ho5 := ((Kept.refl 0 [50] w4).store (i := i) h.2.2 (Nat.zero_le _) (by simp) u).own ho (by simpa using he)
  exact own_four ho5 (own_ne ho5 (box_other (i := i) h.2.1 (by omega) u) he) a b c d

set_option maxHeartbeats 2000000 in
set_option maxRecDepth 100000 in
theorem rtake6 (w : World) (A : Option Addr) (c : Nat) (left : List UInt8) (hb : Lies w w.heap.size A (bv left)) (hl : left.length ≤ 1000000) :
    Calls Tryd.prog 38 #[.int .i64 6, .slice A left.length c] w (TakeQ 6 left w) := by
  have hbo : ∀ o o2, Below w.heap.size w ((w.alloc o).alloc o2) := fun o o2 => ((Below.refl _ _).alloc (Nat.le_refl _) _).alloc (by simp) _
  have HBO := hid hbo
  have HB := hid hb
  clear hbo hb
  by_cases h1 : 33792 < left.length
  · have HE : Hid ((getF 6 left).1 = 6) := by show _ = _; simp [getF, restF, h1]
    have t1 : (33792 : Int) < left.length := by omega
    clear h1
    go_enter Tryd.func38, Tryd.ntmps38
    go_wp2
    refine bodyPost_ret (v := .tuple #[.agg #[.int .i64 6, .int .u32 0, .slice none 0 0, .slice none 0 0], .int .i64 0, .int .i64 6]) (by simp [results, Tryd.results38, go_sem]) rfl ?_
    exact takeQ_bad HE.out (by decide) 0 0 (HBO.out _ _)
  · have HE : Hid (getF 6 left = (0, ⟨0, 0, left, []⟩, [])) := by show _ = _; simp [getF, restF, h1]
    have t1 : decide ((33792 : Int) < left.length) = false := by simp; omega
    have h1' : left.length ≤ 33792 := by omega
    clear h1
    obtain ⟨i5, hi5, hz5, hz51, hz52⟩ := info_parts Tryd.info5
    have HT0 := hid (two_lay w 6)
    go_enter Tryd.func38, Tryd.ntmps38
    go_wp2_with (first
      | (at_builtin
         (
           refine wpList_app _ rfl (.tmp 39) (.tmp 40) 23 rfl w.heap.size 5 i5 _ 1 1 Tryd.underlying23 hi5 hz5 hz51 hz52 rfl (by decide) _ 0 0 [] rfl (lit_own (by simp; omega) (by simp)) w.heap.size A left.length c (bv left) rfl ?g1 ?g2 (bv_one _) ?g3 ?g4 ?g5 ?_
           case g1 => rw [bv_length, Nat.mul_one]
           case g2 => exact HB.out.below ((HBO.out _ _).alloc (by simp; omega) _)
           case g3 => unfold maxLen; omega
           case g4 => omega
           case g5 => simp; omega
           intro A8 c8 w4 ho8 hg8
           simp only [Nat.zero_add, List.nil_append] at ho8 ⊢
           have hT := HT0.out.later (lit_grown (by simp) hg8)
           have HO8 := hid ho8
           have HT4 := hid hT
           have g2 : w4.cell? ⟨w.heap.size + 1, 2, none⟩ = some (.slice none 0 0) := hT.2.2.cell 2
           have gf2 : w4.frozen? ⟨w.heap.size + 1, 2, none⟩ = false := hT.2.2.frozen 2
           have hx5 := hT.2.2.store 2 (.slice A8 left.length c8)
           have hr5 := box_other (i := 2) hT.2.1 (g' := w.heap.size + 1) (by omega) (.slice A8 left.length c8)
           have e0 : (w4.setCell ⟨w.heap.size + 1, 2, none⟩ (.slice A8 left.length c8)).cell? ⟨w.heap.size + 1, 0, none⟩ = some (.int .i64 6) := hx5.cell 0
           have e1 : (w4.setCell ⟨w.heap.size + 1, 2, none⟩ (.slice A8 left.length c8)).cell? ⟨w.heap.size + 1, 1, none⟩ = some (.int .u32 0) := hx5.cell 1
           have e2 : (w4.setCell ⟨w.heap.size + 1, 2, none⟩ (.slice A8 left.length c8)).cell? ⟨w.heap.size + 1, 2, none⟩ = some (.slice A8 left.length c8) := hx5.cell 2
           have e3 : (w4.setCell ⟨w.heap.size + 1, 2, none⟩ (.slice A8 left.length c8)).cell? ⟨w.heap.size + 1, 3, none⟩ = some (.slice none 0 0) := hx5.cell 3
           have d0 : (w4.setCell ⟨w.heap.size + 1, 2, none⟩ (.slice A8 left.length c8)).cell? ⟨w.heap.size, 0, none⟩ = some (.int .i64 0) := hr5.cell 0
           have d1 : (w4.setCell ⟨w.heap.size + 1, 2, none⟩ (.slice A8 left.length c8)).cell? ⟨w.heap.size, 1, none⟩ = some (.int .u32 0) := hr5.cell 1
           have d2 : (w4.setCell ⟨w.heap.size + 1, 2, none⟩ (.slice A8 left.length c8)).cell? ⟨w.heap.size, 2, none⟩ = some (.slice none 0 0) := hr5.cell 2
           have d3 : (w4.setCell ⟨w.heap.size + 1, 2, none⟩ (.slice A8 left.length c8)).cell? ⟨w.heap.size, 3, none⟩ = some (.slice none 0 0) := hr5.cell 3
           have f0 : (w4.setCell ⟨w.heap.size + 1, 2, none⟩ (.slice A8 left.length c8)).frozen? ⟨w.heap.size, 0, none⟩ = false := hr5.frozen 0
           have f1 : (w4.setCell ⟨w.heap.size + 1, 2, none⟩ (.slice A8 left.length c8)).frozen? ⟨w.heap.size, 1, none⟩ = false := hr5.frozen 1
           have f2 : (w4.setCell ⟨w.heap.size + 1, 2, none⟩ (.slice A8 left.length c8)).frozen? ⟨w.heap.size, 2, none⟩ = false := hr5.frozen 2
           have f3 : (w4.setCell ⟨w.heap.size + 1, 2, none⟩ (.slice A8 left.length c8)).frozen? ⟨w.heap.size, 3, none⟩ = false := hr5.frozen 3
           have hblt := hr5.lt
           clear hx5 hr5
           clear ho8 hg8 hT)))
    refine bodyPost_ret (v := .tuple #[.agg #[.int .i64 6, .int .u32 0, .slice A8 left.length c8, .slice none 0 0], .int .i64 left.length, .int .i64 0]) (by simp [results, Tryd.results38, go_sem, d0, d1, d2, d3, hblt]) rfl ?_
    refine ⟨⟨6, 0, left, []⟩, left.length, A8, none, c8, 0, ?_, two_four HT4.out _ _ _ _ _ _, fun _ => ⟨?_, Nat.le_refl _, ?_, two_own HT4.out HO8.out (by decide) _ _ _ _ _ _, World.ownsRow_nil _ _ _ _⟩⟩
    · rw [HE.out]; rfl
    · rw [HE.out]
    · rw [HE.out]; simp

set_option maxHeartbeats 2000000 in
set_option maxRecDepth 100000 in
theorem rtake3 (w : World) (A : Option Addr) (c : Nat) (left : List UInt8) (hb : Lies w w.heap.size A (bv left)) (hl : left.length ≤ 1000000) :
    Calls Tryd.prog 38 #[.int .i64 3, .slice A left.length c] w (TakeQ 3 left w) := by
  have hbo : ∀ o o2, Below w.heap.size w ((w.alloc o).alloc o2) := fun o o2 => ((Below.refl _ _).alloc (Nat.le_refl _) _).alloc (by simp) _
  have HBO := hid hbo
  have HB := hid hb
  clear hbo hb
  by_cases h1 : left.length < 4
  · have HE : Hid ((getF 3 left).1 = 3) := by show _ = _; simp [getF, u32F, h1]
    have t1 : (left.length : Int) < 4 := by omega
    clear h1
    go_enter Tryd.func38, Tryd.ntmps38
    go_wp2
    refine bodyPost_ret (v := .tuple #[.agg #[.int .i64 3, .int .u32 0, .slice none 0 0, .slice none 0 0], .int .i64 0, .int .i64 3]) (by simp [results, Tryd.results38, go_sem]) rfl ?_
    exact takeQ_bad HE.out (by decide) 0 0 (HBO.out _ _)
  · have HE : Hid (getF 3 left = (0, ⟨0, num4 left, [], []⟩, left.drop 4)) := by show _ = _; simp [getF, u32F, h1]
    have t1 : decide ((left.length : Int) < 4) = false := by simp; omega
    have h1' : 4 ≤ left.length := by omega
    clear h1
    have HT0 := hid (two_lay w 3)
    go_enter Tryd.func38, Tryd.ntmps38
    go_wp2_with (first
      | (go_at_call 64
         ((with_reducible refine (number_r _ w.heap.size A c left (HB.out.below (HBO.out _ _)) h1' hl).mono ?_); rintro e w4 ⟨rfl, d, hW⟩)
         have hT := HT0.out.later (w5 := w4) (by rw [hW]; exact bel_drewN (Below.refl _ _) d)
         have HT4 := hid hT
         obtain ⟨n, HN⟩ : ∃ n, Hid (num4 left = n) := ⟨_, hid rfl⟩
         rw [HN.out]
         have g1 : w4.cell? ⟨w.heap.size + 1, 1, none⟩ = some (.int .u32 0) := hT.2.2.cell 1
         have gf1 : w4.frozen? ⟨w.heap.size + 1, 1, none⟩ = false := hT.2.2.frozen 1
         have hx5 := hT.2.2.store 1 (.int .u32 n)
         have hr5 := box_other (i := 1) hT.2.1 (g' := w.heap.size + 1) (by omega) (.int .u32 n)
         have e0 : (w4.setCell ⟨w.heap.size + 1, 1, none⟩ (.int .u32 n)).cell? ⟨w.heap.size + 1, 0, none⟩ = some (.int .i64 3) := hx5.cell 0
         have e1 : (w4.setCell ⟨w.heap.size + 1, 1, none⟩ (.int .u32 n)).cell? ⟨w.heap.size + 1, 1, none⟩ = some (.int .u32 n) := hx5.cell 1
         have e2 : (w4.setCell ⟨w.heap.size + 1, 1, none⟩ (.int .u32 n)).cell? ⟨w.heap.size + 1, 2, none⟩ = some (.slice none 0 0) := hx5.cell 2
         have e3 : (w4.setCell ⟨w.heap.size + 1, 1, none⟩ (.int .u32 n)).cell? ⟨w.heap.size + 1, 3, none⟩ = some (.slice none 0 0) := hx5.cell 3
         have d0 : (w4.setCell ⟨w.heap.size + 1, 1, none⟩ (.int .u32 n)).cell? ⟨w.heap.size, 0, none⟩ = some (.int .i64 0) := hr5.cell 0
         have d1 : (w4.setCell ⟨w.heap.size + 1, 1, none⟩ (.int .u32 n)).cell? ⟨w.heap.size, 1, none⟩ = some (.int .u32 0) := hr5.cell 1
         have d2 : (w4.setCell ⟨w.heap.size + 1, 1, none⟩ (.int .u32 n)).cell? ⟨w.heap.size, 2, none⟩ = some (.slice none 0 0) := hr5.cell 2
         have d3 : (w4.setCell ⟨w.heap.size + 1, 1, none⟩ (.int .u32 n)).cell? ⟨w.heap.size, 3, none⟩ = some (.slice none 0 0) := hr5.cell 3
         have f0 : (w4.setCell ⟨w.heap.size + 1, 1, none⟩ (.int .u32 n)).frozen? ⟨w.heap.size, 0, none⟩ = false := hr5.frozen 0
         have f1 : (w4.setCell ⟨w.heap.size + 1, 1, none⟩ (.int .u32 n)).frozen? ⟨w.heap.size, 1, none⟩ = false := hr5.frozen 1
         have f2 : (w4.setCell ⟨w.heap.size + 1, 1, none⟩ (.int .u32 n)).frozen? ⟨w.heap.size, 2, none⟩ = false := hr5.frozen 2
         have f3 : (w4.setCell ⟨w.heap.size + 1, 1, none⟩ (.int .u32 n)).frozen? ⟨w.heap.size, 3, none⟩ = false := hr5.frozen 3
         have hblt := hr5.lt
         clear hx5 hr5
         clear hW hT))
    refine bodyPost_ret (v := .tuple #[.agg #[.int .i64 3, .int .u32 n, .slice none 0 0, .slice none 0 0], .int .i64 4, .int .i64 0]) (by simp [results, Tryd.results38, go_sem, d0, d1, d2, d3, hblt]) rfl ?_
    refine ⟨⟨3, n, [], []⟩, 4, none, none, 0, 0, ?_, two_four HT4.out _ _ _ _ _ _, fun _ => ⟨?_, h1', ?_, World.ownsRow_nil _ _ _ _, World.ownsRow_nil _ _ _ _⟩⟩
    · rw [HE.out]; rfl
    · rw [HE.out, HN.out]
    · rw [HE.out]

end Go.Proofs.YtlmdbcmaophhnaaDoor
