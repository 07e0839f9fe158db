import Derived.Test.YtjncahcigbdbgabLIC
namespace Go.Proofs.Ytjncahcigbdbgab
open Go.RowKit

theorem bx30 {ops : Array Oper} {rest : List Oper} {o : Oper} {a : Act} {w : World} {Q : Exit → Act → World → Prop} (hw : Region.wanted o (yielded ops a.tmps) = true) (x : Operand) (ho : o.op = .box 30 x) (c0 c1 : Value) (hx : a.eval x = .agg #[c0, c1])
    (h : Hid (Box (w.alloc (.cells #[c0, c1] 30)) w.heap.size 30 #[c0, c1]) → wpList Try.prog ops Q rest (a.put o.dst (.pointer (some ⟨w.heap.size, 0, none⟩))) (w.alloc (.cells #[c0, c1] 30))) : wpList Try.prog ops Q (o :: rest) a w :=
  BigFrame.wpList_want hw fun _ hK => by
    have hr : (Instr.box 30 (.agg #[c0, c1])).run Try.prog w = .ok (.pointer (some ⟨w.heap.size, 0, none⟩)) (w.alloc (.cells #[c0, c1] 30)) := by
      simp [Instr.box, newVar, newRow, Value.cells]
    unfold Oper.wp execOp
    simp only [ho, hx, Sem.run_bind, hr, Result.andThen_ok]
    exact hK _ _ (h (hid (Box.new w 30 _)))
/-- A variable of a line takes another one. -/
theorem two_st {u : World} {g B : Nat} {a b : Value} (h : Box u g 30 #[a, b]) (hB : B ≤ g) (v v2 : Value) : Box ((u.setCell ⟨g, 0, none⟩ v).setCell ⟨g, 1, none⟩ v2) g 30 #[v, v2] ∧ Kept B [30] u ((u.setCell ⟨g, 0, none⟩ v).setCell ⟨g, 1, none⟩ v2) := by
  have h1 := h.store 0 v
  have h2 := h1.store 1 v2
  exact ⟨by simpa using h2, ((Kept.refl B [30] u).store h hB (by simp) v).store h1 hB (by simp) v2⟩
theorem cut_fin {w u u5 : World} {g1 m q c5 c2 : Nat} {A5 A2 : Option Addr} {a b : Value} {bs bt : List UInt8} {v : Bool} (K0 : Hid (Below w.heap.size w u)) (b5 : Below u.heap.size u u5) (Z5 : Box u5 g1 30 #[a, b]) (hB : w.heap.size ≤ g1) (o5 : Hid (u5.ownsRow u.drew.heap.size 5 1 (.slice A5 m c5) m (bv bs))) (HS2 : Hid (SlB w w.heap.size A2 c2 bt)) :
    ∃ y, (u5.setCell ⟨g1, 0, none⟩ (.slice A2 q c2)).setCell ⟨g1, 1, none⟩ (.bool v) = y ∧ y.cell? ⟨g1, 0, none⟩ = some (.slice A2 q c2) ∧ y.cell? ⟨g1, 1, none⟩ = some (.bool v) ∧ Hid (y.ownsRow w.heap.size 5 1 (.slice A5 m c5) m (bv bs)) ∧ Hid (SlB y y.heap.size A2 c2 bt) ∧ Hid (Below w.heap.size w y) := by
  obtain ⟨h1, h2⟩ := two_st Z5 hB (.slice A2 q c2) (.bool v)
  have hw5 : Below w.heap.size w u5 := (bel_t K0 b5).out
  have hy : Below w.heap.size w ((u5.setCell ⟨g1, 0, none⟩ (.slice A2 q c2)).setCell ⟨g1, 1, none⟩ (.bool v)) := hw5.trans (h2.below hw5.size)
  exact ⟨_, rfl, h1.cell 0, h1.cell 1, hid (own_mono (h2.own o5.out (by decide)) K0.out.size), slb_up HS2 hy, hid hy⟩
/-- What a line's cut answers. -/
def RetC (w : World) (x m : Nat) (bs : List UInt8) (b : Bool) (e' : Ending) (w' : World) : Prop := ∃ A1 c1 A2 c2, e' = .returned (.tuple #[.slice A1 m c1, .agg #[.slice A2 (x - m) c2, .bool b]]) ∧ Hid (w'.ownsRow w.heap.size 5 1 (.slice A1 m c1) m (bv (bs.take m))) ∧ Hid (SlB w' w'.heap.size A2 c2 (bs.drop m)) ∧ Hid (Below w.heap.size w w')
set_option maxRecDepth 100000 in
set_option maxHeartbeats 4000000 in
theorem cut_at (w : World) (A : Option Addr) (x c m : Nat) (bs : List UInt8) (e : Bool) (k : Int) (hS : Hid (SlB w w.heap.size A c bs)) (hx : bs.length = x) (hxm : x ≤ 140737488351232) (hmx : m ≤ x) (hmin : (k ≤ (x : Int) ∧ k = (m : Int)) ∨ (¬ k ≤ (x : Int) ∧ x = m)) :
    Calls Try.prog 25 #[.agg #[.slice A x c, .bool e], .int .i64 k] w (RetC w x m bs e) := by
  have HX := hid hx
  obtain ⟨A2, c2, hb2, HS2⟩ := run_back hS.out hx hmx
  have hf := run_front hS.out hx hmx
  have HT := hid (show (bs.take m).length = m by rw [List.length_take, hx]; omega)
  have hmm : m ≤ 140737488355328 := by omega
  have K0 : Hid (Below w.heap.size w ((w.alloc (.cells #[.slice A x c, .bool e] 30)).alloc (.cells #[.slice none 0 0, .bool false] 30))) := hid (((Below.refl _ w).alloc (Nat.le_refl _) _).alloc (by simp) _)
  have Z0 : Hid (Box ((w.alloc (.cells #[.slice A x c, .bool e] 30)).alloc (.cells #[.slice none 0 0, .bool false] 30)) w.heap.size 30 #[.slice A x c, .bool e]) := hid (box_al (Box.new w 30 _))
  have Z1 : Hid (Box ((w.alloc (.cells #[.slice A x c, .bool e] 30)).alloc (.cells #[.slice none 0 0, .bool false] 30)) (w.heap.size + 1) 30 #[.slice none 0 0, .bool false]) := hid (box_nw (by simp))
  rcases hmin with ⟨hk, rfl⟩ | ⟨hk, rfl⟩
  · go_enter Try.func25, Try.ntmps25
    go_wp2_with (first
      | (refine bx30 (by rfl) _ (by rfl) _ _ (by rfl) ?_
         intro G0))
    obtain ⟨g0, hg0⟩ : ∃ g, w.heap.size = g := ⟨_, rfl⟩
    obtain ⟨g1, hg1⟩ : ∃ g, g0 + 1 = g := ⟨_, rfl⟩
    have hne : ¬ g0 = g1 := by omega
    have hne2 : ¬ g1 = g0 := by omega
    have HG := hid hg0
    rw [hg0] at Z0 Z1 ⊢
    rw [hg1] at Z1 ⊢
    clear G0
    generalize (w.alloc (.cells #[.slice A x c, .bool e] 30)).alloc (.cells #[.slice none 0 0, .bool false] 30) = u at K0 Z0 Z1 ⊢
    have SU := slb_up hS K0.out
    have ST : Hid (SlB u u.heap.size A c (bs.take m)) := hid (SU.out.take m)
    have bz : ∀ W, Below u.heap.size u W → W.cell? ⟨g0, 0, none⟩ = some (.slice A x c) ∧ W.cell? ⟨g0, 1, none⟩ = some (.bool e) := fun W h => ⟨(box_below Z0.out h).cell 0, (box_below Z0.out h).cell 1⟩
    go_region_held3 (fun W => W.cell? ⟨g0, 0, none⟩ = some (.slice A x c) ∧ W.cell? ⟨g0, 1, none⟩ = some (.bool e)) (first | exact ⟨(far5 _ _).1, (far5 _ _).2⟩ | exact far5 _ _ | exact bz _ (by repeat (first | exact Below.refl _ _ | exact b5 | with_reducible apply bel_dr | with_reducible apply bel_al))) ((first
      | (go_at_call 27
         (with_reducible refine (cbytes_grow u _ ?c1 A m c (bs.take m) (slb_up ST ?c2) HT.out hmm).mono ?_)
         case c1 => repeat (first | exact Below.refl _ _ | exact b5 | with_reducible apply bel_dr | with_reducible apply bel_al)
         case c2 => repeat (first | exact Below.refl _ _ | exact b5 | with_reducible apply bel_dr | with_reducible apply bel_al)
         rintro e u5 ⟨A5, c5, rfl, o5, b5, d5⟩
         have Z5 := box_below Z1.out b5
         have q0 : u5.cell? ⟨g1, 0, none⟩ = some (.slice none 0 0) := Z5.cell 0
         have q1 : u5.cell? ⟨g1, 1, none⟩ = some (.bool false) := Z5.cell 1
         have r0 := Z5.frozen 0
         have r1 := Z5.frozen 1
         have far5 : ∀ v v2, ((u5.setCell ⟨g1, 0, none⟩ v).setCell ⟨g1, 1, none⟩ v2).cell? ⟨g0, 0, none⟩ = some (.slice A x c) ∧ ((u5.setCell ⟨g1, 0, none⟩ v).setCell ⟨g1, 1, none⟩ v2).cell? ⟨g0, 1, none⟩ = some (.bool e) := fun v v2 => by
           rw [World.cell?_setCell_far _ _ _ _ hne2, World.cell?_setCell_far _ _ _ _ hne2, World.cell?_setCell_far _ _ _ _ hne2, World.cell?_setCell_far _ _ _ _ hne2]
           exact bz u5 b5)))
    all_goals
      obtain ⟨y, hy, y0, y1, yO, yS, yB⟩ := cut_fin (q := x - m) (v := e) K0 b5 Z5 (by have := HG.out; omega) o5 HS2
      rw [hy]
      clear hy far5 q0 q1 r0 r1 Z5 o5 b5 d5 bz
      go_wp2
      refine bodyPost_ret (v := .tuple #[.slice A5 m c5, .agg #[.slice A2 (x - m) c2, .bool e]]) (by simp [results, go_sem, y0, y1]) rfl ?_
      exact ⟨A5, c5, A2, c2, by first | rfl | rw [Nat.sub_self], yO, yS, yB⟩
  · go_enter Try.func25, Try.ntmps25
    go_wp2_with (first
      | (refine bx30 (by rfl) _ (by rfl) _ _ (by rfl) ?_
         intro G0))
    obtain ⟨g0, hg0⟩ : ∃ g, w.heap.size = g := ⟨_, rfl⟩
    obtain ⟨g1, hg1⟩ : ∃ g, g0 + 1 = g := ⟨_, rfl⟩
    have hne : ¬ g0 = g1 := by omega
    have hne2 : ¬ g1 = g0 := by omega
    have HG := hid hg0
    rw [hg0] at Z0 Z1 ⊢
    rw [hg1] at Z1 ⊢
    clear G0
    generalize (w.alloc (.cells #[.slice A x c, .bool e] 30)).alloc (.cells #[.slice none 0 0, .bool false] 30) = u at K0 Z0 Z1 ⊢
    have SU := slb_up hS K0.out
    have ST : Hid (SlB u u.heap.size A c (bs.take x)) := hid (SU.out.take x)
    have bz : ∀ W, Below u.heap.size u W → W.cell? ⟨g0, 0, none⟩ = some (.slice A x c) ∧ W.cell? ⟨g0, 1, none⟩ = some (.bool e) := fun W h => ⟨(box_below Z0.out h).cell 0, (box_below Z0.out h).cell 1⟩
    go_region_held3 (fun W => W.cell? ⟨g0, 0, none⟩ = some (.slice A x c) ∧ W.cell? ⟨g0, 1, none⟩ = some (.bool e)) (first | exact ⟨(far5 _ _).1, (far5 _ _).2⟩ | exact far5 _ _ | exact bz _ (by repeat (first | exact Below.refl _ _ | exact b5 | with_reducible apply bel_dr | with_reducible apply bel_al))) ((first
      | (go_at_call 27
         (with_reducible refine (cbytes_grow u _ ?c1 A x c (bs.take x) (slb_up ST ?c2) HT.out hmm).mono ?_)
         case c1 => repeat (first | exact Below.refl _ _ | exact b5 | with_reducible apply bel_dr | with_reducible apply bel_al)
         case c2 => repeat (first | exact Below.refl _ _ | exact b5 | with_reducible apply bel_dr | with_reducible apply bel_al)
         rintro e u5 ⟨A5, c5, rfl, o5, b5, d5⟩
         have Z5 := box_below Z1.out b5
         have q0 : u5.cell? ⟨g1, 0, none⟩ = some (.slice none 0 0) := Z5.cell 0
         have q1 : u5.cell? ⟨g1, 1, none⟩ = some (.bool false) := Z5.cell 1
         have r0 := Z5.frozen 0
         have r1 := Z5.frozen 1
         have far5 : ∀ v v2, ((u5.setCell ⟨g1, 0, none⟩ v).setCell ⟨g1, 1, none⟩ v2).cell? ⟨g0, 0, none⟩ = some (.slice A x c) ∧ ((u5.setCell ⟨g1, 0, none⟩ v).setCell ⟨g1, 1, none⟩ v2).cell? ⟨g0, 1, none⟩ = some (.bool e) := fun v v2 => by
           rw [World.cell?_setCell_far _ _ _ _ hne2, World.cell?_setCell_far _ _ _ _ hne2, World.cell?_setCell_far _ _ _ _ hne2, World.cell?_setCell_far _ _ _ _ hne2]
           exact bz u5 b5)))
    all_goals
      obtain ⟨y, hy, y0, y1, yO, yS, yB⟩ := cut_fin (q := 0) (v := e) K0 b5 Z5 (by have := HG.out; omega) o5 HS2
      rw [hy]
      clear hy far5 q0 q1 r0 r1 Z5 o5 b5 d5 bz
      go_wp2
      refine bodyPost_ret (v := .tuple #[.slice A5 x c5, .agg #[.slice A2 0 c2, .bool e]]) (by simp [results, go_sem, y0, y1]) rfl ?_
      exact ⟨A5, c5, A2, c2, by first | rfl | rw [Nat.sub_self], yO, yS, yB⟩
end Go.Proofs.Ytjncahcigbdbgab
