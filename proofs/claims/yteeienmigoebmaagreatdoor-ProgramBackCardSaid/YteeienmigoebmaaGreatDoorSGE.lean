import Derived.Test.YteeienmigoebmaaGreatDoorSGC
import Derived.Test.YteeienmigoebmaaGreatDoorSGD
namespace Go.Proofs.YteeienmigoebmaaGreatDoor.L18
open Go.RowKit

/-! Layer 18: the document's row of a signal. -/
theorem box_below {w w' : World} {g : Nat} {t : TypeId} {cs : Array Value} (h : Box w g t cs) (hb : Below w.heap.size w w') : Box w' g t cs := h.same (hb.block _ h.lt)
theorem flat_at : ∀ (l : List Int) (k : Nat) (h : k < l.length) (j : Nat), j < 4 → (l.flatMap rowC)[k * 4 + j]? = (rowC l[k])[j]?
  | x :: l, 0, _, j, hj => by
    rw [List.flatMap_cons, List.getElem?_append_left (by simpa [rowC] using hj)]
    simp
  | x :: l, k + 1, h, j, hj => by
    have e : (rowC x).length = 4 := rfl
    rw [List.flatMap_cons, List.getElem?_append_right (by omega), e, show (k + 1) * 4 + j - 4 = k * 4 + j by omega, flat_at l k (by simpa using h) j hj]
    rfl
/-- The document's rows in memory. -/
def RowsW (w : World) (b : Nat) : Prop := b < w.heap.size ∧ ∀ k g, sigL[k]? = some g → w.cell? ⟨b, k * 4, none⟩ = some (.int .i64 g) ∧ w.cell? ⟨b, k * 4 + 1, none⟩ = some (.string (nmS g)) ∧ w.cell? ⟨b, k * 4 + 2, none⟩ = some (.int .i64 (efS g)) ∧ w.cell? ⟨b, k * 4 + 3, none⟩ = some (.bool (wiS g))
theorem RowsW.below {w w' : World} {b : Nat} (h : Hid (RowsW w b)) (hb : Below w.heap.size w w') : Hid (RowsW w' b) :=
  hid ⟨Nat.lt_of_lt_of_le h.out.1 hb.size, fun k g hk => by
    obtain ⟨h1, h2, h3, h4⟩ := h.out.2 k g hk
    exact ⟨(hb.cell (p := ⟨_, _, none⟩) h.out.1).trans h1, (hb.cell (p := ⟨_, _, none⟩) h.out.1).trans h2, (hb.cell (p := ⟨_, _, none⟩) h.out.1).trans h3, (hb.cell (p := ⟨_, _, none⟩) h.out.1).trans h4⟩⟩
theorem rows_r (w : World) : Calls Tryz.prog 113 #[] w fun e w' => ∃ b, e = .returned (.slice (some ⟨b, 0, none⟩) 22 22) ∧ Hid (RowsW w' b) ∧ Hid (Below w.heap.size w w') := by
  refine (rows_any w).mono ?_
  rintro e w' ⟨rfl, rfl⟩
  refine ⟨_, rfl, hid ⟨by simp, fun k g hk => ?_⟩, hid ((Below.refl _ w).alloc (Nat.le_refl _) _)⟩
  obtain ⟨hk1, rfl⟩ := List.getElem?_eq_some_iff.1 hk
  have hb := Box.new w 144 (sigL.flatMap rowC).toArray
  have hc : ∀ j, j < 4 → (w.alloc (.cells (sigL.flatMap rowC).toArray 144)).cell? ⟨w.heap.size, k * 4 + j, none⟩ = (rowC sigL[k])[j]? := fun j hj => by
    rw [hb.cell, List.getElem?_toArray, flat_at sigL k hk1 j hj]
  exact ⟨hc 0 (by decide), hc 1 (by decide), hc 2 (by decide), hc 3 (by decide)⟩
def zeroG (g : Int) : Int := if known g = true then g else 0
theorem efS_none {g : Int} (h : known g = false) : efS g = 0 := by
  have h1 : ∀ k : Fin 29, (row k.1).1.isEmpty = true → (row k.1).2.1 = 0 := by decide
  have h2 : (row g.toNat).1.isEmpty = true := by simpa [known] using h
  by_cases hk : g.toNat < 29
  · exact h1 ⟨g.toNat, hk⟩ h2
  · rw [efS, row_out (by omega)]
theorem row_fin {w W : World} {r : Nat} {a0 a1 a2 a3 b0 b1 b2 b3 : Value} (h : Box W r 144 #[a0, a1, a2, a3]) (hr : w.heap.size ≤ r) (hb : Below w.heap.size w W) :
    ∃ y, (((W.setCell ⟨r, 0, none⟩ b0).setCell ⟨r, 1, none⟩ b1).setCell ⟨r, 2, none⟩ b2).setCell ⟨r, 3, none⟩ b3 = y ∧ y.cell? ⟨r, 0, none⟩ = some b0 ∧ y.cell? ⟨r, 1, none⟩ = some b1 ∧ y.cell? ⟨r, 2, none⟩ = some b2 ∧ y.cell? ⟨r, 3, none⟩ = some b3 ∧ Hid (Below w.heap.size w y) := by
  have hx := (((h.store 0 b0).store 1 b1).store 2 b2).store 3 b3
  refine ⟨_, rfl, (hx.cell 0).trans rfl, (hx.cell 1).trans rfl, (hx.cell 2).trans rfl, (hx.cell 3).trans rfl, hid ?_⟩
  exact (((hb.setCell (p := ⟨r, 0, none⟩) hr _).setCell (p := ⟨r, 1, none⟩) hr _).setCell (p := ⟨r, 2, none⟩) hr _).setCell (p := ⟨r, 3, none⟩) hr _
theorem take_snoc {α : Type} (l : List α) (k : Nat) (h : k < l.length) : l.take (k + 1) = l.take k ++ [l[k]] := by
  rw [List.take_succ_eq_append_getElem h]
section
variable {w : World}
set_option maxRecDepth 100000 in
set_option maxHeartbeats 2000000 in
theorem ofr_any (w : World) (g : Int) : Calls Tryz.prog 98 #[.int .i64 g] w fun e w' => e = .returned (.tuple #[.agg #[.int .i64 (zeroG g), .string (nmS g), .int .i64 (efS g), .bool (wiS g)], .bool (known g)]) ∧ Hid (Below w.heap.size w w') := by
  have hx0 := Box.new w 144 #[.int .i64 0, .string ⟨#[]⟩, .int .i64 0, .bool false]
  go_enter Tryz.func98, Tryz.ntmps98
  go_wp2_with (first
    | (go_at_call 113
       (with_reducible refine (rows_r _).mono ?_)
       rintro e w1 ⟨b, rfl, HR, B1⟩
       have HX := hid (box_below hx0 B1.out)
       have B2 : Hid (Below w.heap.size w w1) := hid (((Below.refl _ w).alloc (Nat.le_refl _) _).trans (B1.out.mono (by simp)))
       clear B1 hx0))
  go_loopw [8] (fun i wr => ∃ k : Nat, k ≤ 22 ∧ i = .int .i64 k ∧ Hid (Below w1.heap.size w1 wr) ∧ Hid (∀ x ∈ sigL.take k, x ≠ g)) (fun i _ => 22 - (intOf i).toNat)
  case atStart => exact ⟨0, by omega, rfl, hid (Below.refl _ _), hid (by simp)⟩
  case round =>
    obtain ⟨k, hk, rfl, HB, HP⟩ := hrel
    by_cases hlt : k < 22
    · have hi : (k : Int) < 22 := by omega
      obtain ⟨x, hx⟩ : ∃ x, sigL[k]? = some x := ⟨sigL[k]'hlt, List.getElem?_eq_getElem _⟩
      obtain ⟨c0, c1, c2, c3⟩ := (RowsW.below HR HB.out).out.2 k x hx
      by_cases he : x = g
      · subst he
        have hkn : known x = true := (mem_sigL x).1 (List.mem_of_getElem? hx)
        have HZ : Hid (zeroG x = x) := hid (by simp [zeroG, hkn])
        have HK := hid hkn
        have HY := box_below HX.out HB.out
        have HA := box_below HY ((Below.refl _ wr).alloc (Nat.le_refl _) (.cells #[.int .i64 x, .string (nmS x), .int .i64 (efS x), .bool (wiS x)] 144))
        obtain ⟨y, hy, y0, y1, y2, y3, yB⟩ := row_fin (w := w) (b0 := .int .i64 x) (b1 := .string (nmS x)) (b2 := .int .i64 (efS x)) (b3 := .bool (wiS x)) HA (Nat.le_refl _) ((B2.out.trans (HB.out.mono B2.out.size)).alloc (Nat.le_trans B2.out.size HB.out.size) _)
        have q0 : ∀ o, (wr.alloc o).cell? ⟨w.heap.size, 0, none⟩ = some (.int .i64 0) := fun o => ((box_below HY ((Below.refl _ wr).alloc (Nat.le_refl _) o)).cell 0)
        have q1 : ∀ o, (wr.alloc o).cell? ⟨w.heap.size, 1, none⟩ = some (.string ⟨#[]⟩) := fun o => ((box_below HY ((Below.refl _ wr).alloc (Nat.le_refl _) o)).cell 1)
        have q2 : ∀ o, (wr.alloc o).cell? ⟨w.heap.size, 2, none⟩ = some (.int .i64 0) := fun o => ((box_below HY ((Below.refl _ wr).alloc (Nat.le_refl _) o)).cell 2)
        have q3 : ∀ o, (wr.alloc o).cell? ⟨w.heap.size, 3, none⟩ = some (.bool false) := fun o => ((box_below HY ((Below.refl _ wr).alloc (Nat.le_refl _) o)).cell 3)
        have f : ∀ o i, (wr.alloc o).frozen? ⟨w.heap.size, i, none⟩ = false := fun o i => (box_below HY ((Below.refl _ wr).alloc (Nat.le_refl _) o)).frozen i
        have HYY := hid hy
        clear hx hkn hy
        go_wp2
        rw [HYY.out]
        refine bodyPost_ret (v := .tuple #[.agg #[.int .i64 x, .string (nmS x), .int .i64 (efS x), .bool (wiS x)], .bool true]) (by simp [results, go_sem, y0, y1, y2, y3]) rfl ?_
        rw [HZ.out, HK.out]
        exact ⟨rfl, yB⟩
      · have hne : (x == g) = false := by simpa using he
        have HN : Hid (∀ y ∈ sigL.take (k + 1), y ≠ g) := hid (by
          obtain ⟨h1, h2⟩ := List.getElem?_eq_some_iff.1 hx
          rw [take_snoc _ _ h1, h2]
          intro y hy
          rcases List.mem_append.1 hy with hy | hy
          · exact HP.out y hy
          · simp at hy
            subst hy
            exact he)
        have HB2 : ∀ o, Hid (Below w1.heap.size w1 (wr.alloc o)) := fun o => hid (HB.out.alloc HB.out.size o)
        clear he hx
        go_wp2
        go_roundw
        case rel => exact ⟨k + 1, by omega, by go_num, HB2 _, HN⟩
        case measure => simp [intOf]; omega
    · have hi : ¬ (k : Int) < 22 := by omega
      have hkn : known g = false := by
        cases hq : known g
        · rfl
        · have h1 := (mem_sigL g).2 hq
          exact absurd rfl (HP.out g (by rw [List.take_of_length_le (by show 22 ≤ k; omega)]; exact h1))
      have HK := hid hkn
      have HE := hid (efS_none hkn)
      have HM := hid (nmS_none hkn)
      have HW := hid (wiS_none hkn)
      have HZ : Hid (zeroG g = 0) := hid (by simp [zeroG, hkn])
      have HY := box_below HX.out HB.out
      obtain ⟨y, hy, y0, y1, y2, y3, yB⟩ := row_fin (w := w) (b0 := .int .i64 0) (b1 := .string ⟨#[]⟩) (b2 := .int .i64 0) (b3 := .bool false) HY (Nat.le_refl _) (B2.out.trans (HB.out.mono B2.out.size))
      have q0 : wr.cell? ⟨w.heap.size, 0, none⟩ = some (.int .i64 0) := HY.cell 0
      have q1 : wr.cell? ⟨w.heap.size, 1, none⟩ = some (.string ⟨#[]⟩) := HY.cell 1
      have q2 : wr.cell? ⟨w.heap.size, 2, none⟩ = some (.int .i64 0) := HY.cell 2
      have q3 : wr.cell? ⟨w.heap.size, 3, none⟩ = some (.bool false) := HY.cell 3
      have f : ∀ i, wr.frozen? ⟨w.heap.size, i, none⟩ = false := fun i => HY.frozen i
      have HYY := hid hy
      clear hkn hy
      go_wp2
      rw [HYY.out]
      refine bodyPost_ret (v := .tuple #[.agg #[.int .i64 0, .string ⟨#[]⟩, .int .i64 0, .bool false], .bool false]) (by simp [results, go_sem, y0, y1, y2, y3]) rfl ?_
      rw [HZ.out, HK.out, HE.out, HM.out, HW.out]
      exact ⟨rfl, yB⟩
end
end Go.Proofs.YteeienmigoebmaaGreatDoor.L18
