import Derived.Test.YtidgbojgdllghaaRA
namespace Go.Proofs.Ytidgbojgdllghaa
open Go.RowKit

theorem Try.info5s : (Try.prog.info? 5).map (·.size) = some 1 := by kernel_rfl
theorem made (n : Nat) (h : n ≤ 1000000) : ∃ Z : List Value, Z.length = n ∧ ∀ w : World, (Instr.makeSlice 32 (.int .i64 n) (.int .i64 n)).run Try.prog w = .ok (.slice (some ⟨w.heap.size, 0, none⟩) n n) (w.alloc (.cells Z.toArray 5)) := by
  obtain ⟨i0, hi0, hz0, hz1, hz2⟩ := info_parts Try.info5
  refine ⟨(madeCells (Value.int .u8 0).cells (n * 1)).toList, ?_, fun w => ?_⟩
  · simp [madeCells]
  · have := run_make (P := Try.prog) w 32 5 i0 _ Try.underlying32 hi0 hz0 .i64 .i64 n n (by omega) (Int.le_refl _) (by rw [hz2]; omega) (by omega)
    rw [this, hz1]
    simp

/-- Of a ring's cells, those of its front. -/
theorem RgS.front {w : World} {g h size front : Nat} {cur : List Value} {q : List UInt8} (r : RgS w g h size front cur q) (n a : Nat) (hn : n ≤ q.length) (ha : a = min n (size - front)) :
    (∀ j u, (bv (q.take a))[j]? = some u → w.cell? ⟨h, front + j, none⟩ = some u) ∧ (∀ j u, (bv ((q.take n).drop a))[j]? = some u → w.cell? ⟨h, 0 + j, none⟩ = some u) := by
  have h1 := r.fr
  have h2 := r.fit
  have hl := r.len
  constructor
  · intro j u hu
    have hj := (List.getElem?_eq_some_iff.1 hu).1
    simp only [bv_length, List.length_take] at hj
    have h3 := r.all j (by omega)
    rw [mod_once (by omega), if_pos (by omega)] at h3
    rw [r.row.cell]
    simp only [List.getElem?_toArray]
    rw [h3, ← hu]
    simp only [bv, List.getElem?_map, List.getElem?_take]
    rw [if_pos (by omega), List.getElem?_eq_getElem (by omega)]
    rfl
  · intro j u hu
    have hj := (List.getElem?_eq_some_iff.1 hu).1
    simp only [bv_length, List.length_drop, List.length_take] at hj
    have h3 := r.all (a + j) (by omega)
    rw [mod_once (by omega), if_neg (by omega)] at h3
    rw [r.row.cell]
    simp only [List.getElem?_toArray]
    rw [show 0 + j = front + (a + j) - size by omega, h3, ← hu]
    simp only [bv, List.getElem?_map, List.getElem?_drop, List.getElem?_take]
    rw [if_pos (by omega), List.getElem?_eq_getElem (by omega)]
    rfl
theorem splice_two {α : Type} (Z X Y : List α) (n a : Nat) (hZ : Z.length = n) (hX : X.length = a) (hY : Y.length = n - a) (ha : a ≤ n) : splice (splice Z 0 X) a Y = X ++ Y := by
  apply List.ext_getElem?
  intro j
  rw [splice_get _ _ _ (by rw [length_splice _ _ _ (by omega)]; omega), splice_get _ _ _ (by omega)]
  by_cases h1 : j < a
  · rw [if_neg (by omega), if_pos (by omega), List.getElem?_append_left (by omega), Nat.sub_zero]
  · rw [List.getElem?_append_right (by omega), hX]
    by_cases h2 : j < n
    · rw [if_pos (by omega)]
    · rw [if_neg (by omega), if_neg (by omega), List.getElem?_eq_none (by omega), List.getElem?_eq_none (by omega)]
theorem take_bv (q : List UInt8) (n a : Nat) (h : a ≤ n) : bv (q.take a) ++ bv ((q.take n).drop a) = bv (q.take n) := by
  rw [← bv_append]
  congr 1
  have : q.take a = (q.take n).take a := by rw [List.take_take, Nat.min_eq_left h]
  rw [this, List.take_append_drop]
theorem row_own (w : World) (base g n : Nat) (xs : List Value) (hb : base ≤ g) (hx : Box w g 5 xs.toArray) (hl : xs.length = n) (hn : n ≤ 1000000) : w.ownsRow base 5 1 (.slice (some ⟨g, 0, none⟩) n n) n xs := by
  refine ⟨by omega, .inr ⟨g, n, xs.toArray, rfl, hb, hx, Nat.le_refl _, by unfold maxLen; omega, ?_, ?_⟩⟩
  · simp; omega
  · simp [← hl]

set_option maxHeartbeats 2000000 in
set_option maxRecDepth 100000 in
theorem peek_any (w : World) {g h size : Nat} {q : List UInt8} (n : Int) (hr : Hid (Rg w g h size q)) :
    Calls Try.prog 17 #[.pointer (some ⟨g, 0, none⟩), .int .i64 n] w fun e w' => ∃ A c, e = .returned (.slice A (had n q.length) c) ∧ Hid (w'.ownsRow w.heap.size 5 1 (.slice A (had n q.length) c) (had n q.length) (bv (q.take (had n q.length)))) ∧ Hid (Below w.heap.size w w') := by
  obtain ⟨m, HM⟩ : ∃ m, Hid (had n q.length = m) := ⟨_, hid rfl⟩
  have hm := had_le n q.length
  have HW := within_any w n hr
  rw [HM.out] at hm HW ⊢
  by_cases h0 : m = 0
  · subst h0
    go_enter Try.func17, Try.ntmps17
    go_wp2_with (first
      | (go_at_call 26
         ((with_reducible refine HW.mono ?_); rintro e w2 ⟨rfl, rfl⟩)))
    go_ret
    exact ⟨none, 0, rfl, World.ownsRow_nil _ _ _ _, Below.refl _ _⟩
  · obtain ⟨front, cur, r⟩ := hr.out
    obtain ⟨Z, hZ, hmk⟩ := made m (by have := r.fit; have := r.le; omega)
    have hmk := hmk w
    have r1 := r.pos
    have r2 := r.le
    have r3 := r.fr
    have r4 := r.fit
    have i1 : ¬ ((m : Int) = 0) := by omega
    have i1' : ((m : Int) == 0) = false := by simp; omega
    have i2 : ¬ (size = front) := by omega
    obtain ⟨a, HA⟩ : ∃ a, Hid (min m (size - front) = a) := ⟨_, hid rfl⟩
    have ha : a ≤ m := by have := HA.out; omega
    obtain ⟨hf1, hf2⟩ := r.front m a hm HA.out.symm
    have hlt := r.row.lt
    have HB0 : Hid (Below w.heap.size w (w.alloc (.cells Z.toArray 5))) := (Below.refl w.heap.size w).alloc (Nat.le_refl _) _
    have HF1 : Hid (∀ j u, (bv (q.take a))[j]? = some u → (w.alloc (.cells Z.toArray 5)).cell? (Addr.add ⟨h, front, none⟩ j) = some u) := fun j u hu => by
      rw [Addr.add_lit, HB0.out.cell (by exact hlt)]; exact hf1 j u hu
    have HF2 : Hid (∀ w', Below w.heap.size w w' → ∀ j u, (bv ((q.take m).drop a))[j]? = some u → w'.cell? (Addr.add ⟨h, 0, none⟩ j) = some u) := fun w' hb j u hu => by
      rw [Addr.add_lit, hb.cell (by exact hlt)]; exact hf2 j u hu
    have HX : Hid (Box (w.alloc (.cells Z.toArray 5)) w.heap.size 5 Z.toArray) := Box.new _ _ _
    have HC0 : Hid (∀ w', Below w.heap.size w w' → w'.cell? ⟨g, 0, none⟩ = some (.slice (some ⟨h, 0, none⟩) size size)) := fun w' hb => by
      rw [hb.cell (by exact r.box.lt)]; exact r.box.cell 0
    have c0 := HC0.out _ HB0.out
    have c1 : (w.alloc (.cells Z.toArray 5)).cell? ⟨g, 1, none⟩ = some (.int .i64 front) := by
      rw [HB0.out.cell (by exact r.box.lt)]; exact r.box.cell 1
    have HN1 : Hid ((bv (q.take a)).length = Nat.min (size - front) m) := by
      show _ = _
      rw [bv_length, List.length_take, ← HA.out]
      show _ = min _ _
      omega
    have HL1 : Hid ((bv (q.take a)).length = a) := by
      show _ = _
      rw [bv_length, List.length_take]; omega
    have HL2 : Hid ((bv ((q.take m).drop a)).length = m - a) := by
      show _ = _
      rw [bv_length, List.length_drop, List.length_take]; omega
    have hm1 : m ≤ 1000000 := by omega
    have hZb : Hid (∀ X : List Value, X.length = m → Below w.heap.size w (w.alloc (.cells Z.toArray 5))) := fun _ _ => HB0.out
    have HE : Hid (splice (splice Z 0 (bv (q.take a))) a (bv ((q.take m).drop a)) = bv (q.take m)) := by
      show _ = _
      rw [splice_two Z _ _ m a hZ HL1.out HL2.out ha, take_bv _ _ _ ha]
    have HLQ : Hid ((bv (q.take m)).length = m) := by
      show _ = _
      rw [bv_length, List.length_take]; omega
    obtain ⟨X1, HX1⟩ : ∃ X1, Hid (bv (q.take a) = X1) := ⟨_, hid rfl⟩
    obtain ⟨X2, HX2⟩ : ∃ X2, Hid (bv ((q.take m).drop a) = X2) := ⟨_, hid rfl⟩
    have HO1 : Hid (∀ u ∈ X1, u.oneCell' = true) := by show ∀ _, _; rw [← HX1.out]; exact bv_one _
    have HO2 : Hid (∀ u ∈ X2, u.oneCell' = true) := by show ∀ _, _; rw [← HX2.out]; exact bv_one _
    rw [HX1.out] at HF1 HN1 HL1 HE
    rw [HX2.out] at HF2 HL2 HE
    clear hf1 hf2 r hZb
    have k1 : ¬ (size = front) := i2
    have k3 : front ≤ size := by omega
    go_enter Try.func17, Try.ntmps17
    go_wp2_with (first
      | (go_at_call 26
         ((with_reducible refine HW.mono ?_); rintro e w2 ⟨rfl, rfl⟩)))
    go_region_law (first
      | (refine step_copy_splice rfl (.tmp 14) (.tmp 23) 32 32 rfl 5 Try.underlying32 Try.info5s (some ⟨w2.heap.size, 0, none⟩) (some ⟨h, front, none⟩) m m (size - front) (size - front) rfl rfl w2.heap.size 0 Z 5 HX.out X1 HN1.out (fun _ => ⟨rfl, _, rfl, HF1.out⟩) (by rw [HL1.out]; omega) HO1.out w2.heap.size w2 HB0.out.drew (Nat.le_refl _) ?_
         intro w3 HG3 hb3
         have HB3 := hid hb3
         have c30 := HC0.out _ hb3
         have x1l := HL1.out
         clear hb3))
    all_goals
      clear c0 c1
      by_cases ham : m = a
      · subst ham
        go_wp2
        go_region_law (first
          | (refine step_copy_splice rfl (.tmp 27) (.tmp 31) 32 32 rfl 5 Try.underlying32 Try.info5s _ (some ⟨h, 0, none⟩) _ _ size size rfl rfl w2.heap.size m (splice Z 0 X1) 5 HG3.out X2 (by rw [HL2.out]; show _ = min _ _; omega) (fun hp => by rw [HL2.out] at hp; omega) (by rw [HL2.out, length_splice _ _ _ (by rw [HL1.out]; omega)]; omega) HO2.out w2.heap.size w2 HB3.out.drew (Nat.le_refl _) ?_
             intro w4 HG4 hb4
             have HB4 := hid hb4
             clear hb4))
        all_goals
          go_wp2
          go_ret
          exact ⟨_, _, rfl, row_own _ _ _ _ _ (Nat.le_refl _) (by rw [← HE.out]; exact HG4.out) HLQ.out hm1, HB4.out⟩
      · go_wp2
        go_region_law (first
          | (refine step_copy_splice rfl (.tmp 27) (.tmp 31) 32 32 rfl 5 Try.underlying32 Try.info5s (some ⟨w2.heap.size, a, none⟩) (some ⟨h, 0, none⟩) (m - a) (m - a) size size rfl rfl w2.heap.size a (splice Z 0 X1) 5 HG3.out X2 (by rw [HL2.out]; show _ = min _ _; omega) (fun _ => ⟨rfl, _, rfl, HF2.out _ HB3.out.drew⟩) (by rw [HL2.out, length_splice _ _ _ (by rw [HL1.out]; omega)]; omega) HO2.out w2.heap.size w2 HB3.out.drew (Nat.le_refl _) ?_
             intro w4 HG4 hb4
             have HB4 := hid hb4
             clear hb4))
        all_goals
          go_wp2
          go_ret
          exact ⟨_, _, rfl, row_own _ _ _ _ _ (Nat.le_refl _) (by rw [← HE.out]; exact HG4.out) HLQ.out hm1, HB4.out⟩
end Go.Proofs.Ytidgbojgdllghaa
