import Derived.Test.YtdplngplljejhaaDoorZD
namespace Go.Proofs.YtdplngplljejhaaDoor
open Go.RowKit

theorem lies_sub {w : World} {B b o n : Nat} {left : List UInt8} (h : Lies w B (some ⟨b, o, none⟩) (bv left)) : Lies w B (some ⟨b, o + 4, none⟩) (bv ((left.drop 4).take n)) := by
  intro hne
  have hln : bv left ≠ [] := by
    intro h0
    have h0' : left = [] := by simpa [bv] using h0
    subst h0'
    exact hne (by simp [bv])
  obtain ⟨b', o', e', hb', hc⟩ := h hln
  injection e' with e'
  injection e' with e1 e2
  subst e1; subst e2
  refine ⟨b, o + 4, rfl, hb', fun j u hu => ?_⟩
  rw [Nat.add_assoc]
  refine hc (4 + j) u ?_
  have hj : j < n := by
    have := (List.getElem?_eq_some_iff.1 hu).1
    simp [bv] at this
    omega
  simp only [bv, List.getElem?_map, List.getElem?_take, hj, if_true, List.getElem?_drop] at hu
  simp only [bv, List.getElem?_map]
  exact hu
theorem rsplit_n (W : World) (A : Option Addr) (c n : Nat) (tx : List UInt8) (er : Int) (ls : List ByteArray) (hX : Hid (splF tx = (er, ls))) (hn : tx.length = n) (hb : Hid (Lies W W.heap.size A (bv tx))) (hl : n ≤ 32768) :
    Calls Tryd.prog 71 #[.slice A n c] W fun e w' => ∃ A' c', e = .returned (.tuple #[.slice A' ls.length c', .int .i64 er]) ∧ Hid (w'.ownsRow W.heap.size 9 1 (.slice A' ls.length c') ls.length (sv ls)) ∧ Hid (Below W.heap.size W w') := by
  subst hn
  refine (rsplit_any W A c tx hb.out hl).mono ?_
  rw [hX.out]
  exact fun e w' h => h

set_option maxHeartbeats 4000000 in
set_option maxRecDepth 100000 in
theorem rtake4 (w : World) (A : Option Addr) (c : Nat) (left : List UInt8) (hb : Lies w w.heap.size A (bv left)) (hl : left.length ≤ 1000000) (hc : left.length ≤ c ∧ c ≤ maxLen) :
    Calls Tryd.prog 42 #[.int .i64 4, .slice A left.length c] w (TakeQ 4 left w) := by
  have hbo : ∀ o o2, Below w.heap.size w ((w.alloc o).alloc o2) := fun o o2 => ((Below.refl _ _).alloc (Nat.le_refl _) _).alloc (by simp) _
  have HBO := hid hbo
  have HB := hid hb
  clear hbo hb
  obtain ⟨hc1, hc2⟩ := hc
  unfold maxLen at hc2
  by_cases h1 : left.length < 4
  · have HE : Hid ((getF 4 left).1 = 3) := by show _ = _; simp [getF, strF, textF, h1]
    have t1 : (left.length : Int) < 4 := by omega
    clear h1
    go_enter Tryd.func42, Tryd.ntmps42
    go_wp2
    refine bodyPost_ret (v := .tuple #[.agg #[.int .i64 4, .int .u32 0, .slice none 0 0, .slice none 0 0], .int .i64 0, .int .i64 3]) (by simp [results, Tryd.results42, go_sem]) rfl ?_
    exact takeQ_bad HE.out (by decide) 0 0 (HBO.out _ _)
  · have t1 : decide ((left.length : Int) < 4) = false := by simp; omega
    have h1' : 4 ≤ left.length := by omega
    obtain ⟨n, HN⟩ : ∃ n, Hid (num4 left = n) := ⟨_, hid rfl⟩
    have hn32 : n < 4294967296 := by rw [← HN.out]; exact num4_lt left
    have HT0 := hid (two_lay w 4)
    by_cases h2 : 32768 < n
    · have HE : Hid ((getF 4 left).1 = 6) := by show _ = _; simp [getF, strF, textF, h1, HN.out, h2]
      have t2 : (32768 : Int) < n := by omega
      clear h1 h2
      go_enter Tryd.func42, Tryd.ntmps42
      go_wp2_with (first
        | (go_at_call 70
           ((with_reducible refine (number_r _ w.heap.size A c left (HB.out.below (HBO.out _ _)) h1' hl).mono ?_); rintro e w4 ⟨rfl, d, hW⟩)
           have hT := HT0.out.later (w5 := w4) (by rw [hW]; exact bel_drewN (Below.refl _ _) d)
           have HT4 := hid hT
           rw [HN.out]
           have e0 : w4.cell? ⟨w.heap.size + 1, 0, none⟩ = some (.int .i64 4) := hT.2.2.cell 0
           have e1 : w4.cell? ⟨w.heap.size + 1, 1, none⟩ = some (.int .u32 0) := hT.2.2.cell 1
           have e2 : w4.cell? ⟨w.heap.size + 1, 2, none⟩ = some (.slice none 0 0) := hT.2.2.cell 2
           have e3 : w4.cell? ⟨w.heap.size + 1, 3, none⟩ = some (.slice none 0 0) := hT.2.2.cell 3
           have d0 : w4.cell? ⟨w.heap.size, 0, none⟩ = some (.int .i64 0) := hT.2.1.cell 0
           have d1 : w4.cell? ⟨w.heap.size, 1, none⟩ = some (.int .u32 0) := hT.2.1.cell 1
           have d2 : w4.cell? ⟨w.heap.size, 2, none⟩ = some (.slice none 0 0) := hT.2.1.cell 2
           have d3 : w4.cell? ⟨w.heap.size, 3, none⟩ = some (.slice none 0 0) := hT.2.1.cell 3
           have f0 : w4.frozen? ⟨w.heap.size, 0, none⟩ = false := hT.2.1.frozen 0
           have f1 : w4.frozen? ⟨w.heap.size, 1, none⟩ = false := hT.2.1.frozen 1
           have f2 : w4.frozen? ⟨w.heap.size, 2, none⟩ = false := hT.2.1.frozen 2
           have f3 : w4.frozen? ⟨w.heap.size, 3, none⟩ = false := hT.2.1.frozen 3
           have hblt := hT.2.1.lt
           clear hW hT))
      refine bodyPost_ret (v := .tuple #[.agg #[.int .i64 4, .int .u32 0, .slice none 0 0, .slice none 0 0], .int .i64 0, .int .i64 6]) (by simp [results, Tryd.results42, go_sem, d0, d1, d2, d3]) rfl ?_
      exact takeQ_bad HE.out (by decide) 0 0 (two_plain HT4.out _ _ _ _)
    · have t2 : decide ((32768 : Int) < n) = false := by simp; omega
      have h2' : n ≤ 32768 := by omega
      by_cases h3 : left.length - 4 < n
      · have HE : Hid ((getF 4 left).1 = 3) := by
          show _ = _
          have h3' : (left.drop 4).length < n := by simp; omega
          simp only [List.length_drop] at h3'
          simp [getF, strF, textF, h1, HN.out, h2, h3']
        have t3 : (left.length : Int) - 4 < n := by omega
        clear h1 h2 h3
        go_enter Tryd.func42, Tryd.ntmps42
        go_wp2_with (first
          | (go_at_call 70
             ((with_reducible refine (number_r _ w.heap.size A c left (HB.out.below (HBO.out _ _)) h1' hl).mono ?_); rintro e w4 ⟨rfl, d, hW⟩)
             have hT := HT0.out.later (w5 := w4) (by rw [hW]; exact bel_drewN (Below.refl _ _) d)
             have HT4 := hid hT
             rw [HN.out]
             have e0 : w4.cell? ⟨w.heap.size + 1, 0, none⟩ = some (.int .i64 4) := hT.2.2.cell 0
             have e1 : w4.cell? ⟨w.heap.size + 1, 1, none⟩ = some (.int .u32 0) := hT.2.2.cell 1
             have e2 : w4.cell? ⟨w.heap.size + 1, 2, none⟩ = some (.slice none 0 0) := hT.2.2.cell 2
             have e3 : w4.cell? ⟨w.heap.size + 1, 3, none⟩ = some (.slice none 0 0) := hT.2.2.cell 3
             have d0 : w4.cell? ⟨w.heap.size, 0, none⟩ = some (.int .i64 0) := hT.2.1.cell 0
             have d1 : w4.cell? ⟨w.heap.size, 1, none⟩ = some (.int .u32 0) := hT.2.1.cell 1
             have d2 : w4.cell? ⟨w.heap.size, 2, none⟩ = some (.slice none 0 0) := hT.2.1.cell 2
             have d3 : w4.cell? ⟨w.heap.size, 3, none⟩ = some (.slice none 0 0) := hT.2.1.cell 3
             have f0 : w4.frozen? ⟨w.heap.size, 0, none⟩ = false := hT.2.1.frozen 0
             have f1 : w4.frozen? ⟨w.heap.size, 1, none⟩ = false := hT.2.1.frozen 1
             have f2 : w4.frozen? ⟨w.heap.size, 2, none⟩ = false := hT.2.1.frozen 2
             have f3 : w4.frozen? ⟨w.heap.size, 3, none⟩ = false := hT.2.1.frozen 3
             have hblt := hT.2.1.lt
             clear hW hT))
        refine bodyPost_ret (v := .tuple #[.agg #[.int .i64 4, .int .u32 0, .slice none 0 0, .slice none 0 0], .int .i64 0, .int .i64 3]) (by simp [results, Tryd.results42, go_sem, d0, d1, d2, d3]) rfl ?_
        exact takeQ_bad HE.out (by decide) 0 0 (two_plain HT4.out _ _ _ _)
      · have t3 : decide ((left.length : Int) - 4 < n) = false := by simp; omega
        have h3' : 4 + n ≤ left.length := by omega
        have h3c : 4 + n ≤ c := by omega
        have h3' : (4 : Int) + n ≤ c := by omega
        obtain ⟨tx, HTX⟩ : ∃ tx, Hid ((left.drop 4).take n = tx) := ⟨_, hid rfl⟩
        have htl : tx.length = n := by rw [← HTX.out]; simp; omega
        have HTF : Hid (textF left = (0, tx, left.drop (4 + n))) := by
          show _ = _
          have h5 : ¬ (left.drop 4).length < n := by simp; omega
          rw [textF, if_neg h1, HN.out, if_neg h2, if_neg h5, HTX.out, List.drop_drop]
        obtain ⟨b, o, rfl, hbb, _⟩ := HB.out (by intro e; have := congrArg List.length e; simp [bv] at this; rw [this] at h1'; simp at h1')
        have HSUB : Hid (∀ w4, Below w.heap.size w w4 → Lies w4 w.heap.size (some ⟨b, o + 4, none⟩) (bv tx)) := fun w4 hb => by rw [← HTX.out]; exact lies_sub (HB.out.below hb)
        clear h1 h2 h3
        have HE : Hid (getF 4 left = (0, ⟨0, 0, tx, []⟩, left.drop (4 + n))) := by show _ = _; simp [getF, strF, HTF.out]
        obtain ⟨i5, hi5, hz5, hz51, hz52⟩ := info_parts Tryd.info5
        by_cases h4 : c = 4
        · subst h4
          obtain rfl : n = 0 := by omega
          have HL4 : Hid (∀ W B, Lies W B (some ⟨b, o, none⟩) (bv tx)) := fun W B => by
            have : tx = [] := List.eq_nil_of_length_eq_zero (by omega)
            rw [this]
            exact Lies.nil_
          go_enter Tryd.func42, Tryd.ntmps42
          go_wp2_with (first
            | (go_at_call 70
               ((with_reducible refine (number_r _ w.heap.size _ _ left (HB.out.below (HBO.out _ _)) h1' hl).mono ?_); rintro e w4 ⟨rfl, d, hW⟩)
               have hT := HT0.out.later (w5 := w4) (by rw [hW]; exact bel_drewN (Below.refl _ _) d)
               have HT4 := hid hT
               have hz4 : w.heap.size ≤ w4.heap.size := hT.1.size
               rw [HN.out]
               clear hW hT)
            | (at_builtin
               (
                 refine wpList_app _ rfl (.tmp 73) (.tmp 74) 22 rfl w.heap.size 5 i5 _ 1 1 Tryd.underlying22 hi5 hz5 hz51 hz52 rfl (by decide) _ 0 0 [] rfl (lit_own hz4 rfl) w.heap.size _ 0 _ (bv tx) rfl ?g1 ?g2 (bv_one _) ?g3 ?g4 ?g5 ?_
                 case g1 => rw [bv_length, htl, Nat.mul_one]
                 case g2 => exact (HL4.out _ _)
                 case g3 => unfold maxLen; omega
                 case g4 => omega
                 case g5 => simp; omega
                 intro A8 c8 w6 ho8 hg8
                 simp only [Nat.zero_add, List.nil_append] at ho8 ⊢
                 have hT := HT4.out.later (lit_grown rfl hg8)
                 have HO8 := hid ho8
                 have HT6 := hid hT
                 have g2 : w6.cell? ⟨w.heap.size + 1, 2, none⟩ = some (.slice none 0 0) := hT.2.2.cell 2
                 have gf2 : w6.frozen? ⟨w.heap.size + 1, 2, none⟩ = false := hT.2.2.frozen 2
                 have hx5 := hT.2.2.store 2 (.slice A8 0 c8)
                 have hr5 := box_other (i := 2) hT.2.1 (g' := w.heap.size + 1) (by omega) (.slice A8 0 c8)
                 have e0 : (w6.setCell ⟨w.heap.size + 1, 2, none⟩ (.slice A8 0 c8)).cell? ⟨w.heap.size + 1, 0, none⟩ = some (.int .i64 4) := hx5.cell 0
                 have e1 : (w6.setCell ⟨w.heap.size + 1, 2, none⟩ (.slice A8 0 c8)).cell? ⟨w.heap.size + 1, 1, none⟩ = some (.int .u32 0) := hx5.cell 1
                 have e2 : (w6.setCell ⟨w.heap.size + 1, 2, none⟩ (.slice A8 0 c8)).cell? ⟨w.heap.size + 1, 2, none⟩ = some (.slice A8 0 c8) := hx5.cell 2
                 have e3 : (w6.setCell ⟨w.heap.size + 1, 2, none⟩ (.slice A8 0 c8)).cell? ⟨w.heap.size + 1, 3, none⟩ = some (.slice none 0 0) := hx5.cell 3
                 have d0 : (w6.setCell ⟨w.heap.size + 1, 2, none⟩ (.slice A8 0 c8)).cell? ⟨w.heap.size, 0, none⟩ = some (.int .i64 0) := hr5.cell 0
                 have d1 : (w6.setCell ⟨w.heap.size + 1, 2, none⟩ (.slice A8 0 c8)).cell? ⟨w.heap.size, 1, none⟩ = some (.int .u32 0) := hr5.cell 1
                 have d2 : (w6.setCell ⟨w.heap.size + 1, 2, none⟩ (.slice A8 0 c8)).cell? ⟨w.heap.size, 2, none⟩ = some (.slice none 0 0) := hr5.cell 2
                 have d3 : (w6.setCell ⟨w.heap.size + 1, 2, none⟩ (.slice A8 0 c8)).cell? ⟨w.heap.size, 3, none⟩ = some (.slice none 0 0) := hr5.cell 3
                 have f0 : (w6.setCell ⟨w.heap.size + 1, 2, none⟩ (.slice A8 0 c8)).frozen? ⟨w.heap.size, 0, none⟩ = false := hr5.frozen 0
                 have f1 : (w6.setCell ⟨w.heap.size + 1, 2, none⟩ (.slice A8 0 c8)).frozen? ⟨w.heap.size, 1, none⟩ = false := hr5.frozen 1
                 have f2 : (w6.setCell ⟨w.heap.size + 1, 2, none⟩ (.slice A8 0 c8)).frozen? ⟨w.heap.size, 2, none⟩ = false := hr5.frozen 2
                 have f3 : (w6.setCell ⟨w.heap.size + 1, 2, none⟩ (.slice A8 0 c8)).frozen? ⟨w.heap.size, 3, none⟩ = false := hr5.frozen 3
                 have hblt := hr5.lt
                 clear hx5 hr5
                 clear ho8 hg8 hT)))
          refine bodyPost_ret (v := .tuple #[.agg #[.int .i64 4, .int .u32 0, .slice A8 0 c8, .slice none 0 0], .int .i64 ((4 + 0 : Nat) : Int), .int .i64 0]) (by simp [results, Tryd.results42, go_sem, d0, d1, d2, d3]) rfl ?_
          refine ⟨⟨4, 0, tx, []⟩, 4 + 0, A8, none, c8, 0, ?_, two_four HT6.out _ _ _ _ _ _, fun _ => ⟨?_, by omega, ?_, ?_, World.ownsRow_nil _ _ _ _⟩⟩
          · rw [HE.out]
            show _ = Ending.returned (.tuple #[.agg #[.int .i64 4, .int .u32 0, .slice A8 tx.length c8, .slice none 0 0], .int .i64 ((4 + 0 : Nat) : Int), .int .i64 0])
            rw [htl]
          · rw [HE.out]
          · rw [HE.out]
          · show World.ownsRow _ _ _ _ (.slice A8 tx.length c8) tx.length (bv tx)
            rw [htl]
            exact two_own HT6.out (own_mono HO8.out (by omega)) (by decide) _ _ _ _ _ _
        · have h4' : ¬ (4 = c) := fun h => h4 h.symm
          go_enter Tryd.func42, Tryd.ntmps42
          go_wp2_with (first
            | (go_at_call 70
               ((with_reducible refine (number_r _ w.heap.size _ _ left (HB.out.below (HBO.out _ _)) h1' hl).mono ?_); rintro e w4 ⟨rfl, d, hW⟩)
               have hT := HT0.out.later (w5 := w4) (by rw [hW]; exact bel_drewN (Below.refl _ _) d)
               have HT4 := hid hT
               have hz4 : w.heap.size ≤ w4.heap.size := hT.1.size
               rw [HN.out]
               clear hW hT)
            | (at_builtin
               (
                 refine wpList_app _ rfl (.tmp 73) (.tmp 74) 22 rfl w.heap.size 5 i5 _ 1 1 Tryd.underlying22 hi5 hz5 hz51 hz52 rfl (by decide) _ 0 0 [] rfl (lit_own hz4 rfl) w.heap.size _ (4 + n - 4) _ (bv tx) rfl ?g1 ?g2 (bv_one _) ?g3 ?g4 ?g5 ?_
                 case g1 => rw [bv_length, htl, Nat.add_sub_cancel_left, Nat.mul_one]
                 case g2 => exact (HSUB.out _ HT4.out.1).alloc hz4 _
                 case g3 => unfold maxLen; omega
                 case g4 => omega
                 case g5 => simp; omega
                 intro A8 c8 w6 ho8 hg8
                 simp only [Nat.zero_add, List.nil_append, Nat.add_sub_cancel_left] at ho8 ⊢
                 have hT := HT4.out.later (lit_grown rfl hg8)
                 have HO8 := hid ho8
                 have HT6 := hid hT
                 have g2 : w6.cell? ⟨w.heap.size + 1, 2, none⟩ = some (.slice none 0 0) := hT.2.2.cell 2
                 have gf2 : w6.frozen? ⟨w.heap.size + 1, 2, none⟩ = false := hT.2.2.frozen 2
                 have hx5 := hT.2.2.store 2 (.slice A8 n c8)
                 have hr5 := box_other (i := 2) hT.2.1 (g' := w.heap.size + 1) (by omega) (.slice A8 n c8)
                 have e0 : (w6.setCell ⟨w.heap.size + 1, 2, none⟩ (.slice A8 n c8)).cell? ⟨w.heap.size + 1, 0, none⟩ = some (.int .i64 4) := hx5.cell 0
                 have e1 : (w6.setCell ⟨w.heap.size + 1, 2, none⟩ (.slice A8 n c8)).cell? ⟨w.heap.size + 1, 1, none⟩ = some (.int .u32 0) := hx5.cell 1
                 have e2 : (w6.setCell ⟨w.heap.size + 1, 2, none⟩ (.slice A8 n c8)).cell? ⟨w.heap.size + 1, 2, none⟩ = some (.slice A8 n c8) := hx5.cell 2
                 have e3 : (w6.setCell ⟨w.heap.size + 1, 2, none⟩ (.slice A8 n c8)).cell? ⟨w.heap.size + 1, 3, none⟩ = some (.slice none 0 0) := hx5.cell 3
                 have d0 : (w6.setCell ⟨w.heap.size + 1, 2, none⟩ (.slice A8 n c8)).cell? ⟨w.heap.size, 0, none⟩ = some (.int .i64 0) := hr5.cell 0
                 have d1 : (w6.setCell ⟨w.heap.size + 1, 2, none⟩ (.slice A8 n c8)).cell? ⟨w.heap.size, 1, none⟩ = some (.int .u32 0) := hr5.cell 1
                 have d2 : (w6.setCell ⟨w.heap.size + 1, 2, none⟩ (.slice A8 n c8)).cell? ⟨w.heap.size, 2, none⟩ = some (.slice none 0 0) := hr5.cell 2
                 have d3 : (w6.setCell ⟨w.heap.size + 1, 2, none⟩ (.slice A8 n c8)).cell? ⟨w.heap.size, 3, none⟩ = some (.slice none 0 0) := hr5.cell 3
                 have f0 : (w6.setCell ⟨w.heap.size + 1, 2, none⟩ (.slice A8 n c8)).frozen? ⟨w.heap.size, 0, none⟩ = false := hr5.frozen 0
                 have f1 : (w6.setCell ⟨w.heap.size + 1, 2, none⟩ (.slice A8 n c8)).frozen? ⟨w.heap.size, 1, none⟩ = false := hr5.frozen 1
                 have f2 : (w6.setCell ⟨w.heap.size + 1, 2, none⟩ (.slice A8 n c8)).frozen? ⟨w.heap.size, 2, none⟩ = false := hr5.frozen 2
                 have f3 : (w6.setCell ⟨w.heap.size + 1, 2, none⟩ (.slice A8 n c8)).frozen? ⟨w.heap.size, 3, none⟩ = false := hr5.frozen 3
                 have hblt := hr5.lt
                 clear hx5 hr5
                 clear ho8 hg8 hT)))
          refine bodyPost_ret (v := .tuple #[.agg #[.int .i64 4, .int .u32 0, .slice A8 n c8, .slice none 0 0], .int .i64 ((4 + n : Nat) : Int), .int .i64 0]) (by simp [results, Tryd.results42, go_sem, d0, d1, d2, d3]) rfl ?_
          refine ⟨⟨4, 0, tx, []⟩, 4 + n, A8, none, c8, 0, ?_, two_four HT6.out _ _ _ _ _ _, fun _ => ⟨?_, by omega, ?_, ?_, World.ownsRow_nil _ _ _ _⟩⟩
          · rw [HE.out]
            show _ = Ending.returned (.tuple #[.agg #[.int .i64 4, .int .u32 0, .slice A8 tx.length c8, .slice none 0 0], .int .i64 ((4 + n : Nat) : Int), .int .i64 0])
            rw [htl]
          · rw [HE.out]
          · rw [HE.out]
          · show World.ownsRow _ _ _ _ (.slice A8 tx.length c8) tx.length (bv tx)
            rw [htl]
            exact two_own HT6.out (own_mono HO8.out (by omega)) (by decide) _ _ _ _ _ _

set_option maxHeartbeats 4000000 in
set_option maxRecDepth 100000 in
theorem rtake5 (w : World) (A : Option Addr) (c : Nat) (left : List UInt8) (hb : Lies w w.heap.size A (bv left)) (hl : left.length ≤ 1000000) (hc : left.length ≤ c ∧ c ≤ maxLen) :
    Calls Tryd.prog 42 #[.int .i64 5, .slice A left.length c] w (TakeQ 5 left w) := by
  have hbo : ∀ o o2, Below w.heap.size w ((w.alloc o).alloc o2) := fun o o2 => ((Below.refl _ _).alloc (Nat.le_refl _) _).alloc (by simp) _
  have HBO := hid hbo
  have HB := hid hb
  clear hbo hb
  obtain ⟨hc1, hc2⟩ := hc
  unfold maxLen at hc2
  by_cases h1 : left.length < 4
  · have HE : Hid ((getF 5 left).1 = 3) := by show _ = _; simp [getF, namesF, textF, h1]
    have t1 : (left.length : Int) < 4 := by omega
    clear h1
    go_enter Tryd.func42, Tryd.ntmps42
    go_wp2
    refine bodyPost_ret (v := .tuple #[.agg #[.int .i64 5, .int .u32 0, .slice none 0 0, .slice none 0 0], .int .i64 0, .int .i64 3]) (by simp [results, Tryd.results42, go_sem]) rfl ?_
    exact takeQ_bad HE.out (by decide) 0 0 (HBO.out _ _)
  · have t1 : decide ((left.length : Int) < 4) = false := by simp; omega
    have h1' : 4 ≤ left.length := by omega
    obtain ⟨n, HN⟩ : ∃ n, Hid (num4 left = n) := ⟨_, hid rfl⟩
    have hn32 : n < 4294967296 := by rw [← HN.out]; exact num4_lt left
    have HT0 := hid (two_lay w 5)
    by_cases h2 : 32768 < n
    · have HE : Hid ((getF 5 left).1 = 6) := by show _ = _; simp [getF, namesF, textF, h1, HN.out, h2]
      have t2 : (32768 : Int) < n := by omega
      clear h1 h2
      go_enter Tryd.func42, Tryd.ntmps42
      go_wp2_with (first
        | (go_at_call 70
           ((with_reducible refine (number_r _ w.heap.size A c left (HB.out.below (HBO.out _ _)) h1' hl).mono ?_); rintro e w4 ⟨rfl, d, hW⟩)
           have hT := HT0.out.later (w5 := w4) (by rw [hW]; exact bel_drewN (Below.refl _ _) d)
           have HT4 := hid hT
           rw [HN.out]
           have e0 : w4.cell? ⟨w.heap.size + 1, 0, none⟩ = some (.int .i64 5) := hT.2.2.cell 0
           have e1 : w4.cell? ⟨w.heap.size + 1, 1, none⟩ = some (.int .u32 0) := hT.2.2.cell 1
           have e2 : w4.cell? ⟨w.heap.size + 1, 2, none⟩ = some (.slice none 0 0) := hT.2.2.cell 2
           have e3 : w4.cell? ⟨w.heap.size + 1, 3, none⟩ = some (.slice none 0 0) := hT.2.2.cell 3
           have d0 : w4.cell? ⟨w.heap.size, 0, none⟩ = some (.int .i64 0) := hT.2.1.cell 0
           have d1 : w4.cell? ⟨w.heap.size, 1, none⟩ = some (.int .u32 0) := hT.2.1.cell 1
           have d2 : w4.cell? ⟨w.heap.size, 2, none⟩ = some (.slice none 0 0) := hT.2.1.cell 2
           have d3 : w4.cell? ⟨w.heap.size, 3, none⟩ = some (.slice none 0 0) := hT.2.1.cell 3
           have f0 : w4.frozen? ⟨w.heap.size, 0, none⟩ = false := hT.2.1.frozen 0
           have f1 : w4.frozen? ⟨w.heap.size, 1, none⟩ = false := hT.2.1.frozen 1
           have f2 : w4.frozen? ⟨w.heap.size, 2, none⟩ = false := hT.2.1.frozen 2
           have f3 : w4.frozen? ⟨w.heap.size, 3, none⟩ = false := hT.2.1.frozen 3
           have hblt := hT.2.1.lt
           clear hW hT))
      refine bodyPost_ret (v := .tuple #[.agg #[.int .i64 5, .int .u32 0, .slice none 0 0, .slice none 0 0], .int .i64 0, .int .i64 6]) (by simp [results, Tryd.results42, go_sem, d0, d1, d2, d3]) rfl ?_
      exact takeQ_bad HE.out (by decide) 0 0 (two_plain HT4.out _ _ _ _)
    · have t2 : decide ((32768 : Int) < n) = false := by simp; omega
      have h2' : n ≤ 32768 := by omega
      by_cases h3 : left.length - 4 < n
      · have HE : Hid ((getF 5 left).1 = 3) := by
          show _ = _
          have h3' : (left.drop 4).length < n := by simp; omega
          simp only [List.length_drop] at h3'
          simp [getF, namesF, textF, h1, HN.out, h2, h3']
        have t3 : (left.length : Int) - 4 < n := by omega
        clear h1 h2 h3
        go_enter Tryd.func42, Tryd.ntmps42
        go_wp2_with (first
          | (go_at_call 70
             ((with_reducible refine (number_r _ w.heap.size A c left (HB.out.below (HBO.out _ _)) h1' hl).mono ?_); rintro e w4 ⟨rfl, d, hW⟩)
             have hT := HT0.out.later (w5 := w4) (by rw [hW]; exact bel_drewN (Below.refl _ _) d)
             have HT4 := hid hT
             rw [HN.out]
             have e0 : w4.cell? ⟨w.heap.size + 1, 0, none⟩ = some (.int .i64 5) := hT.2.2.cell 0
             have e1 : w4.cell? ⟨w.heap.size + 1, 1, none⟩ = some (.int .u32 0) := hT.2.2.cell 1
             have e2 : w4.cell? ⟨w.heap.size + 1, 2, none⟩ = some (.slice none 0 0) := hT.2.2.cell 2
             have e3 : w4.cell? ⟨w.heap.size + 1, 3, none⟩ = some (.slice none 0 0) := hT.2.2.cell 3
             have d0 : w4.cell? ⟨w.heap.size, 0, none⟩ = some (.int .i64 0) := hT.2.1.cell 0
             have d1 : w4.cell? ⟨w.heap.size, 1, none⟩ = some (.int .u32 0) := hT.2.1.cell 1
             have d2 : w4.cell? ⟨w.heap.size, 2, none⟩ = some (.slice none 0 0) := hT.2.1.cell 2
             have d3 : w4.cell? ⟨w.heap.size, 3, none⟩ = some (.slice none 0 0) := hT.2.1.cell 3
             have f0 : w4.frozen? ⟨w.heap.size, 0, none⟩ = false := hT.2.1.frozen 0
             have f1 : w4.frozen? ⟨w.heap.size, 1, none⟩ = false := hT.2.1.frozen 1
             have f2 : w4.frozen? ⟨w.heap.size, 2, none⟩ = false := hT.2.1.frozen 2
             have f3 : w4.frozen? ⟨w.heap.size, 3, none⟩ = false := hT.2.1.frozen 3
             have hblt := hT.2.1.lt
             clear hW hT))
        refine bodyPost_ret (v := .tuple #[.agg #[.int .i64 5, .int .u32 0, .slice none 0 0, .slice none 0 0], .int .i64 0, .int .i64 3]) (by simp [results, Tryd.results42, go_sem, d0, d1, d2, d3]) rfl ?_
        exact takeQ_bad HE.out (by decide) 0 0 (two_plain HT4.out _ _ _ _)
      · have t3 : decide ((left.length : Int) - 4 < n) = false := by simp; omega
        have h3' : 4 + n ≤ left.length := by omega
        have h3c : 4 + n ≤ c := by omega
        have h3' : (4 : Int) + n ≤ c := by omega
        obtain ⟨tx, HTX⟩ : ∃ tx, Hid ((left.drop 4).take n = tx) := ⟨_, hid rfl⟩
        have htl : tx.length = n := by rw [← HTX.out]; simp; omega
        have HTF : Hid (textF left = (0, tx, left.drop (4 + n))) := by
          show _ = _
          have h5 : ¬ (left.drop 4).length < n := by simp; omega
          rw [textF, if_neg h1, HN.out, if_neg h2, if_neg h5, HTX.out, List.drop_drop]
        obtain ⟨b, o, rfl, hbb, _⟩ := HB.out (by intro e; have := congrArg List.length e; simp [bv] at this; rw [this] at h1'; simp at h1')
        have HSUB : Hid (∀ w4, Below w.heap.size w w4 → Lies w4 w.heap.size (some ⟨b, o + 4, none⟩) (bv tx)) := fun w4 hb => by rw [← HTX.out]; exact lies_sub (HB.out.below hb)
        clear h1 h2 h3
        obtain ⟨⟨er, ls⟩, HSP⟩ : ∃ x, Hid (splF tx = x) := ⟨_, hid rfl⟩
        have HE : Hid ((getF 5 left).1 = er) := by
          show _ = _
          have h := (namesF_spl HTF.out).1
          rw [HSP.out] at h
          simpa [getF] using h
        have HE2 : Hid (er = 0 → getF 5 left = (0, ⟨0, 0, [], ls⟩, left.drop (4 + n))) := fun h0 => by
          have h := (namesF_spl HTF.out).2
          rw [HSP.out] at h
          simpa [getF] using h h0
        by_cases h4 : c = 4
        · subst h4
          obtain rfl : n = 0 := by omega
          have HL4 : Hid (∀ W B, Lies W B (some ⟨b, o, none⟩) (bv tx)) := fun W B => by
            have : tx = [] := List.eq_nil_of_length_eq_zero (by omega)
            rw [this]
            exact Lies.nil_
          go_enter Tryd.func42, Tryd.ntmps42
          go_wp2_with (first
            | (go_at_call 70
               ((with_reducible refine (number_r _ w.heap.size _ _ left (HB.out.below (HBO.out _ _)) h1' hl).mono ?_); rintro e w4 ⟨rfl, d, hW⟩)
               have hT := HT0.out.later (w5 := w4) (by rw [hW]; exact bel_drewN (Below.refl _ _) d)
               have HT4 := hid hT
               have hz4 : w.heap.size ≤ w4.heap.size := hT.1.size
               rw [HN.out]
               clear hW hT)
            | (go_at_call 71
               have HL9 := hid (HL4.out w4 w4.heap.size)
               ((with_reducible refine (rsplit_n _ _ _ 0 tx er ls HSP htl HL9 (by omega)).mono ?_); rintro e w6 ⟨A8, c8, rfl, HO8, HB6⟩)
               have hT := HT4.out.later HB6.out
               have HT6 := hid hT
               have g3 : w6.cell? ⟨w.heap.size + 1, 3, none⟩ = some (.slice none 0 0) := hT.2.2.cell 3
               have gf3 : w6.frozen? ⟨w.heap.size + 1, 3, none⟩ = false := hT.2.2.frozen 3
               have hx5 := hT.2.2.store 3 (.slice A8 ls.length c8)
               have hr5 := box_other (i := 3) hT.2.1 (g' := w.heap.size + 1) (by omega) (.slice A8 ls.length c8)
               have e0 : (w6.setCell ⟨w.heap.size + 1, 3, none⟩ (.slice A8 ls.length c8)).cell? ⟨w.heap.size + 1, 0, none⟩ = some (.int .i64 5) := hx5.cell 0
               have e1 : (w6.setCell ⟨w.heap.size + 1, 3, none⟩ (.slice A8 ls.length c8)).cell? ⟨w.heap.size + 1, 1, none⟩ = some (.int .u32 0) := hx5.cell 1
               have e2 : (w6.setCell ⟨w.heap.size + 1, 3, none⟩ (.slice A8 ls.length c8)).cell? ⟨w.heap.size + 1, 2, none⟩ = some (.slice none 0 0) := hx5.cell 2
               have e3 : (w6.setCell ⟨w.heap.size + 1, 3, none⟩ (.slice A8 ls.length c8)).cell? ⟨w.heap.size + 1, 3, none⟩ = some (.slice A8 ls.length c8) := hx5.cell 3
               have d0 : (w6.setCell ⟨w.heap.size + 1, 3, none⟩ (.slice A8 ls.length c8)).cell? ⟨w.heap.size, 0, none⟩ = some (.int .i64 0) := hr5.cell 0
               have d1 : (w6.setCell ⟨w.heap.size + 1, 3, none⟩ (.slice A8 ls.length c8)).cell? ⟨w.heap.size, 1, none⟩ = some (.int .u32 0) := hr5.cell 1
               have d2 : (w6.setCell ⟨w.heap.size + 1, 3, none⟩ (.slice A8 ls.length c8)).cell? ⟨w.heap.size, 2, none⟩ = some (.slice none 0 0) := hr5.cell 2
               have d3 : (w6.setCell ⟨w.heap.size + 1, 3, none⟩ (.slice A8 ls.length c8)).cell? ⟨w.heap.size, 3, none⟩ = some (.slice none 0 0) := hr5.cell 3
               have f0 : (w6.setCell ⟨w.heap.size + 1, 3, none⟩ (.slice A8 ls.length c8)).frozen? ⟨w.heap.size, 0, none⟩ = false := hr5.frozen 0
               have f1 : (w6.setCell ⟨w.heap.size + 1, 3, none⟩ (.slice A8 ls.length c8)).frozen? ⟨w.heap.size, 1, none⟩ = false := hr5.frozen 1
               have f2 : (w6.setCell ⟨w.heap.size + 1, 3, none⟩ (.slice A8 ls.length c8)).frozen? ⟨w.heap.size, 2, none⟩ = false := hr5.frozen 2
               have f3 : (w6.setCell ⟨w.heap.size + 1, 3, none⟩ (.slice A8 ls.length c8)).frozen? ⟨w.heap.size, 3, none⟩ = false := hr5.frozen 3
               have hblt := hr5.lt
               clear hx5 hr5
               clear hT))
          refine bodyPost_ret (v := .tuple #[.agg #[.int .i64 5, .int .u32 0, .slice none 0 0, .slice A8 ls.length c8], .int .i64 ((4 + 0 : Nat) : Int), .int .i64 er]) (by simp [results, Tryd.results42, go_sem, d0, d1, d2, d3]) rfl ?_
          refine ⟨⟨5, 0, [], ls⟩, 4 + 0, none, A8, 0, c8, ?_, two_four HT6.out _ _ _ _ _ _, fun h0 => ⟨?_, by omega, ?_, World.ownsRow_nil _ _ _ _, two_own HT6.out (own_mono HO8.out hz4) (by decide) _ _ _ _ _ _⟩⟩
          · rw [HE.out]; rfl
          · rw [HE2.out (HE.out.symm.trans h0)]
          · rw [HE2.out (HE.out.symm.trans h0)]
        · have h4' : ¬ (4 = c) := fun h => h4 h.symm
          go_enter Tryd.func42, Tryd.ntmps42
          go_wp2_with (first
            | (go_at_call 70
               ((with_reducible refine (number_r _ w.heap.size _ _ left (HB.out.below (HBO.out _ _)) h1' hl).mono ?_); rintro e w4 ⟨rfl, d, hW⟩)
               have hT := HT0.out.later (w5 := w4) (by rw [hW]; exact bel_drewN (Below.refl _ _) d)
               have HT4 := hid hT
               have hz4 : w.heap.size ≤ w4.heap.size := hT.1.size
               rw [HN.out]
               clear hW hT)
            | (go_at_call 71
               have HL9 := hid ((HSUB.out _ HT4.out.1).more hz4)
               ((with_reducible refine (rsplit_n _ _ _ n tx er ls HSP (by omega) HL9 (by omega)).mono ?_); rintro e w6 ⟨A8, c8, rfl, HO8, HB6⟩)
               have hT := HT4.out.later HB6.out
               have HT6 := hid hT
               have g3 : w6.cell? ⟨w.heap.size + 1, 3, none⟩ = some (.slice none 0 0) := hT.2.2.cell 3
               have gf3 : w6.frozen? ⟨w.heap.size + 1, 3, none⟩ = false := hT.2.2.frozen 3
               have hx5 := hT.2.2.store 3 (.slice A8 ls.length c8)
               have hr5 := box_other (i := 3) hT.2.1 (g' := w.heap.size + 1) (by omega) (.slice A8 ls.length c8)
               have e0 : (w6.setCell ⟨w.heap.size + 1, 3, none⟩ (.slice A8 ls.length c8)).cell? ⟨w.heap.size + 1, 0, none⟩ = some (.int .i64 5) := hx5.cell 0
               have e1 : (w6.setCell ⟨w.heap.size + 1, 3, none⟩ (.slice A8 ls.length c8)).cell? ⟨w.heap.size + 1, 1, none⟩ = some (.int .u32 0) := hx5.cell 1
               have e2 : (w6.setCell ⟨w.heap.size + 1, 3, none⟩ (.slice A8 ls.length c8)).cell? ⟨w.heap.size + 1, 2, none⟩ = some (.slice none 0 0) := hx5.cell 2
               have e3 : (w6.setCell ⟨w.heap.size + 1, 3, none⟩ (.slice A8 ls.length c8)).cell? ⟨w.heap.size + 1, 3, none⟩ = some (.slice A8 ls.length c8) := hx5.cell 3
               have d0 : (w6.setCell ⟨w.heap.size + 1, 3, none⟩ (.slice A8 ls.length c8)).cell? ⟨w.heap.size, 0, none⟩ = some (.int .i64 0) := hr5.cell 0
               have d1 : (w6.setCell ⟨w.heap.size + 1, 3, none⟩ (.slice A8 ls.length c8)).cell? ⟨w.heap.size, 1, none⟩ = some (.int .u32 0) := hr5.cell 1
               have d2 : (w6.setCell ⟨w.heap.size + 1, 3, none⟩ (.slice A8 ls.length c8)).cell? ⟨w.heap.size, 2, none⟩ = some (.slice none 0 0) := hr5.cell 2
               have d3 : (w6.setCell ⟨w.heap.size + 1, 3, none⟩ (.slice A8 ls.length c8)).cell? ⟨w.heap.size, 3, none⟩ = some (.slice none 0 0) := hr5.cell 3
               have f0 : (w6.setCell ⟨w.heap.size + 1, 3, none⟩ (.slice A8 ls.length c8)).frozen? ⟨w.heap.size, 0, none⟩ = false := hr5.frozen 0
               have f1 : (w6.setCell ⟨w.heap.size + 1, 3, none⟩ (.slice A8 ls.length c8)).frozen? ⟨w.heap.size, 1, none⟩ = false := hr5.frozen 1
               have f2 : (w6.setCell ⟨w.heap.size + 1, 3, none⟩ (.slice A8 ls.length c8)).frozen? ⟨w.heap.size, 2, none⟩ = false := hr5.frozen 2
               have f3 : (w6.setCell ⟨w.heap.size + 1, 3, none⟩ (.slice A8 ls.length c8)).frozen? ⟨w.heap.size, 3, none⟩ = false := hr5.frozen 3
               have hblt := hr5.lt
               clear hx5 hr5
               clear hT))
          refine bodyPost_ret (v := .tuple #[.agg #[.int .i64 5, .int .u32 0, .slice none 0 0, .slice A8 ls.length c8], .int .i64 ((4 + n : Nat) : Int), .int .i64 er]) (by simp [results, Tryd.results42, go_sem, d0, d1, d2, d3]) rfl ?_
          refine ⟨⟨5, 0, [], ls⟩, 4 + n, none, A8, 0, c8, ?_, two_four HT6.out _ _ _ _ _ _, fun h0 => ⟨?_, by omega, ?_, World.ownsRow_nil _ _ _ _, two_own HT6.out (own_mono HO8.out hz4) (by decide) _ _ _ _ _ _⟩⟩
          · rw [HE.out]; rfl
          · rw [HE2.out (HE.out.symm.trans h0)]
          · rw [HE2.out (HE.out.symm.trans h0)]

end Go.Proofs.YtdplngplljejhaaDoor
