import Derived.Test.YtgkcappcjlfloaaMK
namespace Go.Proofs.Ytgkcappcjlfloaa
open Go.RowKit

/-- The document's Default on its way: characters from 1 on are off. -/
def cN (j : Nat) : List UInt8 := (List.range 19).map fun k => if 1 ≤ k ∧ k < j then 255 else 0
theorem cN_step (j : Nat) (h : 1 ≤ j ∧ j < 19) : (cN j).set j 255 = cN (j + 1) := by
  have : ∀ k : Fin 19, 1 ≤ k.1 → (cN k.1).set k.1 255 = cN (k.1 + 1) := by decide
  exact this ⟨j, h.2⟩ h.1
def pairsD : List (UInt8 × UInt8) := [(1, 3), (2, 28), (3, 127), (4, 21), (5, 4), (8, 17), (9, 19), (10, 26), (12, 18), (13, 23), (14, 22), (18, 15)]
def pA (j : Nat) : UInt8 := (pairsD.getD j (0, 0)).1
def pB (j : Nat) : UInt8 := (pairsD.getD j (0, 0)).2
def cP (j : Nat) : List UInt8 := (pairsD.take j).foldl (fun c p => c.set p.1.toNat p.2) (cN 19)
theorem cP_step (j : Nat) (h : j < 12) : (cP j).set (pA j).toNat (pB j) = cP (j + 1) := by
  have : ∀ k : Fin 12, (cP k.1).set (pA k.1).toNat (pB k.1) = cP (k.1 + 1) := by decide
  exact this ⟨j, h⟩
theorem pA_lt (j : Nat) (h : j < 12) : (pA j).toNat < 19 := by
  have : ∀ k : Fin 12, (pA k.1).toNat < 19 := by decide
  exact this ⟨j, h⟩
theorem cP_end : cP 12 = (dN 0).c := by decide
theorem cN_len (j : Nat) : (cN j).length = 19 := by simp [cN]
theorem cP_len (j : Nat) (h : j ≤ 12) : (cP j).length = 19 := by
  have : ∀ k : Fin 13, (cP k.1).length = 19 := by decide
  exact this ⟨j, by omega⟩
theorem Try.size58 : (Try.prog.info? 58).map (·.size) = some 2 := by kernel_rfl
def cT (c : List UInt8) : Tm := ⟨c, 0, 38400, 38400, 1, 0⟩
theorem index_pairs (j : Nat) (h : j < 12) : ∀ W : World, (Instr.index 59 (.agg #[.int .u8 1, .int .u8 3, .int .u8 2, .int .u8 28, .int .u8 3, .int .u8 127, .int .u8 4, .int .u8 21, .int .u8 5, .int .u8 4, .int .u8 8, .int .u8 17, .int .u8 9, .int .u8 19, .int .u8 10, .int .u8 26, .int .u8 12, .int .u8 18, .int .u8 13, .int .u8 23, .int .u8 14, .int .u8 22, .int .u8 18, .int .u8 15]) (.int .i64 (j : Int))).run Try.prog W = .ok (.agg #[.int .u8 ((pA j).toNat : Int), .int .u8 ((pB j).toNat : Int)]) W := fun W => by
  rw [run_index_agg W 59 58 12 _ 2 _ .i64 j Try.underlying59 Try.underlying58 rfl Try.size58 h]
  rcases (by omega : j = 0 ∨ j = 1 ∨ j = 2 ∨ j = 3 ∨ j = 4 ∨ j = 5 ∨ j = 6 ∨ j = 7 ∨ j = 8 ∨ j = 9 ∨ j = 10 ∨ j = 11) with rfl | rfl | rfl | rfl | rfl | rfl | rfl | rfl | rfl | rfl | rfl | rfl <;> rfl
theorem box_c {w : World} {g : Nat} {t : Tm} (ht : t.c.length = 19) (h : Box w g 26 t.cs) (k : Nat) (hk : k < 19) (b : UInt8) : Box (w.setCell ⟨g, k, none⟩ (.int .u8 (b.toNat : Int))) g 26 ({ t with c := t.c.set k b } : Tm).cs := by
  have h1 := h.store k (.int .u8 (b.toNat : Int))
  rwa [cs_setc ht k hk] at h1
set_option maxRecDepth 100000 in
set_option maxHeartbeats 4000000 in
theorem defaultr_any (w : World) : Calls Try.prog 21 #[] w fun e w' => e = .returned (.agg dT.cs) ∧ Hid (Below w.heap.size w w') := by
  have H0 := hid (Pair.new2 w)
  have hz : Hid (Tm.zero.cs.size = 24) := hid (cs_size rfl)
  go_enter Try.func21, Try.ntmps21
  go_wp2_with (first
    | (refine wpList_build_at rfl 26 _ rfl (cT (cN 0)).cs ?hc ?_
       case hc => kernel_rfl)
    | (refine st26 (by rfl) _ _ (by rfl) _ (by rfl) (cT (cN 0)) rfl (by rfl) _ H0.out.boxT hz.out ?_
       intro u2 hb2 ht2
       have H2 := hid (H0.out.turnT ht2.out hb2.out)
       clear H0 hb2 ht2))
  go_loopw [2] (fun i wr => ∃ j : Nat, 1 ≤ j ∧ j ≤ 19 ∧ i = .int .i64 (j : Int) ∧ Hid (Pair w wr (w.heap.size + 1) w.heap.size (cT (cN j)) Tm.zero)) (fun i _ => (19 - intOf i).toNat)
  case atStart => exact ⟨1, by omega, by omega, rfl, H2⟩
  case round =>
    obtain ⟨j, hj0, hj, rfl, H3⟩ := hrel
    clear H2
    by_cases hlt : j < 19
    · have hl : (cT (cN j)).c.length = 19 := cN_len j
      have ck : wr.cell? ⟨w.heap.size + 1, j, none⟩ = some (.int .u8 (((cN j).getD j 0).toNat : Int)) := (H3.out.boxT.cell j).trans (cs_char2 hl j hlt)
      have fk : wr.frozen? ⟨w.heap.size + 1, j, none⟩ = false := H3.out.boxT.frozen j
      have k1 : (0 : Int) ≤ (j : Int) ∧ (j : Int) < 19 := by omega
      have H4 : Hid (Pair w (wr.setCell ⟨w.heap.size + 1, j, none⟩ (.int .u8 255)) (w.heap.size + 1) w.heap.size (cT (cN (j + 1))) Tm.zero) := hid (by
        have := H3.out.turnT (Turn.setCell wr (w.heap.size + 1) j (.int .u8 255)) (box_c hl H3.out.boxT j hlt 255)
        have e : ({ cT (cN j) with c := (cT (cN j)).c.set j 255 } : Tm) = cT (cN (j + 1)) := by
          show cT ((cN j).set j 255) = _
          rw [cN_step j ⟨hj0, hlt⟩]
        rwa [e] at this)
      go_wp2
      go_roundw
      case rel => exact ⟨j + 1, by omega, by omega, by go_num, H4⟩
      case measure => simp [intOf]; omega
    · obtain rfl : j = 19 := by omega
      clear hj0 hj hlt
      obtain ⟨w3, hw3⟩ : ∃ z, z = wr := ⟨_, rfl⟩
      rw [← hw3] at H3 ⊢
      clear hw3
      go_wp2_with (first
        | (refine wpList_build_at rfl 59 _ rfl #[.int .u8 1, .int .u8 3, .int .u8 2, .int .u8 28, .int .u8 3, .int .u8 127, .int .u8 4, .int .u8 21, .int .u8 5, .int .u8 4, .int .u8 8, .int .u8 17, .int .u8 9, .int .u8 19, .int .u8 10, .int .u8 26, .int .u8 12, .int .u8 18, .int .u8 13, .int .u8 23, .int .u8 14, .int .u8 22, .int .u8 18, .int .u8 15] ?hc ?_
           case hc => kernel_rfl))
      go_loopw [28] (fun i wr => ∃ j : Nat, j ≤ 12 ∧ i = .int .i64 (j : Int) ∧ Hid (Pair w wr (w.heap.size + 1) w.heap.size (cT (cP j)) Tm.zero)) (fun i _ => (12 - intOf i).toNat)
      case atStart => exact ⟨0, by omega, rfl, H3⟩
      case round =>
        clear H3
        obtain ⟨j, hj, rfl, H3⟩ := hrel
        by_cases hlt : j < 12
        · have hix := index_pairs j hlt
          have hl : (cT (cP j)).c.length = 19 := cP_len j hj
          have ha := pA_lt j hlt
          have hst := hid (cP_step j hlt)
          generalize pA j = a at hix ha hst
          generalize pB j = b at hix hst
          have H4 : Hid (Pair w (wr.alloc (.cells #[.int .u8 (a.toNat : Int), .int .u8 (b.toNat : Int)] 58)) (w.heap.size + 1) w.heap.size (cT (cP j)) Tm.zero) := hid (H3.out.grow ((Below.refl _ _).alloc (Nat.le_refl _) _))
          have ck : (wr.alloc (.cells #[.int .u8 (a.toNat : Int), .int .u8 (b.toNat : Int)] 58)).cell? ⟨w.heap.size + 1, a.toNat, none⟩ = some (.int .u8 (((cP j).getD a.toNat 0).toNat : Int)) := (H4.out.boxT.cell a.toNat).trans (cs_char2 hl a.toNat ha)
          have fk : (wr.alloc (.cells #[.int .u8 (a.toNat : Int), .int .u8 (b.toNat : Int)] 58)).frozen? ⟨w.heap.size + 1, a.toNat, none⟩ = false := H4.out.boxT.frozen a.toNat
          have H5 : Hid (Pair w ((wr.alloc (.cells #[.int .u8 (a.toNat : Int), .int .u8 (b.toNat : Int)] 58)).setCell ⟨w.heap.size + 1, a.toNat, none⟩ (.int .u8 (b.toNat : Int))) (w.heap.size + 1) w.heap.size (cT (cP (j + 1))) Tm.zero) := hid (by
            have := H4.out.turnT (Turn.setCell _ (w.heap.size + 1) a.toNat (.int .u8 (b.toNat : Int))) (box_c hl H4.out.boxT a.toNat ha b)
            have e : ({ cT (cP j) with c := (cT (cP j)).c.set a.toNat b } : Tm) = cT (cP (j + 1)) := by
              show cT ((cP j).set a.toNat b) = _
              rw [hst.out]
            rwa [e] at this)
          have k1 : (0 : Int) ≤ (a.toNat : Int) ∧ (a.toNat : Int) < 19 := by omega
          clear hst H3
          go_wp2
          go_roundw
          case rel => exact ⟨j + 1, by omega, by go_num, H5⟩
          case measure => simp [intOf]; omega
        · obtain rfl : j = 12 := by omega
          clear hj hlt
          have H3 : Hid (Pair w wr (w.heap.size + 1) w.heap.size (dN 0) Tm.zero) := H3
          obtain ⟨w4, hw4⟩ : ∃ z, z = wr := ⟨_, rfl⟩
          rw [← hw4] at H3 ⊢
          clear hw4
          go_wp2_with (first
            | (refine wpList_build_at rfl 57 _ rfl #[.int .i64 36, .int .i64 38, .int .i64 41, .int .i64 50, .int .i64 51, .int .i64 53, .int .i64 54, .int .i64 55, .int .i64 60, .int .i64 61, .int .i64 59, .int .i64 70, .int .i64 72, .int .i64 91] ?hc ?_
               case hc => kernel_rfl))
          go_loopw [39] (fun i wr => ∃ j : Nat, j ≤ 14 ∧ i = .int .i64 (j : Int) ∧ Hid (Pair w wr (w.heap.size + 1) w.heap.size (dN j) Tm.zero)) (fun i _ => (14 - intOf i).toNat)
          case atStart => exact ⟨0, by omega, rfl, H3⟩
          case round =>
            clear H3
            obtain ⟨j, hj, rfl, H3⟩ := hrel
            have hs : (dN j).cs.size = 24 := cs_size rfl
            by_cases hlt : j < 14
            · have hix := index_ops j hlt
              have hst := hid (setT_dN j hlt)
              go_wp2_with (first
                | (refine ld26 (by rfl) _ (by rfl) _ (by rfl) (dN j).cs H3.out.boxT hs ?_)
                | (go_at_call 15
                   (with_reducible refine (setr_any _ (dN j) (dN_ok j hj) (opD j) true).mono ?_)
                   rintro e u4 ⟨rfl, K4⟩
                   have H4 := hid (H3.out.grow K4.out)
                   clear H3 K4)
                | (refine st26 (by rfl) _ _ (by rfl) _ (by rfl) (setT (dN j) (opD j) true) rfl (by rfl) _ H4.out.boxT hs ?_
                   intro u5 hb5 ht5
                   have H5 := hid (H4.out.turnT ht5.out hb5.out)
                   rw [hst.out] at H5))
              go_roundw
              case rel => exact ⟨j + 1, by omega, by go_num, H5⟩
              case measure => simp [intOf]; omega
            · obtain rfl : j = 14 := by omega
              go_wp2_with (first
                | (refine ld26 (by rfl) _ (by rfl) _ (by rfl) (dN 14).cs H3.out.boxT hs ?_)
                | (refine st26 (by rfl) _ _ (by rfl) _ (by rfl) (dN 14) rfl (by rfl) _ H3.out.boxR hz.out ?_
                   intro u5 hb5 ht5
                   have H5 := hid (H3.out.turnR ht5.out hb5.out)))
              refine bodyPost_ret (results26 rfl _ _ _ (dN 14) rfl rfl H5.out.boxR) rfl ?_
              exact ⟨rfl, hid H5.out.bel⟩
end Go.Proofs.Ytgkcappcjlfloaa
