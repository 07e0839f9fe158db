import Derived.Test.YteeienmigoebmaaGreatDoorPSA
import Derived.Test.YteeienmigoebmaaGreatDoorPRH
namespace Go.Proofs.YteeienmigoebmaaGreatDoor
namespace L19
open Go.RowKit L18

/-! Layer 19: the document's Right. -/
theorem kinds {k : Nat} (h1 : 1 ≤ k) (h2 : k ≤ 16) : k = 1 ∨ k = 2 ∨ k = 3 ∨ k = 4 ∨ k = 5 ∨ k = 6 ∨ k = 7 ∨ k = 8 ∨ k = 9 ∨ k = 10 ∨ k = 11 ∨ k = 12 ∨ k = 13 ∨ k = 14 ∨ k = 15 ∨ k = 16 := by omega
set_option maxRecDepth 100000 in
theorem index_args {k : Nat} (h1 : 1 ≤ k) (h2 : k ≤ 16) (W : World) : (Instr.index 77 (.agg argsV) (.int .i64 k)).run Tryz.prog W = .ok (.int .i64 (argN k)) W := by
  rcases kinds h1 h2 with rfl | rfl | rfl | rfl | rfl | rfl | rfl | rfl | rfl | rfl | rfl | rfl | rfl | rfl | rfl | rfl <;> rfl
set_option maxRecDepth 100000 in
theorem index_words {k : Nat} (h1 : 1 ≤ k) (h2 : k ≤ 16) (W : World) : (Instr.index 75 (.agg wordsV) (.int .i64 k)).run Tryz.prog W = .ok (.string (bs (word k))) W := by
  rcases kinds h1 h2 with rfl | rfl | rfl | rfl | rfl | rfl | rfl | rfl | rfl | rfl | rfl | rfl | rfl | rfl | rfl | rfl <;> rfl
/-- What stands with an operation that doesn't belong to it. -/
def badO (N : Nat) (a b : Int) (t : List UInt8) : Bool := (decide (N ≠ 9) && !t.isEmpty) || (decide (N ≠ 2) && decide (b ≠ 0)) || ((decide (N = 0) || decide (N = 9)) && decide (a ≠ 0))
theorem arg_four {k : Nat} (h1 : 1 ≤ k) (h2 : k ≤ 16) : argN k = 0 ∨ argN k = 1 ∨ argN k = 2 ∨ argN k = 9 := by
  rcases kinds h1 h2 with rfl | rfl | rfl | rfl | rfl | rfl | rfl | rfl | rfl | rfl | rfl | rfl | rfl | rfl | rfl | rfl <;> decide
theorem right_split {k N : Nat} (h1 : 1 ≤ k) (h2 : k ≤ 16) (hN : argN k = N) {a b i all : Int} {t : List UInt8} : rightO ((k : Int), a, b, t) i all = (!badO N a b t && kindB k a b t.length i all) := by
  have h4 := arg_four h1 h2
  rw [hN] at h4
  have e1 : (1 : Int) ≤ (k : Int) := by omega
  have e2 : (k : Int) ≤ 16 := by omega
  unfold rightO badO
  simp only [e1, e2, decide_true, Bool.true_and, Int.toNat_natCast, hN]
  rcases h4 with rfl | rfl | rfl | rfl <;> cases t.isEmpty <;> by_cases ha : a = 0 <;> by_cases hb : b = 0 <;> simp [ha, hb]
section
variable {w : World}
set_option maxRecDepth 100000 in
set_option maxHeartbeats 8000000 in
theorem right3 (w : World) (a b : Int) (t : List UInt8) (i all : Int) {k : Nat} (h1 : 1 ≤ k) (h2 : k ≤ 16) {r : Bool} (hr : Hid (rightO ((k : Int), a, b, t) i all = r)) : Calls Tryz.prog 49 #[.agg #[.int .i64 k, .int .i64 a, .int .i64 b, .string (bs t)], .int .i64 i, .int .i64 all] w fun e w' => e = .returned (.bool r) ∧ Hid (Below w.heap.size w w') := by
  have K0 : Hid (Below w.heap.size w (w.alloc (.cells #[.int .i64 k, .int .i64 a, .int .i64 b, .string (bs t)] 53))) := hid ((Below.refl _ w).alloc (Nat.le_refl _) _)
  have G0 := hid (Box.new w 53 #[.int .i64 k, .int .i64 a, .int .i64 b, .string (bs t)])
  have q1 : ¬ (k : Int) < 1 := by omega
  have q2 : ¬ (k : Int) > 16 := by omega
  go_enter Tryz.func49, Tryz.ntmps49
  go_upto_region 3 with fail
  generalize w.alloc (.cells #[.int .i64 k, .int .i64 a, .int .i64 b, .string (bs t)] 53) = u at K0 G0 ⊢
  have c0 : u.cell? ⟨w.heap.size, 0, none⟩ = some (.int .i64 k) := G0.out.cell 0
  have hix : ∀ W, (Instr.index 77 (.agg argsV) (.int .i64 k)).run Tryz.prog W = .ok (.int .i64 (argN k)) W := index_args h1 h2
  go_cut [7] (fun z wx => z = .int .i64 (argN k) ∧ Hid (Below u.heap.size u wx))
  case first =>
    go_region_held3 (fun W => W.cell? ⟨w.heap.size, 0, none⟩ = some (.int .i64 k)) (first | exact c1 | (simp; exact c0) | exact c0) ((first
      | (go_at_call 24
         (with_reducible refine (argsr_any _).mono ?_)
         rintro e w1 ⟨rfl, B1⟩
         have C1 : Below u.heap.size u w1 := Below.trans ((Below.refl _ u).drew) B1.out
         have c1 : w1.cell? ⟨w.heap.size, 0, none⟩ = some (.int .i64 k) := (box_below G0.out C1).cell 0)))
    all_goals
      go_wp2_with fail
      go_meet
      exact ⟨rfl, hid C1⟩
  case rest =>
  obtain ⟨rfl, BX⟩ := hcut
  have bx := BX.out
  have c0 : wc.cell? ⟨w.heap.size, 0, none⟩ = some (.int .i64 k) := (box_below G0.out bx).cell 0
  have c1 : wc.cell? ⟨w.heap.size, 1, none⟩ = some (.int .i64 a) := (box_below G0.out bx).cell 1
  have c2 : wc.cell? ⟨w.heap.size, 2, none⟩ = some (.int .i64 b) := (box_below G0.out bx).cell 2
  have c3 : wc.cell? ⟨w.heap.size, 3, none⟩ = some (.string (bs t)) := (box_below G0.out bx).cell 3
  have BW := bel_t K0 bx
  have GX : Hid (Box wc w.heap.size 53 #[.int .i64 k, .int .i64 a, .int .i64 b, .string (bs t)]) := hid (box_below G0.out bx)
  obtain ⟨N, hN⟩ : ∃ N, Hid (argN k = N) := ⟨_, hid rfl⟩
  rw [hN.out]
  obtain ⟨bad, hbad⟩ : ∃ z, Hid (badO N a b t = z) := ⟨_, hid rfl⟩
  have hrr := hr.out
  rw [right_split h1 h2 hN.out, hbad.out] at hrr
  have hN4 : N = 0 ∨ N = 1 ∨ N = 2 ∨ N = 9 := by rw [← hN.out]; exact arg_four h1 h2
  have HR := hid hrr
  clear hrr hix bx
  generalize w.heap.size = g0 at c0 c1 c2 c3 GX ⊢
  go_upto_region 4 with fail
  obtain ⟨NI, hNI⟩ : ∃ z : Int, (N : Int) = z := ⟨_, rfl⟩
  rw [hNI]
  have hbad0 := hbad.out
  go_cut [48] (fun z wy => z = .bool bad ∧ wy = wc)
  case first =>
    unfold badO at hbad0
    clear hbad HR hr hN
    have ht : (bs t).toList.isEmpty = t.isEmpty := by
      rw [ByteArray.toList_eq]
      cases t <;> rfl
    obtain ⟨tb, htb⟩ : ∃ z, t.isEmpty = z := ⟨_, rfl⟩
    rw [htb] at ht
    obtain ⟨pb, hpb⟩ : ∃ z, (b != 0) = z := ⟨_, rfl⟩
    obtain ⟨pa, hpa⟩ : ∃ z, (a != 0) = z := ⟨_, rfl⟩
    have db : decide (b ≠ 0) = pb := by rw [← hpb]; by_cases h : b = 0 <;> simp [h]
    have da : decide (a ≠ 0) = pa := by rw [← hpa]; by_cases h : a = 0 <;> simp [h]
    rw [htb, db, da] at hbad0
    clear htb db da
    rcases hN4 with rfl | rfl | rfl | rfl
    · have e1 : (NI != 9) = true := by rw [← hNI]; decide
      have e2 : (NI != 2) = true := by rw [← hNI]; decide
      have e3 : (NI == 0) = true := by rw [← hNI]; decide
      have e4 : (NI == 9) = false := by rw [← hNI]; decide
      clear hNI
      cases tb
      · go_wp2_with fail
        go_meet
        exact ⟨by simp [← hbad0], rfl⟩
      · cases pb <;> cases pa
        all_goals
          go_wp2_with fail
          go_meet
          exact ⟨by simp [← hbad0], rfl⟩
    · have e1 : (NI != 9) = true := by rw [← hNI]; decide
      have e2 : (NI != 2) = true := by rw [← hNI]; decide
      have e3 : (NI == 0) = false := by rw [← hNI]; decide
      have e4 : (NI == 9) = false := by rw [← hNI]; decide
      clear hNI
      cases tb
      · go_wp2_with fail
        go_meet
        exact ⟨by simp [← hbad0], rfl⟩
      · cases pb
        all_goals
          go_wp2_with fail
          go_meet
          exact ⟨by simp [← hbad0], rfl⟩
    · have e1 : (NI != 9) = true := by rw [← hNI]; decide
      have e2 : (NI != 2) = false := by rw [← hNI]; decide
      have e3 : (NI == 0) = false := by rw [← hNI]; decide
      have e4 : (NI == 9) = false := by rw [← hNI]; decide
      clear hNI
      cases tb
      all_goals
        go_wp2_with fail
        go_meet
        exact ⟨by simp [← hbad0], rfl⟩
    · have e1 : (NI != 9) = false := by rw [← hNI]; decide
      have e2 : (NI != 2) = true := by rw [← hNI]; decide
      have e3 : (NI == 0) = false := by rw [← hNI]; decide
      have e4 : (NI == 9) = true := by rw [← hNI]; decide
      clear hNI
      cases pb <;> cases pa
      all_goals
        go_wp2_with fail
        go_meet
        exact ⟨by simp [← hbad0], rfl⟩
  case rest =>
  obtain ⟨rfl, rfl⟩ := hcut
  clear hbad0
  cases bad
  · have HK : Hid (kindB k a b t.length i all = r) := hid (by have := HR.out; simpa using this)
    clear HR hbad hr hN hN4
    rcases kinds h1 h2 with rfl | rfl | rfl | rfl | rfl | rfl | rfl | rfl | rfl | rfl | rfl | rfl | rfl | rfl | rfl | rfl
    · have h5 : Hid (btw a 0 255 = r) := HK
      go_wp2_with (first
        | (go_at_call 69
           (with_reducible refine (btw_any _ h5).mono ?_)
           rintro e w5 ⟨rfl, hw⟩
           obtain rfl := hw.symm))
      go_ret
      exact ⟨rfl, BW⟩
    · have h5 : decide (t.length ≤ 1024) = r := HK.out
      subst h5
      have hs := bs_size t
      by_cases h6 : t.length ≤ 1024
      · have h7 : ((bs t).size : Int) ≤ 1024 := by omega
        go_wp2
        go_ret
        simp [h6]
        first | exact BW | exact ⟨by omega, BW⟩
      · have h7 : ¬ ((bs t).size : Int) ≤ 1024 := by omega
        go_wp2
        go_ret
        simp [h6]
        first | exact BW | exact ⟨by omega, BW⟩
    · have h5 : decide (t.length ≤ 1024) = r := HK.out
      subst h5
      have hs := bs_size t
      by_cases h6 : t.length ≤ 1024
      · have h7 : ((bs t).size : Int) ≤ 1024 := by omega
        go_wp2
        go_ret
        simp [h6]
        first | exact BW | exact ⟨by omega, BW⟩
      · have h7 : ¬ ((bs t).size : Int) ≤ 1024 := by omega
        go_wp2
        go_ret
        simp [h6]
        first | exact BW | exact ⟨by omega, BW⟩
    · have h5 : Hid (btw a 1 1024 = r) := HK
      go_wp2_with (first
        | (go_at_call 69
           (with_reducible refine (btw_any _ h5).mono ?_)
           rintro e w5 ⟨rfl, hw⟩
           obtain rfl := hw.symm))
      go_ret
      exact ⟨rfl, BW⟩
    · have h5 : (decide (i < a) && decide (a < all)) = r := HK.out
      subst h5
      by_cases h6 : i < a <;> by_cases h7 : a < all
      all_goals
        go_wp2
        go_ret
        simp [h6, h7]
        exact BW
    · have h5 : (decide (i < a) && decide (a < all)) = r := HK.out
      subst h5
      by_cases h6 : i < a <;> by_cases h7 : a < all
      all_goals
        go_wp2
        go_ret
        simp [h6, h7]
        exact BW
    · have h5 : Hid (btw a 0 3 = r) := HK
      go_wp2_with (first
        | (go_at_call 69
           (with_reducible refine (btw_any _ h5).mono ?_)
           rintro e w5 ⟨rfl, hw⟩
           obtain rfl := hw.symm))
      go_ret
      exact ⟨rfl, BW⟩
    · obtain ⟨p, hp⟩ : ∃ z, Hid (btw a 0 4 = z) := ⟨_, hid rfl⟩
      obtain ⟨q, hq⟩ : ∃ z, Hid (known b = z) := ⟨_, hid rfl⟩
      have h5 : (btw a 0 4 && known b) = r := HK.out
      rw [hp.out, hq.out] at h5
      subst h5
      cases p
      · go_wp2_with (first
          | (go_at_call 69
             (with_reducible refine (btw_any _ hp).mono ?_)
             rintro e w5 ⟨rfl, hw⟩
             obtain rfl := hw.symm))
        go_ret
        exact ⟨rfl, BW⟩
      · go_wp2_with (first
          | (go_at_call 69
             (with_reducible refine (btw_any _ hp).mono ?_)
             rintro e w5 ⟨rfl, hw⟩
             obtain rfl := hw.symm)
          | (go_at_call 70
             (with_reducible refine (sigr_any _ hq).mono ?_)
             rintro e w7 ⟨rfl, B7⟩
             have BZ := bel_t BW B7.out
             have d1 := (box_below GX.out B7.out).cell 1
             have d2 := (box_below GX.out B7.out).cell 2))
        go_ret
        exact ⟨rfl, BZ⟩
    · have h5 : Hid (btw a 0 2 = r) := HK
      go_wp2_with (first
        | (go_at_call 69
           (with_reducible refine (btw_any _ h5).mono ?_)
           rintro e w5 ⟨rfl, hw⟩
           obtain rfl := hw.symm))
      go_ret
      exact ⟨rfl, BW⟩
    · have h5 : true = r := HK.out
      subst h5
      go_wp2
      go_ret
      exact ⟨rfl, BW⟩
    · have h5 : Hid (btw a 0 1 = r) := HK
      go_wp2_with (first
        | (go_at_call 69
           (with_reducible refine (btw_any _ h5).mono ?_)
           rintro e w5 ⟨rfl, hw⟩
           obtain rfl := hw.symm))
      go_ret
      exact ⟨rfl, BW⟩
    · obtain ⟨p, hp⟩ : ∃ z, Hid (known a = z) := ⟨_, hid rfl⟩
      obtain ⟨q, hq⟩ : ∃ z, Hid (btw b 0 2 = z) := ⟨_, hid rfl⟩
      have h5 : (known a && decide (a ≠ 9) && decide (a ≠ 19) && btw b 0 2) = r := HK.out
      obtain ⟨x9, h9⟩ : ∃ z, (a != 9) = z := ⟨_, rfl⟩
      obtain ⟨x19, h19⟩ : ∃ z, (a != 19) = z := ⟨_, rfl⟩
      have d9 : decide (a ≠ 9) = x9 := by rw [← h9]; by_cases h : a = 9 <;> simp [h]
      have d19 : decide (a ≠ 19) = x19 := by rw [← h19]; by_cases h : a = 19 <;> simp [h]
      rw [hp.out, hq.out, d9, d19] at h5
      subst h5
      clear d9 d19
      cases p <;> cases x9 <;> cases x19
      all_goals
        go_wp2_with (first
          | (go_at_call 70
             (with_reducible refine (sigr_any _ hp).mono ?_)
             rintro e w7 ⟨rfl, B7⟩
             have BZ := bel_t BW B7.out
             have d1 := (box_below GX.out B7.out).cell 1
             have d2 := (box_below GX.out B7.out).cell 2)
          | (go_at_call 69
             (with_reducible refine (btw_any _ hq).mono ?_)
             rintro e w5 ⟨rfl, hw⟩
             obtain rfl := hw.symm))
        go_ret
        exact ⟨rfl, BZ⟩
    · obtain ⟨p, hp⟩ : ∃ z, Hid (known a = z) := ⟨_, hid rfl⟩
      obtain ⟨q, hq⟩ : ∃ z, Hid (btw b 0 1 = z) := ⟨_, hid rfl⟩
      have h5 : (known a && btw b 0 1) = r := HK.out
      rw [hp.out, hq.out] at h5
      subst h5
      cases p
      all_goals
        go_wp2_with (first
          | (go_at_call 70
             (with_reducible refine (sigr_any _ hp).mono ?_)
             rintro e w7 ⟨rfl, B7⟩
             have BZ := bel_t BW B7.out
             have d1 := (box_below GX.out B7.out).cell 1
             have d2 := (box_below GX.out B7.out).cell 2)
          | (go_at_call 69
             (with_reducible refine (btw_any _ hq).mono ?_)
             rintro e w5 ⟨rfl, hw⟩
             obtain rfl := hw.symm))
        go_ret
        exact ⟨rfl, BZ⟩
    · have h5 : Hid (btw a 0 1000 = r) := HK
      go_wp2_with (first
        | (go_at_call 69
           (with_reducible refine (btw_any _ h5).mono ?_)
           rintro e w5 ⟨rfl, hw⟩
           obtain rfl := hw.symm))
      go_ret
      exact ⟨rfl, BW⟩
    · obtain ⟨p, hp⟩ : ∃ z, Hid (flagB a = z) := ⟨_, hid rfl⟩
      obtain ⟨q, hq⟩ : ∃ z, Hid (btw b 0 1 = z) := ⟨_, hid rfl⟩
      have h5 : (flagB a && btw b 0 1) = r := HK.out
      rw [hp.out, hq.out] at h5
      subst h5
      cases p
      all_goals
        go_wp2_with (first
          | (go_at_call 71
             (with_reducible refine (flagr_any _ hp).mono ?_)
             rintro e w6 ⟨rfl, hw⟩
             obtain rfl := hw.symm)
          | (go_at_call 69
             (with_reducible refine (btw_any _ hq).mono ?_)
             rintro e w5 ⟨rfl, hw⟩
             obtain rfl := hw.symm))
        go_ret
        exact ⟨rfl, BW⟩
    · have h5 : true = r := HK.out
      subst h5
      go_wp2
      go_ret
      exact ⟨rfl, BW⟩
  · have h5 : r = false := by have := HR.out; simpa using this.symm
    subst h5
    go_wp2
    go_ret
    exact ⟨rfl, BW⟩
end
end L19
end Go.Proofs.YteeienmigoebmaaGreatDoor
