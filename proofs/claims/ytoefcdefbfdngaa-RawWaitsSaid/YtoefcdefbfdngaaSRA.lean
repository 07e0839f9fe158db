import Derived.Test.YtoefcdefbfdngaaNR
import Derived.Deep.DeepCutAuto
namespace Go.Proofs.Ytoefcdefbfdngaa
open Go.RowKit

/-! Layer 14's maths: when a read is done, how long it takes; the document's Ready and Wait. -/
def pz (x : Int) : Int := max 0 x
theorem pz_pos {x : Int} (h : 0 < x) : pz x = x := by unfold pz; omega
theorem pz_neg {x : Int} (h : x ≤ 0) : pz x = 0 := by unfold pz; omega
theorem pz_le (x : Int) : 0 ≤ pz x := by unfold pz; omega
def doneP (A B C wn D E : Int) : Bool :=
  if wn ≤ 0 then true else if 0 < A then (if A ≤ C then true else if wn ≤ C then true else if 0 < B then (if 0 < C then decide (B ≤ D) else false) else false)
  else if B ≤ 0 then true else if 0 < C then true else decide (B ≤ E)
def readyP (A B C wn D E : Int) : Int × Bool := if doneP A B C wn D E = true then (if wn ≤ 0 then 0 else if C ≤ wn then C else wn, true) else (0, false)
def waitP (A B C wn D E : Int) : Int × Bool :=
  if doneP A B C wn D E = true then (0, true) else if B ≤ 0 then (0, false) else if 0 < A then (if C ≤ 0 then (0, false) else (B - D, true)) else (B - E, true)
def readyI (mn tm hv wn idl wt : Int) : Int × Bool := readyP (pz mn) (pz tm) (pz hv) wn (pz idl) (pz wt)
def waitI (mn tm hv wn idl wt : Int) : Int × Bool := waitP (pz mn) (pz tm) (pz hv) wn (pz idl) (pz wt)
theorem pair_eq {p q : Int × Bool} {n : Int} {b : Bool} (h : p = (n, b)) (hq : p = q) : n = q.1 ∧ b = q.2 := by rw [hq] at h; rw [h]; exact ⟨rfl, rfl⟩
set_option maxRecDepth 100000 in
set_option maxHeartbeats 4000000 in
theorem readyr_any (w : World) (mn tm hv wn idl wt : Int) {n : Int} {b : Bool} (hR : Hid (readyI mn tm hv wn idl wt = (n, b))) :
    Calls Try.prog 8 #[.int .i64 mn, .int .i64 tm, .int .i64 hv, .int .i64 wn, .int .i64 idl, .int .i64 wt] w fun e w' => e = .returned (.tuple #[.int .i64 n, .bool b]) ∧ w' = w := by
  go_enter Try.func8, Try.ntmps8
  go_upto_region 1 with fail
  go_cut [0, 1, 2, 4, 5] (fun a b c d e wx => a = .int .i64 (pz mn) ∧ b = .int .i64 (pz tm) ∧ c = .int .i64 (pz hv) ∧ d = .int .i64 (pz idl) ∧ e = .int .i64 (pz wt) ∧ wx = w)
  case first =>
    go_wp2_with fail
    all_goals
      go_meet
      refine ⟨?_, ?_, ?_, ?_, ?_, rfl⟩ <;> first | (rw [pz_pos (by assumption)]; done) | (rw [pz_neg (by assumption)]; done)
  case rest =>
  obtain ⟨rfl, rfl, rfl, rfl, rfl, rfl⟩ := hcut
  unfold readyI at hR
  obtain ⟨A, hA⟩ : ∃ A, pz mn = A := ⟨_, rfl⟩
  obtain ⟨B, hB⟩ : ∃ B, pz tm = B := ⟨_, rfl⟩
  obtain ⟨C, hC⟩ : ∃ C, pz hv = C := ⟨_, rfl⟩
  obtain ⟨D, hD⟩ : ∃ D, pz idl = D := ⟨_, rfl⟩
  obtain ⟨E, hE⟩ : ∃ E, pz wt = E := ⟨_, rfl⟩
  have a0 := pz_le mn
  have b0 := pz_le tm
  have c0 := pz_le hv
  rw [hA] at hR a0 ⊢
  rw [hB] at hR b0 ⊢
  rw [hC] at hR c0 ⊢
  rw [hD] at hR ⊢
  rw [hE] at hR ⊢
  clear hA hB hC hD hE
  by_cases h1 : wn ≤ 0
  · clear a0 b0 c0
    obtain ⟨e1, e2⟩ := pair_eq hR.out (show readyP A B C wn D E = (0, true) by simp [readyP, doneP, h1])
    dsimp only at e1 e2
    subst e1; subst e2
    clear hR
    go_wp2
    go_ret2
    exact ⟨rfl, rfl⟩
  by_cases h2 : 0 < A
  · by_cases h3 : A ≤ C
    · clear a0 b0 c0
      by_cases hm : C ≤ wn
      · have hmm : min C wn = C := by omega
        obtain ⟨e1, e2⟩ := pair_eq hR.out (show readyP A B C wn D E = (C, true) by simp [readyP, doneP, h1, h2, h3, hm])
        dsimp only at e1 e2
        subst e1; subst e2
        clear hR
        go_wp2
        go_ret2
        exact ⟨rfl, rfl⟩
      · have hmm : min C wn = wn := by omega
        obtain ⟨e1, e2⟩ := pair_eq hR.out (show readyP A B C wn D E = (wn, true) by simp [readyP, doneP, h1, h2, h3, hm])
        dsimp only at e1 e2
        subst e1; subst e2
        clear hR
        go_wp2
        go_ret2
        exact ⟨rfl, rfl⟩
    by_cases h4 : wn ≤ C
    · clear a0 b0 c0
      by_cases hm : C ≤ wn
      · have hmm : min C wn = C := by omega
        obtain ⟨e1, e2⟩ := pair_eq hR.out (show readyP A B C wn D E = (C, true) by simp [readyP, doneP, h1, h2, h3, h4, hm])
        dsimp only at e1 e2
        subst e1; subst e2
        clear hR
        go_wp2
        go_ret2
        exact ⟨rfl, rfl⟩
      · have hmm : min C wn = wn := by omega
        obtain ⟨e1, e2⟩ := pair_eq hR.out (show readyP A B C wn D E = (wn, true) by simp [readyP, doneP, h1, h2, h3, h4, hm])
        dsimp only at e1 e2
        subst e1; subst e2
        clear hR
        go_wp2
        go_ret2
        exact ⟨rfl, rfl⟩
    by_cases h5 : 0 < B
    · by_cases h6 : 0 < C
      · by_cases h7 : B ≤ D
        · clear a0 b0 c0
          by_cases hm : C ≤ wn
          · have hmm : min C wn = C := by omega
            obtain ⟨e1, e2⟩ := pair_eq hR.out (show readyP A B C wn D E = (C, true) by simp [readyP, doneP, h1, h2, h3, h4, h5, h6, h7, hm])
            dsimp only at e1 e2
            subst e1; subst e2
            clear hR
            go_wp2
            go_ret2
            exact ⟨rfl, rfl⟩
          · have hmm : min C wn = wn := by omega
            obtain ⟨e1, e2⟩ := pair_eq hR.out (show readyP A B C wn D E = (wn, true) by simp [readyP, doneP, h1, h2, h3, h4, h5, h6, h7, hm])
            dsimp only at e1 e2
            subst e1; subst e2
            clear hR
            go_wp2
            go_ret2
            exact ⟨rfl, rfl⟩
        · clear a0 b0 c0
          obtain ⟨e1, e2⟩ := pair_eq hR.out (show readyP A B C wn D E = (0, false) by simp [readyP, doneP, h1, h2, h3, h4, h5, h6, h7])
          dsimp only at e1 e2
          subst e1; subst e2
          clear hR
          go_wp2
          go_ret2
          exact ⟨rfl, rfl⟩
      · clear a0 b0 c0
        obtain ⟨e1, e2⟩ := pair_eq hR.out (show readyP A B C wn D E = (0, false) by simp [readyP, doneP, h1, h2, h3, h4, h5, h6])
        dsimp only at e1 e2
        subst e1; subst e2
        clear hR
        go_wp2
        go_ret2
        exact ⟨rfl, rfl⟩
    · clear a0 b0 c0
      obtain ⟨e1, e2⟩ := pair_eq hR.out (show readyP A B C wn D E = (0, false) by simp [readyP, doneP, h1, h2, h3, h4, h5])
      dsimp only at e1 e2
      subst e1; subst e2
      clear hR
      go_wp2
      go_ret2
      exact ⟨rfl, rfl⟩
  · by_cases h3 : B ≤ 0
    · obtain rfl : B = 0 := by omega
      clear a0 b0 c0
      by_cases hm : C ≤ wn
      · have hmm : min C wn = C := by omega
        obtain ⟨e1, e2⟩ := pair_eq hR.out (show readyP A 0 C wn D E = (C, true) by simp [readyP, doneP, h1, h2, hm])
        dsimp only at e1 e2
        subst e1; subst e2
        clear hR
        go_wp2
        go_ret2
        exact ⟨rfl, rfl⟩
      · have hmm : min C wn = wn := by omega
        obtain ⟨e1, e2⟩ := pair_eq hR.out (show readyP A 0 C wn D E = (wn, true) by simp [readyP, doneP, h1, h2, hm])
        dsimp only at e1 e2
        subst e1; subst e2
        clear hR
        go_wp2
        go_ret2
        exact ⟨rfl, rfl⟩
    have hb0 : (B == 0) = false := beq_eq_false_iff_ne.2 (by omega)
    by_cases h4 : 0 < C
    · clear a0 b0 c0
      by_cases hm : C ≤ wn
      · have hmm : min C wn = C := by omega
        obtain ⟨e1, e2⟩ := pair_eq hR.out (show readyP A B C wn D E = (C, true) by simp [readyP, doneP, h1, h2, h3, h4, hm])
        dsimp only at e1 e2
        subst e1; subst e2
        clear hR
        go_wp2
        go_ret2
        exact ⟨rfl, rfl⟩
      · have hmm : min C wn = wn := by omega
        obtain ⟨e1, e2⟩ := pair_eq hR.out (show readyP A B C wn D E = (wn, true) by simp [readyP, doneP, h1, h2, h3, h4, hm])
        dsimp only at e1 e2
        subst e1; subst e2
        clear hR
        go_wp2
        go_ret2
        exact ⟨rfl, rfl⟩
    by_cases h5 : B ≤ E
    · clear a0 b0 c0
      by_cases hm : C ≤ wn
      · have hmm : min C wn = C := by omega
        obtain ⟨e1, e2⟩ := pair_eq hR.out (show readyP A B C wn D E = (C, true) by simp [readyP, doneP, h1, h2, h3, h4, h5, hm])
        dsimp only at e1 e2
        subst e1; subst e2
        clear hR
        go_wp2
        go_ret2
        exact ⟨rfl, rfl⟩
      · have hmm : min C wn = wn := by omega
        obtain ⟨e1, e2⟩ := pair_eq hR.out (show readyP A B C wn D E = (wn, true) by simp [readyP, doneP, h1, h2, h3, h4, h5, hm])
        dsimp only at e1 e2
        subst e1; subst e2
        clear hR
        go_wp2
        go_ret2
        exact ⟨rfl, rfl⟩
    · clear a0 b0 c0
      obtain ⟨e1, e2⟩ := pair_eq hR.out (show readyP A B C wn D E = (0, false) by simp [readyP, doneP, h1, h2, h3, h4, h5])
      dsimp only at e1 e2
      subst e1; subst e2
      clear hR
      go_wp2
      go_ret2
      exact ⟨rfl, rfl⟩
set_option maxRecDepth 100000 in
set_option maxHeartbeats 4000000 in
theorem waitr_any (w : World) (mn tm hv wn idl wt : Int) (ht : i64ok tm) (hi : i64ok idl) (hw0 : i64ok wt) {n : Int} {b : Bool} (hW : Hid (waitI mn tm hv wn idl wt = (n, b))) :
    Calls Try.prog 10 #[.int .i64 mn, .int .i64 tm, .int .i64 hv, .int .i64 wn, .int .i64 idl, .int .i64 wt] w fun e w' => e = .returned (.tuple #[.int .i64 n, .bool b]) ∧ w' = w := by
  obtain ⟨⟨x, d⟩, hR⟩ : ∃ z, Hid (readyI mn tm hv wn idl wt = z) := ⟨_, hid rfl⟩
  have hd : Hid (doneP (pz mn) (pz tm) (pz hv) wn (pz idl) (pz wt) = d) := hid (by
    have h := hR.out
    unfold readyI readyP at h
    split at h
    · injection h with _ h
      rw [← h]; assumption
    · injection h with _ h
      rw [← h]; simpa using (by assumption : ¬ doneP (pz mn) (pz tm) (pz hv) wn (pz idl) (pz wt) = true))
  obtain ⟨t1, t2⟩ := ht
  obtain ⟨_, i2⟩ := hi
  obtain ⟨_, v2⟩ := hw0
  cases d
  · by_cases h1 : tm ≤ 0
    · obtain ⟨e1, e2⟩ := pair_eq hW.out (show waitI mn tm hv wn idl wt = (0, false) by unfold waitI waitP; rw [if_neg (by rw [hd.out]; decide)]; simp [pz_neg h1])
      dsimp only at e1 e2
      subst e1; subst e2
      go_enter Try.func10, Try.ntmps10
      go_wp2_with (first
        | (go_at_call 8
           (with_reducible refine (readyr_any _ mn tm hv wn idl wt hR).mono ?_)
           rintro e u1 ⟨rfl, rfl⟩))
      go_ret2
      exact ⟨rfl, rfl⟩
    · have hB : pz tm = tm := pz_pos (by omega)
      by_cases h2 : 0 < mn
      · by_cases h3 : hv ≤ 0
        · obtain ⟨e1, e2⟩ := pair_eq hW.out (show waitI mn tm hv wn idl wt = (0, false) by unfold waitI waitP; rw [if_neg (by rw [hd.out]; decide)]; simp [pz_neg h3, pz_pos h2, hB, h1, h2])
          dsimp only at e1 e2
          subst e1; subst e2
          go_enter Try.func10, Try.ntmps10
          go_wp2_with (first
            | (go_at_call 8
               (with_reducible refine (readyr_any _ mn tm hv wn idl wt hR).mono ?_)
               rintro e u1 ⟨rfl, rfl⟩))
          go_ret2
          exact ⟨rfl, rfl⟩
        · have h3' : 0 < hv := by omega
          obtain ⟨e1, e2⟩ := pair_eq hW.out (show waitI mn tm hv wn idl wt = (tm - pz idl, true) by unfold waitI waitP; rw [if_neg (by rw [hd.out]; decide)]; simp [pz_pos h3', pz_pos h2, hB, h1, h2, h3])
          dsimp only at e1 e2
          subst e1; subst e2
          by_cases h4 : 0 < idl
          · have hD : tm - pz idl = tm - idl := by rw [pz_pos h4]
            have hw : IntKind.i64.wrap (tm - idl) = tm - idl := by rw [IntKind.wrap_i64]; omega
            rw [hD]
            clear hD hB h3'
            go_enter Try.func10, Try.ntmps10
            go_wp2_with (first
              | (go_at_call 8
                 (with_reducible refine (readyr_any _ mn tm hv wn idl wt hR).mono ?_)
                 rintro e u1 ⟨rfl, rfl⟩))
            go_ret2
            exact ⟨rfl, rfl⟩
          · have hD : tm - pz idl = tm := by rw [pz_neg (by omega)]; omega
            rw [hD]
            clear hD hB h3'
            go_enter Try.func10, Try.ntmps10
            go_wp2_with (first
              | (go_at_call 8
                 (with_reducible refine (readyr_any _ mn tm hv wn idl wt hR).mono ?_)
                 rintro e u1 ⟨rfl, rfl⟩))
            go_ret2
            exact ⟨rfl, rfl⟩
      · have hA : pz mn = 0 := pz_neg (by omega)
        obtain ⟨e1, e2⟩ := pair_eq hW.out (show waitI mn tm hv wn idl wt = (tm - pz wt, true) by unfold waitI waitP; rw [if_neg (by rw [hd.out]; decide)]; simp [hA, hB, h1])
        dsimp only at e1 e2
        subst e1; subst e2
        by_cases h4 : 0 < wt
        · have hD : tm - pz wt = tm - wt := by rw [pz_pos h4]
          have hw : IntKind.i64.wrap (tm - wt) = tm - wt := by rw [IntKind.wrap_i64]; omega
          rw [hD]
          clear hD hB hA
          go_enter Try.func10, Try.ntmps10
          go_wp2_with (first
            | (go_at_call 8
               (with_reducible refine (readyr_any _ mn tm hv wn idl wt hR).mono ?_)
               rintro e u1 ⟨rfl, rfl⟩))
          go_ret2
          exact ⟨rfl, rfl⟩
        · have hD : tm - pz wt = tm := by rw [pz_neg (by omega)]; omega
          rw [hD]
          clear hD hB hA
          go_enter Try.func10, Try.ntmps10
          go_wp2_with (first
            | (go_at_call 8
               (with_reducible refine (readyr_any _ mn tm hv wn idl wt hR).mono ?_)
               rintro e u1 ⟨rfl, rfl⟩))
          go_ret2
          exact ⟨rfl, rfl⟩
  · obtain ⟨e1, e2⟩ := pair_eq hW.out (show waitI mn tm hv wn idl wt = (0, true) by simp [waitI, waitP, hd.out])
    dsimp only at e1 e2
    subst e1; subst e2
    go_enter Try.func10, Try.ntmps10
    go_wp2_with (first
      | (go_at_call 8
         (with_reducible refine (readyr_any _ mn tm hv wn idl wt hR).mono ?_)
         rintro e u1 ⟨rfl, rfl⟩))
    go_ret2
    exact ⟨rfl, rfl⟩
end Go.Proofs.Ytoefcdefbfdngaa
