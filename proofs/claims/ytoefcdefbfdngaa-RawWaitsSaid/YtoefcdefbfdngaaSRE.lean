import Derived.Test.YtoefcdefbfdngaaSRD
namespace Go.Proofs.Ytoefcdefbfdngaa
open Go.RowKit

/-! Layer 14: RawWaits: behind so many ticks, none fewer. -/
theorem done_iff (A B C wn D E : Int) : doneP A B C wn D E = true ↔ (wn ≤ 0 ∨ (0 < A ∧ (A ≤ C ∨ wn ≤ C ∨ (0 < B ∧ 0 < C ∧ B ≤ D))) ∨ (¬ 0 < A ∧ (B ≤ 0 ∨ 0 < C ∨ B ≤ E))) := by
  unfold doneP
  by_cases h1 : wn ≤ 0
  · simp [h1]
  · by_cases h2 : 0 < A
    · by_cases h3 : A ≤ C
      · simp [h1, h2, h3]
      · by_cases h4 : wn ≤ C
        · simp [h1, h2, h3, h4]
        · by_cases h5 : 0 < B
          · by_cases h6 : 0 < C
            · simp [h1, h2, h3, h4, h5, h6]
            · simp [h1, h2, h3, h4, h5, h6]
          · simp [h1, h2, h3, h4, h5]
    · by_cases h3 : B ≤ 0
      · simp [h1, h2, h3]
      · by_cases h4 : 0 < C
        · simp [h1, h2, h3, h4]
        · simp [h1, h2, h3, h4]
theorem ready_snd (mn tm hv wn idl wt : Int) : (readyI mn tm hv wn idl wt).2 = doneP (pz mn) (pz tm) (pz hv) wn (pz idl) (pz wt) := by
  unfold readyI readyP
  cases h : doneP (pz mn) (pz tm) (pz hv) wn (pz idl) (pz wt) <;> simp
theorem pz_id {x : Int} (h : 0 ≤ x) : pz x = x := by unfold pz; omega
theorem wait_done {mn tm hv wn idl wt n m : Int} {c : Bool} (hR : readyI mn tm hv wn idl wt = (n, true)) (hW : waitI mn tm hv wn idl wt = (m, c)) : m = 0 ∧ c = true := by
  have h := ready_snd mn tm hv wn idl wt
  rw [hR] at h
  have h2 : waitI mn tm hv wn idl wt = (0, true) := by unfold waitI waitP; rw [if_pos h.symm]
  rw [hW] at h2
  injection h2 with h3 h4
  exact ⟨h3, h4⟩
section
variable {mn tm hv wn idl wt n m : Int} (a1 : 0 ≤ mn) (a2 : 0 ≤ tm) (a3 : 0 ≤ hv) (a5 : 0 ≤ idl) (a6 : 0 ≤ wt)
include a1 a2 a3 a5 a6
theorem wait_never (hR : readyI mn tm hv wn idl wt = (n, false)) (hW : waitI mn tm hv wn idl wt = (m, false)) : m = 0 ∧ ∀ k : Int, 0 ≤ k → (readyI mn tm hv wn (idl + k) (wt + k)).2 = false := by
  have h := ready_snd mn tm hv wn idl wt
  rw [hR, pz_id a1, pz_id a2, pz_id a3, pz_id a5, pz_id a6] at h
  have hd : doneP mn tm hv wn idl wt = false := h.symm
  have hn : ¬ doneP mn tm hv wn idl wt = true := by rw [hd]; decide
  rw [done_iff] at hn
  unfold waitI waitP at hW
  rw [pz_id a1, pz_id a2, pz_id a3, pz_id a5, pz_id a6, if_neg (by rw [hd]; decide)] at hW
  refine ⟨?_, fun k hk => ?_⟩
  · split at hW
    · injection hW with h1 _; exact h1.symm
    · split at hW
      · split at hW
        · injection hW with h1 _; exact h1.symm
        · injection hW with _ h2; cases h2
      · injection hW with _ h2; cases h2
  · rw [ready_snd, pz_id a1, pz_id a2, pz_id a3, pz_id (show 0 ≤ idl + k by omega), pz_id (show 0 ≤ wt + k by omega)]
    have h3 : tm ≤ 0 ∨ (0 < mn ∧ hv ≤ 0) := by
      split at hW
      · omega
      · split at hW
        · split at hW
          · omega
          · injection hW with _ h2; cases h2
        · injection hW with _ h2; cases h2
    cases hq : doneP mn tm hv wn (idl + k) (wt + k)
    · rfl
    · rw [done_iff] at hq
      omega
theorem wait_some (hR : readyI mn tm hv wn idl wt = (n, false)) (hW : waitI mn tm hv wn idl wt = (m, true)) : 0 < m ∧ m ≤ tm ∧ (readyI mn tm hv wn (idl + m) (wt + m)).2 = true ∧ (readyI mn tm hv wn (idl + (m - 1)) (wt + (m - 1))).2 = false := by
  have h := ready_snd mn tm hv wn idl wt
  rw [hR, pz_id a1, pz_id a2, pz_id a3, pz_id a5, pz_id a6] at h
  have hd : doneP mn tm hv wn idl wt = false := h.symm
  have hn : ¬ doneP mn tm hv wn idl wt = true := by rw [hd]; decide
  rw [done_iff] at hn
  unfold waitI waitP at hW
  rw [pz_id a1, pz_id a2, pz_id a3, pz_id a5, pz_id a6, if_neg (by rw [hd]; decide)] at hW
  have h3 : (0 < mn ∧ 0 < hv ∧ 0 < tm ∧ m = tm - idl) ∨ (¬ 0 < mn ∧ 0 < tm ∧ m = tm - wt) := by
    split at hW
    · injection hW with _ h2; cases h2
    · split at hW
      · split at hW
        · injection hW with _ h2; cases h2
        · injection hW with h1 _; omega
      · injection hW with h1 _; omega
  have hm : 0 < m := by omega
  refine ⟨hm, by omega, ?_, ?_⟩
  · rw [ready_snd, pz_id a1, pz_id a2, pz_id a3, pz_id (show 0 ≤ idl + m by omega), pz_id (show 0 ≤ wt + m by omega), done_iff]
    omega
  · rw [ready_snd, pz_id a1, pz_id a2, pz_id a3, pz_id (show 0 ≤ idl + (m - 1) by omega), pz_id (show 0 ≤ wt + (m - 1) by omega)]
    cases hq : doneP mn tm hv wn (idl + (m - 1)) (wt + (m - 1))
    · rfl
    · rw [done_iff] at hq
      omega
end
theorem fair_all {l : List Int} (h : fairL l = true) : ∀ x ∈ l, 0 ≤ x ∧ x ≤ 1073741824 := fun x hx => by
  unfold fairL at h
  have := List.all_eq_true.1 h x hx
  simpa using this
set_option maxRecDepth 100000 in
set_option maxHeartbeats 2000000 in
theorem later_any (w : World) {g : Nat} {mn tm hv wn idl wt k : Int} (hb : Hid (Box w g 23 #[.int .i64 mn, .int .i64 tm, .int .i64 hv, .int .i64 wn, .int .i64 idl, .int .i64 wt])) (h1 : i64ok mn) (h2 : i64ok tm) (h3 : i64ok hv) (h4 : i64ok wn) (h5 : 0 ≤ idl ∧ idl ≤ 1073741824) (h6 : 0 ≤ wt ∧ wt ≤ 1073741824) (hk : 0 ≤ k ∧ k ≤ 1073741824) {d : Bool} (hd : Hid ((readyI mn tm hv wn (idl + k) (wt + k)).2 = d)) :
    Calls Try.prog 12 #[.int .i64 k, .pointer (some ⟨g, 0, none⟩)] w fun e w' => e = .returned (.bool d) ∧ Hid (Below w.heap.size w w') := by
  have chb0 : w.cell? ⟨g, 0, none⟩ = some (.int .i64 mn) := by simpa using hb.out.cell 0
  have chb1 : w.cell? ⟨g, 1, none⟩ = some (.int .i64 tm) := by simpa using hb.out.cell 1
  have chb2 : w.cell? ⟨g, 2, none⟩ = some (.int .i64 hv) := by simpa using hb.out.cell 2
  have chb3 : w.cell? ⟨g, 3, none⟩ = some (.int .i64 wn) := by simpa using hb.out.cell 3
  have chb4 : w.cell? ⟨g, 4, none⟩ = some (.int .i64 idl) := by simpa using hb.out.cell 4
  have chb5 : w.cell? ⟨g, 5, none⟩ = some (.int .i64 wt) := by simpa using hb.out.cell 5
  have w5 : IntKind.i64.wrap (idl + k) = idl + k := by rw [IntKind.wrap_i64]; omega
  have w6 : IntKind.i64.wrap (wt + k) = wt + k := by rw [IntKind.wrap_i64]; omega
  have o5 : i64ok (idl + k) := ⟨by omega, by omega⟩
  have o6 : i64ok (wt + k) := ⟨by omega, by omega⟩
  obtain ⟨x, hR⟩ : ∃ x, Hid (readyI mn tm hv wn (idl + k) (wt + k) = (x, d)) := ⟨(readyI mn tm hv wn (idl + k) (wt + k)).1, hid (by rw [← hd.out])⟩
  go_enter Try.func12, Try.ntmps12
  go_wp2_with (first
    | (go_at_call 7
       (with_reducible refine (ready_any _ h1 h2 h3 h4 o5 o6 hR).mono ?_)
       rintro e y1 ⟨rfl, k1⟩))
  go_ret
  exact ⟨rfl, hid (((Below.refl _ w).alloc (Nat.le_refl _) _).trans (k1.out.mono (by simp)))⟩
end Go.Proofs.Ytoefcdefbfdngaa
