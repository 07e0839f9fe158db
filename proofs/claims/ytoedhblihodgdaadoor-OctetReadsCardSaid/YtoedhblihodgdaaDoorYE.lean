import Derived.Test.YtoedhblihodgdaaDoorYD
namespace Go.Proofs.YtoedhblihodgdaaDoor
open Go.RowKit

/-- How many bytes the document says that a field takes. -/
def rsz (f : Fd) : Nat := if (1 ≤ f.kind ∧ f.kind ≤ 6) ∧ fault f = 0 then (enc f).length else 0
theorem enc_len (f : Fd) (hk : 1 ≤ f.kind ∧ f.kind ≤ 6) (hf : fault f = 0) : (enc f).length ≤ 33792 := by
  have h : f.kind = 1 ∨ f.kind = 2 ∨ f.kind = 3 ∨ f.kind = 4 ∨ f.kind = 5 ∨ f.kind = 6 := by omega
  rcases h with h | h | h | h | h | h
  · simp [enc, h]
  · simp [enc, h]
  · simp [enc, h, four_len]
  · simp only [fault, h] at hf
    simp at hf
    simp [enc, h, four_len]
    omega
  · simp only [fault, h, namesE] at hf
    simp at hf
    have h64 : f.list.length ≤ 64 := by
      by_cases hh : 64 < f.list.length
      · simp [hh] at hf
      · omega
    have hall : f.list.all nameOk = true := by
      rw [if_neg (by omega)] at hf
      simpa using hf
    have := joined_len f.list hall h64
    simp [enc, h, four_len]
    omega
  · simp only [fault, h] at hf
    simp at hf
    simp [enc, h]
    omega
theorem writeF_rsz (f : Fd) : (writeF [f]).2.length = rsz f := by
  by_cases hk : 1 ≤ f.kind ∧ f.kind ≤ 6
  · have hkb : kindsB [f] = true := by simp [kindsB, hk.1, hk.2]
    by_cases hf : fault f = 0
    · have hl := enc_len f hk hf
      rw [size_ok hk hf hl, rsz, if_pos ⟨hk, hf⟩]
    · rw [rsz, if_neg (fun h => hf h.2), writeF, if_pos hkb, wrF, if_neg hf]
      rfl
  · have hkb : ¬ kindsB [f] = true := by
      simp only [kindsB, Bool.and_eq_true, decide_eq_true_eq]
      exact fun h => hk ⟨h.1.1.1, h.1.1.2⟩
    rw [rsz, if_neg (fun h => hk h.1), writeF, if_neg hkb]
    rfl

set_option maxHeartbeats 2000000 in
set_option maxRecDepth 100000 in
theorem rsize_any (w : World) (B : Nat) (v : Value) (f : Fd) (hv : FdV w B v f) (hB : B ≤ w.heap.size) :
    Calls Tryd.prog 16 #[v] w fun e w' => e = .returned (.int .i64 (rsz f)) ∧ Below w.heap.size w w' := by
  have hbo : ∀ o, Below w.heap.size w (w.alloc o) := fun o => (Below.refl _ _).alloc (Nat.le_refl _) _
  have HBO := hid hbo
  have HV1 : Hid (∀ o, FdV (w.alloc o) B v f) := fun o => hv.keep ((Below.refl _ _).alloc hB _)
  clear hbo
  obtain ⟨tA, tc, lA, lc, rfl, hn, hkr, htl, hll, ht, hT, hL, hsz⟩ := hv
  clear hT hL hsz ht
  unfold maxLen at htl hll
  by_cases h1 : f.kind < 1
  · have HR : Hid (rsz f = 0) := by show _ = _; rw [rsz, if_neg (by omega)]
    go_enter Tryd.func16, Tryd.ntmps16
    go_wp2
    go_ret
    rw [HR.out]
    exact ⟨rfl, HBO.out _⟩
  · by_cases h6 : 6 < f.kind
    · have HR : Hid (rsz f = 0) := by show _ = _; rw [rsz, if_neg (by omega)]
      have t1 : decide (f.kind < 1) = false := by simp; omega
      clear h1
      go_enter Tryd.func16, Tryd.ntmps16
      go_wp2
      go_ret
      rw [HR.out]
      exact ⟨rfl, HBO.out _⟩
    · have hk : 1 ≤ f.kind ∧ f.kind ≤ 6 := by omega
      have t1 : decide (f.kind < 1) = false := by simp; omega
      have t2 : decide (6 < f.kind) = false := by simp; omega
      have HK := hid hk
      clear h1 h6
      obtain ⟨fa, HF⟩ : ∃ z, Hid (fault f = z) := ⟨_, hid rfl⟩
      by_cases h0 : fa = 0
      · subst h0
        have HR : Hid (rsz f = (enc f).length) := by show _ = _; rw [rsz, if_pos ⟨hk, HF.out⟩]
        clear hk
        go_enter Tryd.func16, Tryd.ntmps16
        go_wp2_with (first
          | (go_at_call 23
             ((with_reducible refine (fault_any _ B _ f (HV1.out _) (by simp; omega) HK.out).mono ?_); rintro e w2 ⟨rfl, hb2⟩)
             rw [HF.out]
             have HB2 := hid hb2
             have hx2 := box_below (Box.new w 37 _) hb2
             have c0 : w2.cell? ⟨w.heap.size, 0, none⟩ = some (.int .i64 f.kind) := hx2.cell 0
             have c1 : w2.cell? ⟨w.heap.size, 1, none⟩ = some (.int .u32 f.n) := hx2.cell 1
             have c2 : w2.cell? ⟨w.heap.size, 2, none⟩ = some (.slice tA f.text.length tc) := hx2.cell 2
             have c3 : w2.cell? ⟨w.heap.size, 3, none⟩ = some (.slice lA f.list.length lc) := hx2.cell 3
             have HV2 := hid ((HV1.out _).keep (hb2.mono (by simp; omega)))
             have hz2 : w.heap.size ≤ w2.heap.size := Nat.le_trans (by simp) hb2.size
             clear hb2 hx2)
          | (go_at_call 24
             ((with_reducible refine (one_any _ B _ f HV2.out (by omega) HK.out HF.out).mono ?_); rintro e w3 ⟨A3, c3', rfl, ho3, hb3⟩)
             have HB3 := hid hb3
             clear ho3 hb3))
        go_ret
        rw [HR.out]
        exact ⟨rfl, ((HBO.out _).trans (HB2.out.mono (by simp))).trans (HB3.out.mono hz2)⟩
      · have HR : Hid (rsz f = 0) := by show _ = _; rw [rsz, if_neg (fun h => h0 (HF.out.symm.trans h.2))]
        have t3 : (fa != 0) = true := by simpa using h0
        clear hk h0
        go_enter Tryd.func16, Tryd.ntmps16
        go_wp2_with (first
          | (go_at_call 23
             ((with_reducible refine (fault_any _ B _ f (HV1.out _) (by simp; omega) HK.out).mono ?_); rintro e w2 ⟨rfl, hb2⟩)
             rw [HF.out]
             have HB2 := hid hb2
             clear hb2))
        go_ret
        rw [HR.out]
        exact ⟨rfl, (HBO.out _).trans (HB2.out.mono (by simp))⟩
end Go.Proofs.YtoedhblihodgdaaDoor
