import Derived.Test.YtnodlpbmlfdijaaEA
namespace Go.Proofs.Ytnodlpbmlfdijaa
open Go.RowKit

theorem dt1 {l : List UInt8} {i : Nat} (h : i < l.length) : (l.drop i).take 1 = [l[i]] := by
  rw [List.drop_eq_getElem_cons h]
  rfl
theorem dt2 {l : List UInt8} {i : Nat} (h : i + 1 < l.length) : (l.drop i).take 2 = [l[i], l[i + 1]] := by
  rw [List.drop_eq_getElem_cons (by omega), List.drop_eq_getElem_cons h]
  rfl
theorem dt3 {l : List UInt8} {i : Nat} (h : i + 2 < l.length) : (l.drop i).take 3 = [l[i], l[i + 1], l[i + 2]] := by
  rw [List.drop_eq_getElem_cons (by omega), List.drop_eq_getElem_cons (by omega), List.drop_eq_getElem_cons (by omega)]
  rfl
theorem dt4 {l : List UInt8} {i : Nat} (h : i + 3 < l.length) : (l.drop i).take 4 = [l[i], l[i + 1], l[i + 2], l[i + 3]] := by
  rw [List.drop_eq_getElem_cons (by omega), List.drop_eq_getElem_cons (by omega), List.drop_eq_getElem_cons (by omega), List.drop_eq_getElem_cons (by omega)]
  rfl
theorem get_at (s : ByteArray) {j : Nat} (h : j < s.size) : s.get! j = s.data.toList[j]'(by simpa using h) := by
  show s.data[j]! = _
  rw [getElem!_pos s.data j h]
  simp
theorem ofN {x : UInt8} {n : Nat} (h : n = x.toNat) : UInt8.ofNat n = x := by rw [h, UInt8.ofNat_toNat]
theorem valid_low {c : Nat} (h : c < 55296) : Utf8.valid (c : Int) = true := by
  unfold Utf8.valid
  simp
  omega
theorem cont_of {x : UInt8} (h : x.toNat / 64 = 2) : contB x = true := by
  unfold contB
  simp
  omega
theorem first_of {x : UInt8} (h : x.toNat < 128 ∨ 192 ≤ x.toNat) : contB x = false := by
  unfold contB
  simp
  omega
set_option maxRecDepth 100000 in
/-- A rune that is told is what stands there in UTF-8, a character of a text. -/
theorem utf_step (s : ByteArray) (i : Nat) (hi : i < s.size) {c k : Nat} (h : Utf8.decode s i = (c, k)) (hc0 : c ≠ Utf8.runeError) :
    1 ≤ k ∧ i + k ≤ s.size ∧ (Utf8.encode (c : Int)).data.toList = (s.data.toList.drop i).take k ∧ chunkP ((s.data.toList.drop i).take k) := by
  have hl : s.data.toList.length = s.size := by simp
  obtain ⟨l, hll⟩ : ∃ l, s.data.toList = l := ⟨_, rfl⟩
  have g : ∀ j (hj : j < s.size), (s.get! j).toNat = (l[j]'(by rw [← hll, hl]; exact hj)).toNat := fun j hj => by
    rw [get_at s hj]
    congr 1
    exact (List.getElem_of_eq hll _)
  rw [hll] at hl ⊢
  have g0 := g i hi
  unfold Utf8.decode at h
  have hc := hc0
  simp only [Nat.add_zero, g0] at h
  obtain ⟨x0, h0⟩ : ∃ x, l[i]'(by omega) = x := ⟨_, rfl⟩
  rw [h0] at h
  have b0 := x0.toNat_lt
  split at h
  · rename_i q
    simp only [Prod.mk.injEq] at h
    obtain ⟨rfl, rfl⟩ := h
    refine ⟨Nat.le_refl _, hi, ?_, ?_⟩
    · rw [dt1 (by omega), h0]
      have hv := valid_low (show x0.toNat < 55296 by omega)
      generalize hz : x0.toNat = z at hv q ⊢
      unfold Utf8.encode
      simp only [hv, if_true, Int.toNat_natCast, if_pos q]
      show [UInt8.ofNat z] = [x0]
      rw [← hz, UInt8.ofNat_toNat]
    · rw [dt1 (by omega), h0]
      exact ⟨x0, [], rfl, first_of (Or.inl q), by simp, by simp⟩
  · split at h
    · rename_i q0 q
      simp only [Bool.and_eq_true, beq_iff_eq, decide_eq_true_eq] at q
      have p1 := q.2.1
      have g1 := g (i + 1) p1
      obtain ⟨x1, h1⟩ : ∃ x, l[i + 1]'(by omega) = x := ⟨_, rfl⟩
      rw [h1] at g1
      rw [g1] at h q
      split at h
      · rename_i r
        simp only [Prod.mk.injEq] at h
        obtain ⟨e1, e2⟩ := h
        subst e2
        have b1 := x1.toNat_lt
        have hcv : c < 2048 ∧ 128 ≤ c := by omega
        refine ⟨by omega, by omega, ?_, ?_⟩
        · rw [dt2 (by omega), h0, h1]
          unfold Utf8.encode
          simp only [valid_low (show c < 55296 by omega), if_true, Int.toNat_natCast, if_neg (show ¬ c < 128 by omega), if_pos hcv.1]
          show [UInt8.ofNat (192 + c / 64), UInt8.ofNat (128 + c % 64)] = [x0, x1]
          rw [ofN (x := x0) (by omega), ofN (x := x1) (by omega)]
        · rw [dt2 (by omega), h0, h1]
          exact ⟨x0, [x1], rfl, first_of (Or.inr (by omega)), by simp, by simpa using cont_of q.2.2⟩
      · simp only [Prod.mk.injEq] at h
        have e1 := h.1
        exact absurd e1.symm hc
    · split at h
      · rename_i q0 q1 q
        simp only [Bool.and_eq_true, beq_iff_eq, decide_eq_true_eq] at q
        have p1 := q.1.2.1
        have p2 := q.2.1
        have g1 := g (i + 1) p1
        have g2 := g (i + 2) p2
        obtain ⟨x1, h1⟩ : ∃ x, l[i + 1]'(by omega) = x := ⟨_, rfl⟩
        obtain ⟨x2, h2⟩ : ∃ x, l[i + 2]'(by omega) = x := ⟨_, rfl⟩
        rw [h1] at g1
        rw [h2] at g2
        rw [g1, g2] at h q
        split at h
        · rename_i r
          simp only [Bool.and_eq_true, decide_eq_true_eq] at r
          simp only [Prod.mk.injEq] at h
          obtain ⟨e1, e2⟩ := h
          subst e2
          rw [e1] at r
          have b1 := x1.toNat_lt
          have b2 := x2.toNat_lt
          have hcv : c < 65536 := by omega
          refine ⟨by omega, by omega, ?_, ?_⟩
          · rw [dt3 (by omega), h0, h1, h2]
            unfold Utf8.encode
            simp only [r.2, if_true, Int.toNat_natCast, if_neg (show ¬ c < 128 by omega), if_neg (show ¬ c < 2048 by omega), if_pos hcv]
            show [UInt8.ofNat (224 + c / 4096), UInt8.ofNat (128 + c / 64 % 64), UInt8.ofNat (128 + c % 64)] = [x0, x1, x2]
            rw [ofN (x := x0) (by omega), ofN (x := x1) (by omega), ofN (x := x2) (by omega)]
          · rw [dt3 (by omega), h0, h1, h2]
            refine ⟨x0, [x1, x2], rfl, first_of (Or.inr (by omega)), by simp, ?_⟩
            intro y hy
            simp at hy
            rcases hy with rfl | rfl
            · exact cont_of q.1.2.2
            · exact cont_of q.2.2
        · simp only [Prod.mk.injEq] at h
          have e1 := h.1
          exact absurd e1.symm hc
      · split at h
        · rename_i q0 q1 q2 q
          simp only [Bool.and_eq_true, beq_iff_eq, decide_eq_true_eq] at q
          have p1 := q.1.1.2.1
          have p2 := q.1.2.1
          have p3 := q.2.1
          have g1 := g (i + 1) p1
          have g2 := g (i + 2) p2
          have g3 := g (i + 3) p3
          obtain ⟨x1, h1⟩ : ∃ x, l[i + 1]'(by omega) = x := ⟨_, rfl⟩
          obtain ⟨x2, h2⟩ : ∃ x, l[i + 2]'(by omega) = x := ⟨_, rfl⟩
          obtain ⟨x3, h3⟩ : ∃ x, l[i + 3]'(by omega) = x := ⟨_, rfl⟩
          rw [h1] at g1
          rw [h2] at g2
          rw [h3] at g3
          rw [g1, g2, g3] at h q
          split at h
          · rename_i r
            simp only [Bool.and_eq_true, decide_eq_true_eq] at r
            simp only [Prod.mk.injEq] at h
            obtain ⟨e1, e2⟩ := h
            subst e2
            rw [e1] at r
            have b1 := x1.toNat_lt
            have b2 := x2.toNat_lt
            have b3 := x3.toNat_lt
            refine ⟨by omega, by omega, ?_, ?_⟩
            · rw [dt4 (by omega), h0, h1, h2, h3]
              unfold Utf8.encode
              simp only [r.2, if_true, Int.toNat_natCast, if_neg (show ¬ c < 128 by omega), if_neg (show ¬ c < 2048 by omega), if_neg (show ¬ c < 65536 by omega)]
              show [UInt8.ofNat (240 + c / 262144), UInt8.ofNat (128 + c / 4096 % 64), UInt8.ofNat (128 + c / 64 % 64), UInt8.ofNat (128 + c % 64)] = [x0, x1, x2, x3]
              rw [ofN (x := x0) (by omega), ofN (x := x1) (by omega), ofN (x := x2) (by omega), ofN (x := x3) (by omega)]
            · rw [dt4 (by omega), h0, h1, h2, h3]
              refine ⟨x0, [x1, x2, x3], rfl, first_of (Or.inr (by omega)), by simp, ?_⟩
              intro y hy
              simp at hy
              rcases hy with rfl | rfl | rfl
              · exact cont_of q.1.1.2.2
              · exact cont_of q.1.2.2
              · exact cont_of q.2.2
          · simp only [Prod.mk.injEq] at h
            have e1 := h.1
            exact absurd e1.symm hc
        · simp only [Prod.mk.injEq] at h
          have e1 := h.1
          exact absurd e1.symm hc
end Go.Proofs.Ytnodlpbmlfdijaa
