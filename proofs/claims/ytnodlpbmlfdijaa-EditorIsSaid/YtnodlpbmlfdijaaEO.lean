import Derived.Test.YtnodlpbmlfdijaaEN
namespace Go.Proofs.Ytnodlpbmlfdijaa
open Go.RowKit

/-- So many bytes from the end have been passed. -/
def LS (u : Bool) (bs : List UInt8) (j : Nat) : Prop := j = 0 ∨ (u = true ∧ ContR bs.reverse j)
theorem ls_end {u : Bool} {bs : List UInt8} {n j : Nat} (hn : bs.length = n) (h : LS u bs j) (h4 : j ≤ 4) (h5 : j ≤ n) (h6 : ¬ (j < n ∧ j < 4)) : lastN u bs = j := by
  by_cases h0 : n = 0
  · subst h0
    have : bs = [] := List.eq_nil_of_length_eq_zero hn
    subst this
    obtain rfl : j = 0 := by omega
    rfl
  · rcases h with h | ⟨rfl, h⟩
    · omega
    · exact lastN_all hn (by omega) fun i hi => h i (by omega)
theorem ls_one {bs : List UInt8} {n j : Nat} (hn : bs.length = n) (h : LS false bs j) (hj : j < n) : lastN false bs = j + 1 := by
  rcases h with rfl | ⟨h, _⟩
  · exact lastN_one (by rintro rfl; simp at hn; omega)
  · cases h
theorem ls_c {bs : List UInt8} {j : Nat} (h : LS true bs j) : ContR bs.reverse j := by
  rcases h with rfl | ⟨_, h⟩
  · exact fun i hi => absurd hi (by omega)
  · exact h
theorem cont_t {y : UInt8} (h : contB y = true) : ¬ (y.toNat : Int) < 128 ∧ ¬ (191 : Int) < (y.toNat : Int) := by
  unfold contB at h
  simp at h
  omega
theorem cont_f {y : UInt8} (h : contB y = false) : (y.toNat : Int) < 128 ∨ (¬ (y.toNat : Int) < 128 ∧ (191 : Int) < (y.toNat : Int)) := by
  unfold contB at h
  simp at h
  omega
set_option maxRecDepth 100000 in
set_option maxHeartbeats 4000000 in
theorem lastr_any (w : World) (t : Tm) (ht : t.Ok) (A : Option Addr) (n c : Nat) (bs : List UInt8) {u : Bool} (hu : Hid (hasN t.f 42 = u)) (hb : Hid (SlB w w.heap.size A c bs)) (hn : bs.length = n) (hm : n ≤ 1000000) {k : Nat} (hk : Hid (lastN u bs = k)) :
    Calls Try.prog 28 #[.agg t.cs, .slice A n c] w fun e w' => e = .returned (.int .i64 (k : Int)) ∧ Hid (Below w.heap.size w w') := by
  have hs := cs_size ht.len
  have K0 := old26 w t
  go_enter Try.func28, Try.ntmps28
  go_wp2_with (first
    | (refine bx26 (by rfl) _ (by rfl) _ (by rfl) hs ?_
       intro G0))
  go_loopw [5] (fun i wr => ∃ j : Nat, j ≤ 4 ∧ j ≤ n ∧ i = .int .i64 (j : Int) ∧ Hid (LS u bs j) ∧ Hid (Below w.heap.size w wr) ∧ Hid (Box wr w.heap.size 26 t.cs)) (fun i _ => 5 - (intOf i).toNat)
  case atStart => exact ⟨0, by omega, Nat.zero_le _, rfl, hid (Or.inl rfl), K0, G0⟩
  case round =>
    obtain ⟨j, hj4, hjn, rfl, HL, HB, HG⟩ := hrel
    by_cases h1 : j < n ∧ j < 4
    · obtain ⟨ha, hb4⟩ := h1
      have k1 : (j : Int) < (n : Int) := by omega
      have k2 : (j : Int) < 4 := by omega
      obtain ⟨b, o, y, hA, hy, cy⟩ := slb_cell (slb_at hb HB).out hn (show n - (j + 1) < n by omega)
      subst hA
      have HY := hid hy
      obtain ⟨p, hp⟩ : ∃ p, n - (j + 1) = p := ⟨_, rfl⟩
      rw [hp] at cy
      have e1 : (n : Int) - 1 - (j : Int) = (p : Int) := by omega
      have p1 : (p : Int) < (n : Int) := by omega
      clear hy hp
      cases u
      · have hkk : j + 1 = k := (ls_one hn HL.out ha).symm.trans hk.out
        have HK := hid hkk
        clear hkk
        go_wp2_with (first
          | (refine ld26 (by rfl) _ (by rfl) _ (by rfl) t.cs HG.out hs ?_)
          | (go_at_call 36
             (with_reducible refine (hasr_b _ _ ht _ hu.out).mono ?_)
             rintro e u1 ⟨rfl, k3⟩
             have B3 := bel_t HB k3.out))
        go_ret
        exact ⟨by rw [← HK.out]; push_cast; rfl, B3⟩
      · cases hc : contB y
        · have hkk : j + 1 = k := (lastN_stop hn hb4 ha (ls_c HL.out) HY.out hc).symm.trans hk.out
          have HK := hid hkk
          clear hkk
          rcases cont_f hc with d1 | ⟨d1, d2⟩
          · go_wp2_with (first
              | (refine ld26 (by rfl) _ (by rfl) _ (by rfl) t.cs HG.out hs ?_)
              | (go_at_call 36
                 (with_reducible refine (hasr_b _ _ ht _ hu.out).mono ?_)
                 rintro e u1 ⟨rfl, k3⟩
                 have B3 := bel_t HB k3.out))
            go_ret
            exact ⟨by rw [← HK.out]; push_cast; rfl, B3⟩
          · go_wp2_with (first
              | (refine ld26 (by rfl) _ (by rfl) _ (by rfl) t.cs HG.out hs ?_)
              | (go_at_call 36
                 (with_reducible refine (hasr_b _ _ ht _ hu.out).mono ?_)
                 rintro e u1 ⟨rfl, k3⟩
                 have B3 := bel_t HB k3.out))
            go_ret
            exact ⟨by rw [← HK.out]; push_cast; rfl, B3⟩
        · obtain ⟨d1, d2⟩ := cont_t hc
          have HL2 : Hid (LS true bs (j + 1)) := hid (Or.inr ⟨rfl, contR_more (ls_c HL.out) (by rw [rev_at hn ha]; exact HY.out) hc⟩)
          go_wp2_with (first
            | (refine ld26 (by rfl) _ (by rfl) _ (by rfl) t.cs HG.out hs ?_)
            | (go_at_call 36
               (with_reducible refine (hasr_b _ _ ht _ hu.out).mono ?_)
               rintro e u1 ⟨rfl, k3⟩
               have B3 := bel_t HB k3.out
               have G3 := hid (box_below HG.out k3.out)))
          go_roundw
          case rel => exact ⟨j + 1, by omega, by omega, by go_num, HL2, B3, G3⟩
          case measure => simp [intOf]; omega
    · have hkk : j = k := (ls_end hn HL.out hj4 hjn h1).symm.trans hk.out
      have HK := hid hkk
      by_cases h2 : j < n
      · have k1 : (j : Int) < (n : Int) := by omega
        obtain rfl : j = 4 := by omega
        clear h1 hkk
        go_wp2
        go_ret
        exact ⟨by rw [← HK.out]; rfl, HB⟩
      · have k1 : ¬ (j : Int) < (n : Int) := by omega
        clear h1 hkk
        go_wp2
        go_ret
        exact ⟨by rw [← HK.out]; rfl, HB⟩
end Go.Proofs.Ytnodlpbmlfdijaa
