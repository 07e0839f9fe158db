import Derived.Test.YtjbmoiblkehbmaaDoorSGN
import Derived.Test.YtjbmoiblkehbmaaDoorSGM
namespace Go.Proofs.YtjbmoiblkehbmaaDoor
namespace L18
open Go.RowKit

/-! Layer 18: SigsetBack, the walk. -/
section
variable {w : World}
theorem list_has {s : Nat} {l : List Int} (hl : Hid (listS s = l)) {k : Nat} {y : Int} (hy : l[k]? = some y) : Hid (hasS s y = true) := by
  have h := List.mem_of_getElem? hy
  rw [← hl.out, mem_listS] at h
  exact hid h
theorem list_up {s : Nat} {l : List Int} (hl : Hid (listS s = l)) {j : Nat} {x y : Int} (hx : l[j]? = some x) (hy : l[j + 1]? = some y) : x < y := by
  have h := listS_sorted s
  rw [hl.out, List.pairwise_iff_getElem] at h
  obtain ⟨h1, rfl⟩ := List.getElem?_eq_some_iff.1 hx
  obtain ⟨h2, rfl⟩ := List.getElem?_eq_some_iff.1 hy
  exact h j (j + 1) h1 h2 (by omega)
theorem sli_two {w : World} {B n c : Nat} {A : Option Addr} {l : List Int} (h : SlI w B A c l) {j : Nat} (hn : l.length = n) (hj : j + 1 < n) : ∃ b o x y, A = some ⟨b, o, none⟩ ∧ l[j]? = some x ∧ l[j + 1]? = some y ∧ w.cell? ⟨b, o + j, none⟩ = some (.int .i64 x) ∧ w.cell? ⟨b, o + (j + 1), none⟩ = some (.int .i64 y) := by
  obtain ⟨b, o, x, e, hx, _, c0⟩ := sli_cell h hn (j := j) (by omega)
  obtain ⟨b', o', y, e', hy, _, c1⟩ := sli_cell h hn hj
  rw [e] at e'
  injection e' with e'
  injection e' with e1 e2
  subst e1; subst e2
  exact ⟨b, o, x, y, e, hx, hy, c0, c1⟩
def rN (r : Bool) : Nat := if r = true then 1 else 0
theorem len_eq {n n2 : Nat} {r : Bool} (h : n2 = n + rN r) : ((n2 : Int) == (n : Int) + 1) = r := by
  unfold rN at h
  cases r
  · simp at h
    simp
    omega
  · simp at h
    simp
    omega
set_option maxRecDepth 100000 in
set_option maxHeartbeats 8000000 in
theorem back_walk (H : Hid (TabW w)) {s : Nat} (hs : Hid (U64 s)) (g other : Int) : Calls Tryd.prog 7 #[.int .u64 s, .int .i64 g, .int .i64 other] w fun e w' => e = .returned (.bool true) ∧ Hid (Below w.heap.size w w') := by
  obtain ⟨m, hm⟩ : ∃ z, Hid (nmS g = z) := ⟨_, hid rfl⟩
  obtain ⟨k, hk⟩ : ∃ z, Hid (known g = z) := ⟨_, hid rfl⟩
  obtain ⟨h, hh⟩ : ∃ z, Hid (hasS s g = z) := ⟨_, hid rfl⟩
  obtain ⟨y, hy⟩ : ∃ z, Hid (addS s g = z) := ⟨_, hid rfl⟩
  obtain ⟨x, hx⟩ : ∃ z, Hid (delS s g = z) := ⟨_, hid rfl⟩
  have HY : Hid (U64 y) := hid (by rw [← hy.out]; exact addS_lt hs.out g)
  have HX : Hid (U64 x) := hid (by rw [← hx.out]; exact delS_lt hs.out g)
  have hyg : Hid (hasS y g = k) := hid (by
    rw [← hy.out, has_add, ← hk.out]
    cases hq : known g
    · simp [hasS, hq]
    · simp)
  have hxg : Hid (hasS x g = false) := hid (by
    rw [← hx.out, has_del]
    cases hq : known g
    · simp [hasS, hq]
    · simp)
  obtain ⟨q, hq⟩ : ∃ z, Hid (hasS s other = z) := ⟨_, hid rfl⟩
  have hyo : g ≠ other → Hid (hasS y other = q) := fun e => hid (by
    rw [← hy.out, has_add, ← hq.out]
    simp [e])
  have hxo : g ≠ other → Hid (hasS x other = q) := fun e => hid (by
    rw [← hx.out, has_del, ← hq.out]
    simp [e])
  obtain ⟨o, ho⟩ : ∃ z, Hid (numS m = z) := ⟨_, hid rfl⟩
  obtain ⟨v, hv⟩ : ∃ z, Hid (o.getD 0 = z) := ⟨_, hid rfl⟩
  have hob : Hid (o.isSome = k) := hid (by
    rw [← ho.out, ← hm.out, ← hk.out]
    cases hq : known g
    · rw [nmS_none hq, num_none]; rfl
    · rw [num_name hq]; rfl)
  have hvg : Hid (k = true → v = g) := hid (by
    intro e
    rw [← hv.out, ← ho.out, ← hm.out, num_name (hk.out.trans e)]
    rfl)
  obtain ⟨l, hl⟩ : ∃ z, Hid (listS s = z) := ⟨_, hid rfl⟩
  have hlen : Hid (l.length ≤ 22) := hid (by rw [← hl.out]; exact listS_len s)
  obtain ⟨t, ht⟩ : ∃ z, Hid (ofS l = z) := ⟨_, hid rfl⟩
  have HT : Hid (U64 t) := hid (by rw [← ht.out]; exact ofS_lt l)
  have hlt : Hid (listS t = l) := hid (by rw [← ht.out, ← hl.out]; exact list_of_list s)
  obtain ⟨l2, hl2⟩ : ∃ z, Hid (listS y = z) := ⟨_, hid rfl⟩
  obtain ⟨r, hr⟩ : ∃ r, (k && !h) = r := ⟨_, rfl⟩
  have hlen2 : Hid (l2.length = l.length + rN r) := hid (by
    rw [← hr, ← hl2.out, ← hy.out, ← hl.out, ← hk.out, ← hh.out]
    exact len_add s g)
  have hhk : Hid (h = true → k = true) := hid (by
    intro e
    rw [← hk.out]
    exact has_known (hh.out.trans e))
  have hcase : k = false ∧ h = false ∧ r = false ∨ k = true ∧ h = true ∧ r = false ∧ v = g ∨ k = true ∧ h = false ∧ r = true ∧ v = g := by
    cases hk2 : k
    · cases hh2 : h
      · exact .inl ⟨rfl, rfl, by rw [← hr, hk2]; rfl⟩
      · exact absurd (hhk.out hh2) (by rw [hk2]; decide)
    · cases hh2 : h
      · exact .inr (.inr ⟨rfl, rfl, by rw [← hr, hk2, hh2]; rfl, hvg.out hk2⟩)
      · exact .inr (.inl ⟨rfl, rfl, by rw [← hr, hk2, hh2]; rfl, hvg.out hk2⟩)
  clear hvg hhk hr
  have hoth : (g != other) = false ∨ (g != other) = true ∧ Hid (hasS y other = q) ∧ Hid (hasS x other = q) := by
    by_cases e : g = other
    · exact .inl (by simp [e])
    · exact .inr ⟨by simpa using e, hyo e, hxo e⟩
  clear hyo hxo
  rcases hcase with ⟨rfl, rfl, rfl⟩ | ⟨rfl, rfl, rfl, hvv⟩ | ⟨rfl, rfl, rfl, hvv⟩
  all_goals
    try have tv : (v != g) = false := by simpa using hvv
    try clear hvv
    rcases hoth with t1 | ⟨t1, hyo, hxo⟩
  all_goals
    go_enter Tryd.func7, Tryd.ntmps7
    go_wp2_with (first
      | (go_at_call 8
         (with_reducible refine (alive_any H).mono ?_)
         rintro e w1 ⟨rfl, B1⟩
         have H1 := TabW.below H B1.out)
      | (go_at_call 9
         (with_reducible refine (name_any H1 hm hk).mono ?_)
         rintro e w2 ⟨rfl, hw⟩
         obtain rfl := hw.symm)
      | (go_at_call 11
         (with_reducible refine (num_t H1 ho hv hob).mono ?_)
         rintro e w2 ⟨rfl, hw⟩
         obtain rfl := hw.symm)
      | (go_at_call 17
         (with_reducible refine (add_any H1 hs hy).mono ?_)
         rintro e w2 ⟨rfl, hw⟩
         obtain rfl := hw.symm)
      | (go_at_call 19
         (with_reducible refine (del_any H1 hs hx).mono ?_)
         rintro e w2 ⟨rfl, hw⟩
         obtain rfl := hw.symm)
      | (go_at_call 15
         (first
          | (with_reducible refine (has_b H1 HY hyg).mono ?_)
          | (with_reducible refine (has_b H1 HX hxg).mono ?_)
          | (with_reducible refine (has_b H1 HY hyo).mono ?_)
          | (with_reducible refine (has_b H1 HX hxo).mono ?_)
          | (with_reducible refine (has_b H1 hs hq).mono ?_))
         rintro e w2 ⟨rfl, hw⟩
         obtain rfl := hw.symm)
      | (go_at_call 22
         (with_reducible refine (list_any H1 hs hl).mono ?_)
         rintro e w3 ⟨A, n, c, rfl, hn, S3, C3⟩
         have B3 := bel_t B1 C3.out
         have H3 := TabW.below H B3.out
         have hn0 : n ≤ 22 := by have := hlen.out; have := hn.out; omega))
    go_loopw [84] (fun i wr => ∃ j : Nat, j ≤ n ∧ i = .int .i64 j ∧ w3 = wr) (fun i _ => n - (intOf i).toNat)
    case atStart => exact ⟨0, by omega, rfl, rfl⟩
    case round =>
      obtain ⟨j, hj, rfl, rfl⟩ := hrel
      by_cases hjn : j < n
      · have hi : (j : Int) < n := by omega
        rcases Nat.eq_zero_or_pos j with hj0 | hj0
        · obtain ⟨b, o9, z, rfl, hz, _, c0⟩ := sli_cell S3.out hn.out hjn
          have hzh := list_has hl hz
          have hj1 : decide ((0 : Int) < (j : Int)) = false := by simp; omega
          have hj2 : decide (0 < j) = false := by simp; omega
          clear hz hj0
          go_wp2_with (first
            | (go_at_call 15
               (with_reducible refine (has_b H3 hs hzh).mono ?_)
               rintro e w4 ⟨rfl, rfl⟩))
          go_roundw
          case rel => exact ⟨j + 1, by omega, by go_num, by trivial⟩
          case measure => simp [intOf]; omega
        · obtain ⟨i, hji⟩ : ∃ i, Hid (j = i + 1) := ⟨j - 1, hid (by omega)⟩
          obtain ⟨b, o9, z0, z, rfl, hz0, hz, c0, c1⟩ := sli_two S3.out hn.out (j := i) (by have := hji.out; omega)
          have hzh := list_has hl hz
          have hlt' := list_up hl hz0 hz
          have hge : ¬ z0 ≥ z := by omega
          rw [← hji.out] at c1
          have hj1 : (j : Int) > 0 := by omega
          have hij : (j : Int) - 1 = i := by have := hji.out; omega
          have hin : (i : Int) < n := by omega
          clear hz hz0 hlt'
          go_wp2_with (first
            | (go_at_call 15
               (with_reducible refine (has_b H3 hs hzh).mono ?_)
               rintro e w4 ⟨rfl, rfl⟩))
          go_roundw
          case rel => exact ⟨j + 1, by omega, by go_num, by trivial⟩
          case measure => simp [intOf]; omega
      · have hi : ¬ (j : Int) < n := by omega
        go_wp2_with (first
          | (go_at_call 24
             (with_reducible refine (of_any H3 S3 hn (by omega) ht).mono ?_)
             rintro e w4 ⟨rfl, hw⟩
             obtain rfl := hw.symm)
          | (go_at_call 22
             (first
              | ((with_reducible refine (list_any H3 HT hlt).mono ?_)
                 rintro e w5 ⟨A5, n5, c5, rfl, hn5, S5, C5⟩
                 have B5 := bel_t B3 C5.out
                 have S3' := sli_up S3 C5.out)
              | ((with_reducible refine (list_any H6 HY hl2).mono ?_)
                 rintro e w7 ⟨A7, n7, c7, rfl, hn7, S7, C7⟩
                 have B7 := bel_t B6 C7.out
                 have H7 := TabW.below H B7.out
                 have e7 := hlen2.out
                 rw [hn7.out, hn.out] at e7
                 have t7 := len_eq e7
                 clear e7)))
          | (go_at_call 21
             (with_reducible refine (ints_same _ S5 hn5 S3' hn).mono ?_)
             rintro e w6 ⟨rfl, C6⟩
             have B6 := bel_t B5 C6.out
             have H6 := TabW.below H B6.out)
          | (go_at_call 15
             (with_reducible refine (has_b H7 hs hh).mono ?_)
             rintro e w8 ⟨rfl, hw⟩
             obtain rfl := hw.symm))
        go_ret
        exact ⟨rfl, B7⟩
end
end L18
end Go.Proofs.YtjbmoiblkehbmaaDoor
