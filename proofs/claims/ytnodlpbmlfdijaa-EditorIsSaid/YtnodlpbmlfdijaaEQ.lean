import Derived.Test.YtnodlpbmlfdijaaEP
namespace Go.Proofs.Ytnodlpbmlfdijaa
open Go.RowKit

section
variable {α : Type} {p : α → Bool} {l D : List α}
theorem wl_rev {q : Nat} {y : α} (h : l[q]? = some y) : (l.take (q + 1)).reverse = y :: (l.take q).reverse := by
  rw [List.take_add_one, h, List.reverse_append]
  rfl
theorem wl_next {q : Nat} {y : α} (h : (l.take (q + 1)).reverse.dropWhile p = D) (hy : l[q]? = some y) (hp : p y = true) : (l.take q).reverse.dropWhile p = D := by
  rwa [wl_rev hy, List.dropWhile_cons_of_pos hp] at h
theorem wl_stop {q : Nat} {y : α} (h : (l.take (q + 1)).reverse.dropWhile p = D) (hy : l[q]? = some y) (hp : p y = false) : (l.take (q + 1)).reverse = D := by
  rw [wl_rev hy, List.dropWhile_cons_of_neg (by rw [hp]; decide)] at h
  rw [wl_rev hy]
  exact h
theorem wl_zero {j : Nat} (hj : j = 0) (h : (l.take j).reverse.dropWhile p = D) : (l.take j).reverse = D := by
  subst hj
  simpa using h
end
theorem run_back33 {LA : Option Addr} {k lc j : Nat} {J : Int} (hJ : (j : Int) = J) (hc : LA = none → lc = 0) (hk : k ≤ lc) (hj : j ≤ k) : ∃ A2 c2, (∀ W : World, (Instr.sliceAt 33 (.slice LA k lc) (some (.int .i64 J)) none none).run Try.prog W = .ok (.slice A2 (k - j) c2) W) ∧
    ∀ (W : World) (B : Nat) (us : List (List UInt8)), us.length = k → LisV W B LA us → LisV W B A2 (us.drop j) := by
  subst hJ
  rcases LA with _ | ad
  · obtain rfl := hc rfl
    obtain rfl : k = 0 := by omega
    obtain rfl : j = 0 := by omega
    exact ⟨none, 0, fun W => by simp [Instr.sliceAt, Instr.slice, go_sem], fun W B us _ h => h⟩
  · have hk2 : (j : Int) ≤ (lc : Int) := by omega
    refine ⟨some (if lc = j then ad else ad.add j), lc - j, fun W => ?_, fun W B us hl h hne => ?_⟩
    · simp [Instr.sliceAt, Instr.slice, go_sem, hj]
      split <;> rfl
    · have hlt : j < us.length := by
        rcases Nat.lt_or_ge j us.length with h1 | h1
        · exact h1
        · exact absurd (List.drop_eq_nil_of_le h1) hne
      obtain ⟨b, o, e, hb, hcl⟩ := h (by rintro rfl; simp at hlt)
      injection e with e
      subst e
      rw [if_neg (by omega)]
      refine ⟨b, o + j, by simp [Addr.add], hb, fun i hi => ?_⟩
      have hi2 : j + i < us.length := by rw [List.length_drop] at hi; omega
      obtain ⟨A', c', h1, h2⟩ := hcl (j + i) hi2
      have e2 : (us.drop j)[i] = us[j + i] := List.getElem_drop ..
      refine ⟨A', c', ?_, ?_⟩
      · rw [e2, Nat.add_assoc]
        exact h1
      · rw [e2]
        exact h2
theorem own_nil {w : World} {b e n c : Nat} {A : Option Addr} {xs : List Value} (h : w.ownsRow b e 1 (.slice A n c) n xs) : A = none → c = 0 := by
  rintro rfl
  rcases h.2 with ⟨hv, _⟩ | ⟨g, cap, cur, hv, _⟩
  · injection hv
  · injection hv with h1 _ _
    cases h1
theorem sum_to {l : List (List UInt8)} {i : Nat} {x : List UInt8} (h : l[i]? = some x) : (l.take (i + 1)).flatten.length = (l.take i).flatten.length + x.length := by
  rw [List.take_add_one, h, List.flatten_append, List.length_append]
  simp
/-- What is left of the characters is the line's beginning. -/
theorem wordr_fin {u : Bool} {bs : List UInt8} {us : List (List UInt8)} {n m : Nat} (hus : units u bs = us) (hn : bs.length = n) (h : (us.take m).reverse = wordR us.reverse) : ∃ p, p + (us.drop m).flatten.length = n ∧ Hid (bs.take p = restL u bs) ∧ Hid (bs.drop p = goneL u bs) := by
  have e1 : restL u bs = (us.take m).flatten := by
    unfold restL restU
    rw [hus, ← h, List.reverse_reverse]
  have e2 : (us.take m).flatten.length + (us.drop m).flatten.length = n := by
    rw [← List.length_append, ← List.flatten_append, List.take_append_drop, ← hus, units_flat, hn]
  refine ⟨(restL u bs).length, by rw [e1]; exact e2, hid (restL_take u bs).symm, hid rfl⟩
set_option maxRecDepth 100000 in
set_option maxHeartbeats 8000000 in
theorem wordr_any (w : World) (t : Tm) (ht : t.Ok) (A : Option Addr) (n c : Nat) (bs : List UInt8) {u : Bool} (hu : Hid (hasN t.f 42 = u)) (hb : Hid (SlB w w.heap.size A c bs)) (hn : bs.length = n) (hm : n ≤ 1000000) :
    Calls Try.prog 13 #[.agg t.cs, .slice A n c] w (Cut w (restL u bs) (goneL u bs)) := by
  have hs := cs_size ht.len
  have K0 := old26 w t
  have S0 := slb_at hb K0
  obtain ⟨us, hus⟩ : ∃ us, Hid (units u bs = us) := ⟨_, hid rfl⟩
  obtain ⟨xs, hxs⟩ : ∃ xs, restL u bs = xs := ⟨_, rfl⟩
  obtain ⟨ys, hys⟩ : ∃ ys, goneL u bs = ys := ⟨_, rfl⟩
  have HX := hid hxs
  have HY := hid hys
  rw [hxs, hys]
  clear hxs hys
  have hul : us.length ≤ n := by have := units_len u bs; rw [hus.out, hn] at this; exact this
  obtain ⟨D1, hD1⟩ : ∃ x, Hid (us.reverse.dropWhile blankU = x) := ⟨_, hid rfl⟩
  obtain ⟨D2, hD2⟩ : ∃ x, Hid (D1.dropWhile (fun x => !blankU x) = x) := ⟨_, hid rfl⟩
  have HD : Hid (D2 = wordR us.reverse) := hid (by rw [← hD2.out, ← hD1.out]; rfl)
  go_enter Try.func13, Try.ntmps13
  go_wp2_with (first
    | (refine bx26 (by rfl) _ (by rfl) _ (by rfl) hs ?_
       intro G0)
    | (refine ld26 (by rfl) _ (by rfl) _ (by rfl) t.cs G0.out hs ?_)
    | (go_at_call 17
       (with_reducible refine (unitsr_any _ t ht A n c bs hu S0 hn hm).mono ?_)
       rw [hus.out]
       rintro e v2 ⟨LA, k, lc, cs, rfl, hk, o2, P2, K2⟩
       have B2 := bel_t K0 K2.out
       have V2 := hid (P2.out.lis o2.out)
       have S2 := slb_at S0 K2
       have hkk := hk.out
       have hcap := (own_caps o2.out).1
       have HNil := hid (own_nil o2.out)
       clear K2 G0 K0 o2 P2))
  have hkn : k ≤ 1000000 := by omega
  go_loop [7] (fun i => ∃ j, j ≤ k ∧ i = .int .i64 (j : Int) ∧ Hid ((us.take j).reverse.dropWhile blankU = D1)) (fun i => (intOf i).toNat)
  case atStart => exact ⟨k, Nat.le_refl _, rfl, hid (by rw [List.take_of_length_le (by omega)]; exact hD1.out)⟩
  case round =>
    obtain ⟨j, hj, rfl, HJ⟩ := hrel
    by_cases hj0 : j = 0
    · subst hj0
      have HE := hid (wl_zero rfl HJ.out)
      go_wp2
      go_loop [7] (fun i => ∃ z, z ≤ k ∧ i = .int .i64 (z : Int) ∧ Hid ((us.take z).reverse.dropWhile (fun x => !blankU x) = D2)) (fun i => (intOf i).toNat)
      case atStart => exact ⟨0, hj, rfl, hid (by rw [HE.out]; exact hD2.out)⟩
      case round =>
        obtain ⟨i, hi, rfl, HI⟩ := hrel
        by_cases hi0 : i = 0
        · subst hi0
          have HF := hid (wl_zero rfl HI.out)
          obtain ⟨A9, c9, hr9, hl9⟩ := run_back33 (j := 0) (J := 0) rfl HNil.out hcap (show 0 ≤ k by omega)
          have V9 := hid (hl9 _ _ us hkk V2.out)
          obtain ⟨p9, hp9, hx9, hy9⟩ := wordr_fin (m := 0) hus.out hn (HF.out.trans HD.out)
          rw [HX.out] at hx9
          rw [HY.out] at hy9
          have HSB : Hid (∀ x, ((us.drop 0).take x).flatten.length ≤ n) := hid fun x => by
            have := flat_le (us.drop 0) x
            omega
          obtain ⟨m9, hm9⟩ : ∃ m9, k - 0 = m9 := ⟨_, rfl⟩
          rw [hm9] at hr9
          have hdl : Hid ((us.drop 0).length = m9) := hid (by rw [List.length_drop]; omega)
          have hm96 : m9 ≤ 1000000 := by omega
          clear hl9 HF
          obtain ⟨vs, hvs⟩ : ∃ vs, us.drop 0 = vs := ⟨_, rfl⟩
          rw [hvs] at V9 hdl HSB hp9
          clear hvs hm9
          go_wp2
          go_loop [8, 45] (fun z y => ∃ x, x ≤ m9 ∧ z = .int .i64 ((vs.take x).flatten.length : Int) ∧ y = .int .i64 (x : Int)) (fun _ y => m9 - (intOf y).toNat)
          case atStart => exact ⟨0, Nat.zero_le _, rfl, rfl⟩
          case round =>
            obtain ⟨x, hx, rfl, rfl⟩ := hrel
            by_cases hxm : x < m9
            · have kx : (x : Int) < (m9 : Int) := by omega
              obtain ⟨b9, o9, hA9, _, hc9⟩ := V9.out (by intro e; have := hdl.out; rw [e] at this; simp at this; omega)
              cases hA9
              obtain ⟨A8, c8, q8, _⟩ := hc9 x (by have := hdl.out; omega)
              obtain ⟨el, hel⟩ : ∃ el, Hid (vs[x]? = some el) := ⟨_, hid (List.getElem?_eq_getElem (by have := hdl.out; omega))⟩
              have hel2 : vs[x]'(by have := hdl.out; omega) = el := by
                have := hel.out
                rw [List.getElem?_eq_getElem (by have := hdl.out; omega)] at this
                exact Option.some.inj this
              rw [hel2] at q8
              have hsum := sum_to hel.out
              have hb1 := HSB.out (x + 1)
              obtain ⟨a1, ha1⟩ : ∃ a1, Hid ((vs.take x).flatten.length = a1) := ⟨_, hid rfl⟩
              obtain ⟨a2, ha2⟩ : ∃ a2, Hid (el.length = a2) := ⟨_, hid rfl⟩
              rw [ha1.out, ha2.out] at hsum
              rw [hsum] at hb1
              rw [ha1.out]
              rw [ha2.out] at q8
              have HSum := hid hsum
              clear hsum hc9 hel2
              go_wp2
              go_round
              case rel => exact ⟨x + 1, by omega, by rw [HSum.out]; go_num, by go_num⟩
              case measure => simp [intOf]; omega
            · have kx : ¬ (x : Int) < (m9 : Int) := by omega
              have ht9 : vs.take x = vs := List.take_of_length_le (by have := hdl.out; omega)
              rw [ht9]
              obtain ⟨kk9, hk9⟩ : ∃ kk9, vs.flatten.length = kk9 := ⟨_, rfl⟩
              rw [hk9] at hp9 ⊢
              clear ht9 hk9
              go_wp2_with (first
                | (go_at_call 27
                   (with_reducible refine (cutr_x w _ B2 A n c p9 kk9 bs xs ys S2 hn hm hp9 hx9 hy9).mono ?_)
                   rintro e v7 ⟨A1, n1, c1, A3, n3, c3, rfl, h1, h2, h3, h4, h5⟩))
              go_ret2
              exact ⟨A1, n1, c1, A3, n3, c3, rfl, h1, h2, h3, h4, h5⟩
        · obtain ⟨r, hr⟩ : ∃ r, r + 1 = i := ⟨i - 1, by omega⟩
          have kq : 0 < i := by omega
          have e5 : (i : Int) - 1 = (r : Int) := by omega
          have k5 : (r : Int) < (k : Int) := by omega
          obtain ⟨b5, o5, hA5, _, hc5⟩ := V2.out (by rintro rfl; simp at hkk; omega)
          cases hA5
          obtain ⟨A6, c6, q6, S6⟩ := hc5 r (by omega)
          obtain ⟨el6, hel6⟩ : ∃ el, Hid (us[r]? = some el) := ⟨_, hid (List.getElem?_eq_getElem (by omega))⟩
          have hel7 : us[r]'(by omega) = el6 := by
            have := hel6.out
            rw [List.getElem?_eq_getElem (by omega)] at this
            exact Option.some.inj this
          rw [hel7] at q6 S6
          have HS6 := hid S6
          obtain ⟨m6, hm6⟩ : ∃ m6, Hid (el6.length = m6) := ⟨_, hid rfl⟩
          rw [hm6.out] at q6
          have HI1 : Hid ((us.take (r + 1)).reverse.dropWhile (fun x => !blankU x) = D2) := by rw [hr]; exact HI
          clear hc5 S6 hel7
          cases hbk : blankU el6
          · have HI2 := hid (wl_next HI1.out hel6.out (by simp [hbk]))
            go_wp2_with (first
              | (go_at_call 30
                 (with_reducible refine (blankr_b _ A6 m6 c6 el6 HS6 hm6 hbk).mono ?_)
                 rintro e v6 ⟨rfl, rfl⟩))
            go_round
            case rel => exact ⟨r, by omega, rfl, HI2⟩
            case measure => simp [intOf]; omega
          · have HF : Hid ((us.take i).reverse = D2) := hid (by rw [← hr]; exact wl_stop HI1.out hel6.out (by simp [hbk]))
            obtain ⟨A9, c9, hr9, hl9⟩ := run_back33 (j := i) (J := (i : Int)) rfl HNil.out hcap (show i ≤ k by omega)
            have V9 := hid (hl9 _ _ us hkk V2.out)
            obtain ⟨p9, hp9, hx9, hy9⟩ := wordr_fin (m := i) hus.out hn (HF.out.trans HD.out)
            rw [HX.out] at hx9
            rw [HY.out] at hy9
            have HSB : Hid (∀ x, ((us.drop i).take x).flatten.length ≤ n) := hid fun x => by
              have := flat_le (us.drop i) x
              omega
            obtain ⟨m9, hm9⟩ : ∃ m9, k - i = m9 := ⟨_, rfl⟩
            rw [hm9] at hr9
            have hdl : Hid ((us.drop i).length = m9) := hid (by rw [List.length_drop]; omega)
            have hm96 : m9 ≤ 1000000 := by omega
            clear hl9 HF
            obtain ⟨vs, hvs⟩ : ∃ vs, us.drop i = vs := ⟨_, rfl⟩
            rw [hvs] at V9 hdl HSB hp9
            clear hvs hm9
            go_wp2_with (first
              | (go_at_call 30
                 (with_reducible refine (blankr_b _ A6 m6 c6 el6 HS6 hm6 hbk).mono ?_)
                 rintro e v6 ⟨rfl, rfl⟩))
            go_loop [8, 45] (fun z y => ∃ x, x ≤ m9 ∧ z = .int .i64 ((vs.take x).flatten.length : Int) ∧ y = .int .i64 (x : Int)) (fun _ y => m9 - (intOf y).toNat)
            case atStart => exact ⟨0, Nat.zero_le _, rfl, rfl⟩
            case round =>
              obtain ⟨x, hx, rfl, rfl⟩ := hrel
              by_cases hxm : x < m9
              · have kx : (x : Int) < (m9 : Int) := by omega
                obtain ⟨b9, o9, hA9, _, hc9⟩ := V9.out (by intro e; have := hdl.out; rw [e] at this; simp at this; omega)
                cases hA9
                obtain ⟨A8, c8, q8, _⟩ := hc9 x (by have := hdl.out; omega)
                obtain ⟨el, hel⟩ : ∃ el, Hid (vs[x]? = some el) := ⟨_, hid (List.getElem?_eq_getElem (by have := hdl.out; omega))⟩
                have hel2 : vs[x]'(by have := hdl.out; omega) = el := by
                  have := hel.out
                  rw [List.getElem?_eq_getElem (by have := hdl.out; omega)] at this
                  exact Option.some.inj this
                rw [hel2] at q8
                have hsum := sum_to hel.out
                have hb1 := HSB.out (x + 1)
                obtain ⟨a1, ha1⟩ : ∃ a1, Hid ((vs.take x).flatten.length = a1) := ⟨_, hid rfl⟩
                obtain ⟨a2, ha2⟩ : ∃ a2, Hid (el.length = a2) := ⟨_, hid rfl⟩
                rw [ha1.out, ha2.out] at hsum
                rw [hsum] at hb1
                rw [ha1.out]
                rw [ha2.out] at q8
                have HSum := hid hsum
                clear hsum hc9 hel2
                go_wp2
                go_round
                case rel => exact ⟨x + 1, by omega, by rw [HSum.out]; go_num, by go_num⟩
                case measure => simp [intOf]; omega
              · have kx : ¬ (x : Int) < (m9 : Int) := by omega
                have ht9 : vs.take x = vs := List.take_of_length_le (by have := hdl.out; omega)
                rw [ht9]
                obtain ⟨kk9, hk9⟩ : ∃ kk9, vs.flatten.length = kk9 := ⟨_, rfl⟩
                rw [hk9] at hp9 ⊢
                clear ht9 hk9
                go_wp2_with (first
                  | (go_at_call 27
                     (with_reducible refine (cutr_x w _ B2 A n c p9 kk9 bs xs ys S2 hn hm hp9 hx9 hy9).mono ?_)
                     rintro e v7 ⟨A1, n1, c1, A3, n3, c3, rfl, h1, h2, h3, h4, h5⟩))
                go_ret2
                exact ⟨A1, n1, c1, A3, n3, c3, rfl, h1, h2, h3, h4, h5⟩
    · obtain ⟨q, hq⟩ : ∃ q, q + 1 = j := ⟨j - 1, by omega⟩
      have kp : 0 < j := by omega
      have e3 : (j : Int) - 1 = (q : Int) := by omega
      have k3 : (q : Int) < (k : Int) := by omega
      obtain ⟨b3, o3, hA3, _, hc3⟩ := V2.out (by rintro rfl; simp at hkk; omega)
      cases hA3
      obtain ⟨A4, c4, q4, S4⟩ := hc3 q (by omega)
      obtain ⟨el4, hel4⟩ : ∃ el, Hid (us[q]? = some el) := ⟨_, hid (List.getElem?_eq_getElem (by omega))⟩
      have hel5 : us[q]'(by omega) = el4 := by
        have := hel4.out
        rw [List.getElem?_eq_getElem (by omega)] at this
        exact Option.some.inj this
      rw [hel5] at q4 S4
      have HS4 := hid S4
      obtain ⟨m4, hm4⟩ : ∃ m4, Hid (el4.length = m4) := ⟨_, hid rfl⟩
      rw [hm4.out] at q4
      have HJ1 : Hid ((us.take (q + 1)).reverse.dropWhile blankU = D1) := by rw [hq]; exact HJ
      clear hc3 S4 hel5
      cases hbk4 : blankU el4
      · have HE : Hid ((us.take j).reverse = D1) := hid (by rw [← hq]; exact wl_stop HJ1.out hel4.out hbk4)
        go_wp2_with (first
          | (go_at_call 30
             (with_reducible refine (blankr_b _ A4 m4 c4 el4 HS4 hm4 hbk4).mono ?_)
             rintro e v4 ⟨rfl, rfl⟩))
        go_loop [7] (fun i => ∃ z, z ≤ k ∧ i = .int .i64 (z : Int) ∧ Hid ((us.take z).reverse.dropWhile (fun x => !blankU x) = D2)) (fun i => (intOf i).toNat)
        case atStart => exact ⟨j, hj, rfl, hid (by rw [HE.out]; exact hD2.out)⟩
        case round =>
          obtain ⟨i, hi, rfl, HI⟩ := hrel
          by_cases hi0 : i = 0
          · subst hi0
            have HF := hid (wl_zero rfl HI.out)
            obtain ⟨A9, c9, hr9, hl9⟩ := run_back33 (j := 0) (J := 0) rfl HNil.out hcap (show 0 ≤ k by omega)
            have V9 := hid (hl9 _ _ us hkk V2.out)
            obtain ⟨p9, hp9, hx9, hy9⟩ := wordr_fin (m := 0) hus.out hn (HF.out.trans HD.out)
            rw [HX.out] at hx9
            rw [HY.out] at hy9
            have HSB : Hid (∀ x, ((us.drop 0).take x).flatten.length ≤ n) := hid fun x => by
              have := flat_le (us.drop 0) x
              omega
            obtain ⟨m9, hm9⟩ : ∃ m9, k - 0 = m9 := ⟨_, rfl⟩
            rw [hm9] at hr9
            have hdl : Hid ((us.drop 0).length = m9) := hid (by rw [List.length_drop]; omega)
            have hm96 : m9 ≤ 1000000 := by omega
            clear hl9 HF
            obtain ⟨vs, hvs⟩ : ∃ vs, us.drop 0 = vs := ⟨_, rfl⟩
            rw [hvs] at V9 hdl HSB hp9
            clear hvs hm9
            go_wp2
            go_loop [8, 45] (fun z y => ∃ x, x ≤ m9 ∧ z = .int .i64 ((vs.take x).flatten.length : Int) ∧ y = .int .i64 (x : Int)) (fun _ y => m9 - (intOf y).toNat)
            case atStart => exact ⟨0, Nat.zero_le _, rfl, rfl⟩
            case round =>
              obtain ⟨x, hx, rfl, rfl⟩ := hrel
              by_cases hxm : x < m9
              · have kx : (x : Int) < (m9 : Int) := by omega
                obtain ⟨b9, o9, hA9, _, hc9⟩ := V9.out (by intro e; have := hdl.out; rw [e] at this; simp at this; omega)
                cases hA9
                obtain ⟨A8, c8, q8, _⟩ := hc9 x (by have := hdl.out; omega)
                obtain ⟨el, hel⟩ : ∃ el, Hid (vs[x]? = some el) := ⟨_, hid (List.getElem?_eq_getElem (by have := hdl.out; omega))⟩
                have hel2 : vs[x]'(by have := hdl.out; omega) = el := by
                  have := hel.out
                  rw [List.getElem?_eq_getElem (by have := hdl.out; omega)] at this
                  exact Option.some.inj this
                rw [hel2] at q8
                have hsum := sum_to hel.out
                have hb1 := HSB.out (x + 1)
                obtain ⟨a1, ha1⟩ : ∃ a1, Hid ((vs.take x).flatten.length = a1) := ⟨_, hid rfl⟩
                obtain ⟨a2, ha2⟩ : ∃ a2, Hid (el.length = a2) := ⟨_, hid rfl⟩
                rw [ha1.out, ha2.out] at hsum
                rw [hsum] at hb1
                rw [ha1.out]
                rw [ha2.out] at q8
                have HSum := hid hsum
                clear hsum hc9 hel2
                go_wp2
                go_round
                case rel => exact ⟨x + 1, by omega, by rw [HSum.out]; go_num, by go_num⟩
                case measure => simp [intOf]; omega
              · have kx : ¬ (x : Int) < (m9 : Int) := by omega
                have ht9 : vs.take x = vs := List.take_of_length_le (by have := hdl.out; omega)
                rw [ht9]
                obtain ⟨kk9, hk9⟩ : ∃ kk9, vs.flatten.length = kk9 := ⟨_, rfl⟩
                rw [hk9] at hp9 ⊢
                clear ht9 hk9
                go_wp2_with (first
                  | (go_at_call 27
                     (with_reducible refine (cutr_x w _ B2 A n c p9 kk9 bs xs ys S2 hn hm hp9 hx9 hy9).mono ?_)
                     rintro e v7 ⟨A1, n1, c1, A3, n3, c3, rfl, h1, h2, h3, h4, h5⟩))
                go_ret2
                exact ⟨A1, n1, c1, A3, n3, c3, rfl, h1, h2, h3, h4, h5⟩
          · obtain ⟨r, hr⟩ : ∃ r, r + 1 = i := ⟨i - 1, by omega⟩
            have kq : 0 < i := by omega
            have e5 : (i : Int) - 1 = (r : Int) := by omega
            have k5 : (r : Int) < (k : Int) := by omega
            obtain ⟨b5, o5, hA5, _, hc5⟩ := V2.out (by rintro rfl; simp at hkk; omega)
            cases hA5
            obtain ⟨A6, c6, q6, S6⟩ := hc5 r (by omega)
            obtain ⟨el6, hel6⟩ : ∃ el, Hid (us[r]? = some el) := ⟨_, hid (List.getElem?_eq_getElem (by omega))⟩
            have hel7 : us[r]'(by omega) = el6 := by
              have := hel6.out
              rw [List.getElem?_eq_getElem (by omega)] at this
              exact Option.some.inj this
            rw [hel7] at q6 S6
            have HS6 := hid S6
            obtain ⟨m6, hm6⟩ : ∃ m6, Hid (el6.length = m6) := ⟨_, hid rfl⟩
            rw [hm6.out] at q6
            have HI1 : Hid ((us.take (r + 1)).reverse.dropWhile (fun x => !blankU x) = D2) := by rw [hr]; exact HI
            clear hc5 S6 hel7
            cases hbk : blankU el6
            · have HI2 := hid (wl_next HI1.out hel6.out (by simp [hbk]))
              go_wp2_with (first
                | (go_at_call 30
                   (with_reducible refine (blankr_b _ A6 m6 c6 el6 HS6 hm6 hbk).mono ?_)
                   rintro e v6 ⟨rfl, rfl⟩))
              go_round
              case rel => exact ⟨r, by omega, rfl, HI2⟩
              case measure => simp [intOf]; omega
            · have HF : Hid ((us.take i).reverse = D2) := hid (by rw [← hr]; exact wl_stop HI1.out hel6.out (by simp [hbk]))
              obtain ⟨A9, c9, hr9, hl9⟩ := run_back33 (j := i) (J := (i : Int)) rfl HNil.out hcap (show i ≤ k by omega)
              have V9 := hid (hl9 _ _ us hkk V2.out)
              obtain ⟨p9, hp9, hx9, hy9⟩ := wordr_fin (m := i) hus.out hn (HF.out.trans HD.out)
              rw [HX.out] at hx9
              rw [HY.out] at hy9
              have HSB : Hid (∀ x, ((us.drop i).take x).flatten.length ≤ n) := hid fun x => by
                have := flat_le (us.drop i) x
                omega
              obtain ⟨m9, hm9⟩ : ∃ m9, k - i = m9 := ⟨_, rfl⟩
              rw [hm9] at hr9
              have hdl : Hid ((us.drop i).length = m9) := hid (by rw [List.length_drop]; omega)
              have hm96 : m9 ≤ 1000000 := by omega
              clear hl9 HF
              obtain ⟨vs, hvs⟩ : ∃ vs, us.drop i = vs := ⟨_, rfl⟩
              rw [hvs] at V9 hdl HSB hp9
              clear hvs hm9
              go_wp2_with (first
                | (go_at_call 30
                   (with_reducible refine (blankr_b _ A6 m6 c6 el6 HS6 hm6 hbk).mono ?_)
                   rintro e v6 ⟨rfl, rfl⟩))
              go_loop [8, 45] (fun z y => ∃ x, x ≤ m9 ∧ z = .int .i64 ((vs.take x).flatten.length : Int) ∧ y = .int .i64 (x : Int)) (fun _ y => m9 - (intOf y).toNat)
              case atStart => exact ⟨0, Nat.zero_le _, rfl, rfl⟩
              case round =>
                obtain ⟨x, hx, rfl, rfl⟩ := hrel
                by_cases hxm : x < m9
                · have kx : (x : Int) < (m9 : Int) := by omega
                  obtain ⟨b9, o9, hA9, _, hc9⟩ := V9.out (by intro e; have := hdl.out; rw [e] at this; simp at this; omega)
                  cases hA9
                  obtain ⟨A8, c8, q8, _⟩ := hc9 x (by have := hdl.out; omega)
                  obtain ⟨el, hel⟩ : ∃ el, Hid (vs[x]? = some el) := ⟨_, hid (List.getElem?_eq_getElem (by have := hdl.out; omega))⟩
                  have hel2 : vs[x]'(by have := hdl.out; omega) = el := by
                    have := hel.out
                    rw [List.getElem?_eq_getElem (by have := hdl.out; omega)] at this
                    exact Option.some.inj this
                  rw [hel2] at q8
                  have hsum := sum_to hel.out
                  have hb1 := HSB.out (x + 1)
                  obtain ⟨a1, ha1⟩ : ∃ a1, Hid ((vs.take x).flatten.length = a1) := ⟨_, hid rfl⟩
                  obtain ⟨a2, ha2⟩ : ∃ a2, Hid (el.length = a2) := ⟨_, hid rfl⟩
                  rw [ha1.out, ha2.out] at hsum
                  rw [hsum] at hb1
                  rw [ha1.out]
                  rw [ha2.out] at q8
                  have HSum := hid hsum
                  clear hsum hc9 hel2
                  go_wp2
                  go_round
                  case rel => exact ⟨x + 1, by omega, by rw [HSum.out]; go_num, by go_num⟩
                  case measure => simp [intOf]; omega
                · have kx : ¬ (x : Int) < (m9 : Int) := by omega
                  have ht9 : vs.take x = vs := List.take_of_length_le (by have := hdl.out; omega)
                  rw [ht9]
                  obtain ⟨kk9, hk9⟩ : ∃ kk9, vs.flatten.length = kk9 := ⟨_, rfl⟩
                  rw [hk9] at hp9 ⊢
                  clear ht9 hk9
                  go_wp2_with (first
                    | (go_at_call 27
                       (with_reducible refine (cutr_x w _ B2 A n c p9 kk9 bs xs ys S2 hn hm hp9 hx9 hy9).mono ?_)
                       rintro e v7 ⟨A1, n1, c1, A3, n3, c3, rfl, h1, h2, h3, h4, h5⟩))
                  go_ret2
                  exact ⟨A1, n1, c1, A3, n3, c3, rfl, h1, h2, h3, h4, h5⟩
      · have HJ2 := hid (wl_next HJ1.out hel4.out hbk4)
        go_wp2_with (first
          | (go_at_call 30
             (with_reducible refine (blankr_b _ A4 m4 c4 el4 HS4 hm4 hbk4).mono ?_)
             rintro e v4 ⟨rfl, rfl⟩))
        go_round
        case rel => exact ⟨q, by omega, rfl, HJ2⟩
        case measure => simp [intOf]; omega
end Go.Proofs.Ytnodlpbmlfdijaa
