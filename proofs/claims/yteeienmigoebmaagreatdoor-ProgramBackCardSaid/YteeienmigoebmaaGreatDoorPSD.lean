import Derived.Test.YteeienmigoebmaaGreatDoorPSC
namespace Go.Proofs.YteeienmigoebmaaGreatDoor
namespace L19
open Go.RowKit L18

/-! Layer 19: the document's Check. -/
theorem find_spec : ∀ (l : List ProgV) (s : List UInt8) (i k : Nat) (p : ProgV), l[k]? = some p → p.1 = s → ∃ j, j ≤ k ∧ findP l s i = (((i + j : Nat) : Int), true) ∧ (∃ q, l[j]? = some q ∧ q.1 = s) ∧ ∀ j', j' < j → ∀ q, l[j']? = some q → q.1 ≠ s
  | [], _, _, _, _, h, _ => by simp at h
  | x :: l, s, i, k, p, h, hp => by
    by_cases hx : x.1 = s
    · refine ⟨0, Nat.zero_le _, ?_, ⟨x, rfl, hx⟩, fun j' h' => by omega⟩
      unfold findP
      rw [if_pos hx]
      rfl
    · cases k with
      | zero =>
        simp at h
        subst h
        exact absurd hp hx
      | succ k =>
        obtain ⟨j, hj, hf, hq, hm⟩ := find_spec l s (i + 1) k p (by simpa using h) hp
        refine ⟨j + 1, by omega, ?_, by simpa using hq, fun j' h' q h2 => ?_⟩
        · unfold findP
          rw [if_neg hx, hf]
          congr 2
          omega
        · cases j' with
          | zero =>
            simp at h2
            subst h2
            exact hx
          | succ j' => exact hm j' (by omega) q (by simpa using h2)
theorem names_of {l : List ProgV} (h : ∀ (j : Nat) (p : ProgV), l[j]? = some p → (findP l p.1 0).1 = (j : Int)) : namesN l = true := by
  unfold namesN
  rw [decide_eq_true_iff, List.nodup_iff_pairwise_ne, List.pairwise_iff_getElem]
  intro i j hi hj hij e
  rw [List.length_map] at hi hj
  rw [List.getElem_map, List.getElem_map] at e
  obtain ⟨m, hm, hf, _, hlt⟩ := find_spec l l[j].1 0 j l[j] (List.getElem?_eq_getElem hj) rfl
  have h1 := h j l[j] (List.getElem?_eq_getElem hj)
  rw [hf] at h1
  have h2 : m = j := by simp at h1; omega
  exact hlt i (by omega) l[i] (List.getElem?_eq_getElem hi) e
theorem names_not {l : List ProgV} {k : Nat} {p : ProgV} (hk : l[k]? = some p) (h : (findP l p.1 0).1 ≠ (k : Int)) : namesN l = false := by
  cases hq : namesN l
  · rfl
  · exfalso
    unfold namesN at hq
    rw [decide_eq_true_iff, List.nodup_iff_pairwise_ne, List.pairwise_iff_getElem] at hq
    obtain ⟨m, hm, hf, ⟨q, hq1, hq2⟩, _⟩ := find_spec l p.1 0 k p hk rfl
    rw [hf] at h
    have hmk : m ≠ k := fun e => h (by simp [e])
    obtain ⟨hkl, rfl⟩ := List.getElem?_eq_some_iff.1 hk
    obtain ⟨hml, rfl⟩ := List.getElem?_eq_some_iff.1 hq1
    exact hq m k (by simpa using hml) (by simpa using hkl) (by omega) (by simpa using hq2)
section
variable {w : World}
set_option maxRecDepth 100000 in
set_option maxHeartbeats 8000000 in
theorem checkr_any (w : World) (A : Option Addr) (n c : Nat) (X : List PgX) (hl : Hid (PgM w w.heap.size A c X)) (hn : X.length = n) {e0 : Int} (he : Hid (checkP (prL X) = e0)) :
    Calls Tryz.prog 22 #[.slice A n c] w fun e w' => e = .returned (.int .i64 e0) ∧ Hid (Below w.heap.size w w') := by
  have HN := hid hn
  have hlen : (prL X).length = n := by rw [prL_len, hn]
  go_enter Tryz.func22, Tryz.ntmps22
  by_cases h1 : n < 1
  · have t1 : (n : Int) < 1 := by omega
    have h5 : e0 = 5 := by rw [← he.out]; unfold checkP; rw [hlen, if_pos (.inl h1)]
    subst h5
    go_wp2
    go_ret
    exact ⟨rfl, hid (Below.refl _ _)⟩
  by_cases h2 : 32 < n
  · have t1 : ¬ (n : Int) < 1 := by omega
    have t2 : (n : Int) > 32 := by omega
    have h5 : e0 = 5 := by rw [← he.out]; unfold checkP; rw [hlen, if_pos (.inr h2)]
    subst h5
    go_wp2
    go_ret
    exact ⟨rfl, hid (Below.refl _ _)⟩
  have t1 : ¬ (n : Int) < 1 := by omega
  have t2 : ¬ (n : Int) > 32 := by omega
  have HC : Hid ((if scanE n 0 (prL X) ≠ 0 then scanE n 0 (prL X) else if namesN (prL X) = false then 4 else 0) = e0) := hid (by
    have := he.out
    unfold checkP at this
    rw [hlen, if_neg (by omega)] at this
    exact this)
  obtain ⟨e1, he1⟩ : ∃ z, Hid (scanE n 0 (prL X) = z) := ⟨_, hid rfl⟩
  rw [he1.out] at HC
  have HL := hid hlen
  clear hlen h1 h2 he
  go_wp2
  go_loopw [21] (fun j wr => ∃ k : Nat, k ≤ n ∧ j = .int .i64 k ∧ Hid (Below w.heap.size w wr) ∧ Hid (scanE n k ((prL X).drop k) = e1)) (fun j _ => n - (intOf j).toNat)
  case atStart => exact ⟨0, Nat.zero_le _, rfl, hid (Below.refl _ _), he1⟩
  case round =>
    obtain ⟨k, hk, rfl, HB, HS⟩ := hrel
    by_cases hlt : k < n
    · have hi2 : (k : Int) < n := by omega
      obtain ⟨b, o, x, hA, hx, c0, c1, hS⟩ := (pg_up hl HB.out).out.at (k := k) (by rw [hn]; exact hlt)
      subst hA
      have hd : (prL X).drop k = x.1 :: (prL X).drop (k + 1) := by
        have h0 : (prL X)[k]? = some x.1 := by simp [prL, hx]
        obtain ⟨h1, h2⟩ := List.getElem?_eq_some_iff.1 h0
        rw [List.drop_eq_getElem_cons h1, h2]
      have HS2 : Hid ((if progE k n x.1 ≠ 0 then progE k n x.1 else scanE n (k + 1) ((prL X).drop (k + 1))) = e1) := hid (by
        have := HS.out
        rw [hd] at this
        exact this)
      obtain ⟨⟨nm, ops⟩, oA, oc⟩ := x
      simp only at c0 c1 HS2 hS
      obtain ⟨q, hq⟩ : ∃ z, Hid (ops.length = z) := ⟨_, hid rfl⟩
      rw [hq.out] at c1
      have S0 := hid hS
      obtain ⟨nb, hnb⟩ : ∃ z, Hid (namedB nm = z) := ⟨_, hid rfl⟩
      have hw7 : IntKind.i64.wrap ((k : Int) + 1) = (k : Int) + 1 := IntWalk.i64_in _ (by omega)
      have HP : Hid (progE k n (nm, ops) = if nb = false then 4 else if 64 < q then 6 else if ops.all (fun o => rightO o k n) = false then 2 else 0) := hid (by
        unfold progE
        simp only [hnb.out, hq.out])
      rw [HP.out] at HS2
      clear hd hx HS hS HP
      go_upto_region 6 with fail
      have k1 : Below wr.heap.size wr (wr.alloc (.cells #[.string (bs nm), .slice oA q oc] 52)) := (Below.refl _ wr).alloc (Nat.le_refl _) _
      have S1 := ops_up S0 k1
      have B1 := bel_t HB k1
      have G1 := hid (Box.new wr 52 #[.string (bs nm), .slice oA q oc])
      generalize wr.alloc (.cells #[.string (bs nm), .slice oA q oc] 52) = u1 at S1 B1 G1 ⊢
      have d0 := G1.out.cell 0
      have d1 := G1.out.cell 1
      generalize wr.heap.size = g1 at G1 d0 d1 ⊢
      clear k1 c0 c1 S0 HB
      clear wr
      by_cases hnb1 : nb = false
      · subst hnb1
        have h5 : e0 = 4 := by
          rw [← HC.out, ← HS2.out]
          simp
        subst h5
        go_wp2_with (first
          | (go_at_call 48
             (with_reducible refine (namedr_any _ nm hnb).mono ?_)
             rintro e w5 ⟨rfl, hw⟩
             obtain rfl := hw.symm))
        go_ret
        exact ⟨rfl, B1⟩
      have hnb2 : nb = true := by simpa using hnb1
      subst hnb2
      clear hnb1
      by_cases hq64 : 64 < q
      · have t3 : (q : Int) > 64 := by omega
        have h5 : e0 = 6 := by
          rw [← HC.out, ← HS2.out]
          simp [hq64]
        subst h5
        go_wp2_with (first
          | (go_at_call 48
             (with_reducible refine (namedr_any _ nm hnb).mono ?_)
             rintro e w5 ⟨rfl, hw⟩
             obtain rfl := hw.symm))
        go_ret
        exact ⟨rfl, B1⟩
      have t3 : ¬ (q : Int) > 64 := by omega
      obtain ⟨al, hal⟩ : ∃ z, Hid (ops.all (fun o => rightO o k n) = z) := ⟨_, hid rfl⟩
      have HS3 : Hid ((if al = false then 2 else scanE n (k + 1) ((prL X).drop (k + 1))) = e1) := hid (by
        have := HS2.out
        rw [hal.out] at this
        cases al <;> simpa [hq64] using this)
      clear HS2 hq64
      go_wp2_with (first
          | (go_at_call 48
             (with_reducible refine (namedr_any _ nm hnb).mono ?_)
             rintro e w5 ⟨rfl, hw⟩
             obtain rfl := hw.symm))
      go_loopw [37] (fun j wq => ∃ m : Nat, m ≤ q ∧ j = .int .i64 m ∧ Hid (Below u1.heap.size u1 wq) ∧ Hid ((ops.drop m).all (fun o => rightO o k n) = al)) (fun j _ => q - (intOf j).toNat)
      case atStart => exact ⟨0, Nat.zero_le _, rfl, hid (Below.refl _ _), hal⟩
      case round =>
        obtain ⟨m, hm, rfl, HBm, HA⟩ := hrel
        by_cases hmq : m < q
        · have hij : (m : Int) < q := by omega
          obtain ⟨b9, o9, y, hA9, hy, f0, f1, f2, f3⟩ := (ops_up S1 HBm.out).out.at (k := m) (by rw [hq.out]; exact hmq)
          subst hA9
          have hdm : ops.drop m = y :: ops.drop (m + 1) := by
            obtain ⟨h1, h2⟩ := List.getElem?_eq_some_iff.1 hy
            rw [List.drop_eq_getElem_cons h1, h2]
          obtain ⟨rb, hrb⟩ : ∃ z, Hid (rightO y k n = z) := ⟨_, hid rfl⟩
          have HA2 : Hid ((rb && (ops.drop (m + 1)).all (fun o => rightO o k n)) = al) := hid (by
            have := HA.out
            rw [hdm, List.all_cons, hrb.out] at this
            exact this)
          obtain ⟨y1, y2, y3, y4⟩ := y
          simp only at f0 f1 f2 f3
          have B8 := fun ob => bel_al (o := ob) HBm
          have hw8 : IntKind.i64.wrap ((m : Int) + 1) = (m : Int) + 1 := IntWalk.i64_in _ (by omega)
          clear hdm hy HA
          cases rb
          · have h5 : e0 = 2 := by
              have h6 : al = false := by rw [← HA2.out]; rfl
              rw [← HC.out, ← HS3.out, h6]
              simp
            subst h5
            go_wp2_with (first
              | (go_at_call 49
                 (with_reducible refine (rightr_any _ y1 y2 y3 y4 k n hrb).mono ?_)
                 rintro e w6 ⟨rfl, C6⟩
                 have B6 := bel_t (B8 _) C6.out))
            go_ret
            exact ⟨rfl, bel_t B1 B6.out⟩
          · have HA3 : Hid ((ops.drop (m + 1)).all (fun o => rightO o k n) = al) := hid (by have := HA2.out; simpa using this)
            go_wp2_with (first
              | (go_at_call 49
                 (with_reducible refine (rightr_any _ y1 y2 y3 y4 k n hrb).mono ?_)
                 rintro e w6 ⟨rfl, C6⟩
                 have B6 := bel_t (B8 _) C6.out))
            go_roundw
            case rel => exact ⟨m + 1, by omega, by go_num, B6, HA3⟩
            case measure => simp [intOf] <;> omega
        · have hij : ¬ (m : Int) < q := by omega
          have h6 : al = true := by
            rw [← HA.out, List.drop_of_length_le (by rw [hq.out]; omega)]
            rfl
          have HS4 : Hid (scanE n (k + 1) ((prL X).drop (k + 1)) = e1) := hid (by have := HS3.out; simpa [h6] using this)
          clear h6
          go_wp2
          go_roundw
          case rel => exact ⟨k + 1, by omega, by go_num, bel_t B1 HBm.out, HS4⟩
          case measure => simp [intOf] <;> omega
    · have hi2 : ¬ (k : Int) < n := by omega
      have h6 : e1 = 0 := by
        rw [← HS.out, List.drop_of_length_le (by rw [HL.out]; omega)]
        rfl
      subst h6
      have HC2 : Hid ((if namesN (prL X) = false then (4 : Int) else 0) = e0) := hid (by have := HC.out; simpa using this)
      clear HS HC
      have L1 := pg_up hl HB.out
      go_wp2
      go_loopw [51] (fun j wq => ∃ m : Nat, m ≤ n ∧ j = .int .i64 m ∧ Hid (Below wr.heap.size wr wq) ∧ Hid (∀ j p, j < m → (prL X)[j]? = some p → (findP (prL X) p.1 0).1 = (j : Int))) (fun j _ => n - (intOf j).toNat)
      case atStart => exact ⟨0, Nat.zero_le _, rfl, hid (Below.refl _ _), hid (fun j p h => by omega)⟩
      case round =>
        obtain ⟨m, hm, rfl, HBm, HF⟩ := hrel
        by_cases hmn : m < n
        · have hij : (m : Int) < n := by omega
          have L2 := pg_up L1 HBm.out
          obtain ⟨b9, o9, x, hA9, hx, f0, f1, _⟩ := L2.out.at (k := m) (by rw [HN.out]; exact hmn)
          have hxm : (prL X)[m]? = some x.1 := by simp [prL, hx]
          have HX := hid hxm
          subst hA9
          obtain ⟨⟨nm, ops⟩, oA, oc⟩ := x
          simp only at f0 f1 HX
          obtain ⟨fi, fr, hf⟩ : ∃ a b, Hid (findP (prL X) nm 0 = (a, b)) := ⟨_, _, hid rfl⟩
          have hw8 : IntKind.i64.wrap ((m : Int) + 1) = (m : Int) + 1 := IntWalk.i64_in _ (by omega)
          have B8 := fun ob => bel_al (o := ob) HBm
          have k1 := fun ob => (Below.refl _ wr).alloc (Nat.le_refl _) ob
          clear hx hxm
          by_cases hfm : fi = (m : Int)
          · subst hfm
            have HF2 : Hid (∀ j p, j < m + 1 → (prL X)[j]? = some p → (findP (prL X) p.1 0).1 = (j : Int)) := hid (fun j p hj hp => by
              by_cases hjm : j = m
              · subst hjm
                rw [HX.out] at hp
                obtain rfl := Option.some.inj hp
                rw [hf.out]
              · exact HF.out j p (by omega) hp)
            go_wp2_with (first
              | (go_at_call 50
                 (with_reducible refine (findr_any _ _ n c X (pg_up L2 (k1 _)) HN.out nm hf).mono ?_)
                 rintro e w6 ⟨rfl, C6⟩
                 have B6 := bel_t (B8 _) C6.out))
            go_roundw
            case rel => exact ⟨m + 1, by omega, by go_num, B6, HF2⟩
            case measure => simp [intOf] <;> omega
          · have h5 : e0 = 4 := by
              rw [← HC2.out, if_pos (names_not HX.out (by rw [hf.out]; exact hfm))]
            subst h5
            go_wp2_with (first
              | (go_at_call 50
                 (with_reducible refine (findr_any _ _ n c X (pg_up L2 (k1 _)) HN.out nm hf).mono ?_)
                 rintro e w6 ⟨rfl, C6⟩
                 have B6 := bel_t (B8 _) C6.out))
            go_ret
            exact ⟨rfl, bel_t HB B6.out⟩
        · have hij : ¬ (m : Int) < n := by omega
          have h5 : e0 = 0 := by
            rw [← HC2.out, names_of (fun j p hp => HF.out j p (by
              have := (List.getElem?_eq_some_iff.1 hp).1
              rw [HL.out] at this
              omega) hp)]
            simp
          subst h5
          go_wp2
          go_ret
          exact ⟨rfl, bel_t HB HBm.out⟩
end
end L19
end Go.Proofs.YteeienmigoebmaaGreatDoor
