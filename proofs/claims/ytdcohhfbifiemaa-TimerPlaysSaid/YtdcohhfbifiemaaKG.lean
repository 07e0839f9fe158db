import Derived.Test.YtdcohhfbifiemaaKF
namespace Go.Proofs.Ytdcohhfbifiemaa
open Go.RowKit Go.Maps

/-- Where the lesser child is not ahead nothing is wrong any more. -/
theorem Ex.done {n : Nat} {L : List Tm} {i : Nat} (h : Ex n L i) (hc : ∀ k, 0 < k → k < n → par k = i → Ed n L k) : Up n L i :=
  ⟨fun k h0 h1 hk => by
    by_cases e : par k = i
    · exact hc k h0 h1 e
    · exact h.ed k h0 h1 hk e, h.up⟩
theorem par_child {k c : Nat} (h0 : 0 < c) (h : par c = k) : c = 2 * k + 1 ∨ c = 2 * k + 2 := by unfold par at h; omega
/-- What down hands back: whether it moved. -/
def Dn (n i : Nat) (L L' : List Tm) (b : Bool) : Prop := if b then Hp n L' else L' = L ∧ Up n L i
theorem dn_end {n i k : Nat} {L L1 : List Tm} (hik : i ≤ k) (hE : Ex n L1 k) (hc : ∀ c, 0 < c → c < n → par c = k → Ed n L1 c) (h1 : k = i → L1 = L) (h2 : k ≠ i → Ed n L1 k) : Dn n i L L1 (decide (i < k)) := by
  have hU := hE.done hc
  unfold Dn
  by_cases e : k = i
  · subst e
    rw [if_neg (by simp)]
    have := h1 rfl
    subst this
    exact ⟨rfl, hU⟩
  · rw [if_pos (by simp; omega)]
    exact hU.heap (fun _ => h2 e)
def DnR (w : World) (H M n i : Nat) (rb : Option Nat) (L : List Tm) (e : Ending) (w' : World) : Prop :=
  ∃ b L', e = .returned (.bool b) ∧ Hid (Pl w' H M rb L') ∧ Hid (Dn n i L L' b) ∧ Hid (Mv n L L') ∧ Hid (But (plB H M rb) w w')
section
variable (w : World)
set_option maxHeartbeats 4000000 in
set_option maxRecDepth 100000 in
theorem down_any {H M i n : Nat} {rb : Option Nat} {L : List Tm} (hp : Hid (Pl w H M rb L)) (hu : Hid (Ex n L i)) (hi : i ≤ n) (hn : Hid (n ≤ L.length)) :
    Calls Try.prog 25 #[hV H, .int .i64 i, .int .i64 n] w (DnR w H M n i rb L) := by
  have hn3 : n ≤ 300 := Nat.le_trans hn.out hp.out.cnt
  have hm1 := mLess H
  have hm2 := mSwap H
  go_enter Try.func25, Try.ntmps25
  go_wp2
  go_loopw [7] (fun v wr => ∃ (k : Nat) (L1 : List Tm), v = .int .i64 k ∧ k ≤ n ∧ i ≤ k ∧ Hid (Pl wr H M rb L1) ∧ Hid (Ex n L1 k) ∧ Hid ((k = i → L1 = L) ∧ (k ≠ i → Ed n L1 k)) ∧ Hid (Mv n L L1) ∧ Hid (But (plB H M rb) w wr)) (fun v _ => n - (intOf v).toNat)
  case atStart => exact ⟨i, L, rfl, hi, Nat.le_refl _, hp, hu, ⟨fun _ => rfl, fun h => absurd rfl h⟩, Mv.refl _ _, But.refl _ _⟩
  case round =>
    obtain ⟨k, L1, rfl, hk, hik, HP, HU, HQ, HM, HK⟩ := hrel
    have hl1 := HM.out.len
    have HN1 : Hid (n ≤ L1.length) := hid (by rw [hl1]; exact hn.out)
    clear hl1
    obtain ⟨c1, hc1⟩ : ∃ c, 2 * k + 1 = c := ⟨_, rfl⟩
    have HC1 := hid hc1
    have e1 : 2 * (k : Int) + 1 = ((c1 : Nat) : Int) := by omega
    clear hc1
    have n0 : ¬ ((c1 : Int) < 0) := by omega
    by_cases hA : n ≤ c1
    · have t1 : (c1 : Int) ≥ n := by omega
      go_wp2
      go_ret
      exact ⟨_, L1, rfl, HP, hid (dn_end hik HU.out (fun c h0 h1 h2 => by have := par_child h0 h2; have := HC1.out; omega) HQ.out.1 HQ.out.2), HM, HK⟩
    · have t1 : ¬ ((c1 : Int) ≥ n) := by omega
      have HX : Hid (∃ x, L1[k]? = some x) := hid ⟨_, List.getElem?_eq_getElem (by have := HC1.out; have := HN1.out; omega)⟩
      have HY : Hid (∃ y, L1[c1]? = some y) := hid ⟨_, List.getElem?_eq_getElem (by have := HN1.out; omega)⟩
      obtain ⟨x, hx⟩ := HX.out
      obtain ⟨y, hy⟩ := HY.out
      have HX1 := hid hx
      have HY1 := hid hy
      clear HX HY hx hy
      obtain ⟨c2, hc2⟩ : ∃ c, c1 + 1 = c := ⟨_, rfl⟩
      have HC2 := hid hc2
      have e2 : (c1 : Int) + 1 = ((c2 : Nat) : Int) := by omega
      clear hc2
      by_cases hB : n ≤ c2
      · have t2 : ¬ ((c2 : Int) < n) := by omega
        have HMIN : Hid (∀ c b, 0 < c → c < n → par c = k → L1[c]? = some b → le y b) := hid (fun c b h0 h1 h2 hb => by
          have h3 := HC1.out
          have h4 := HC2.out
          have : c = c1 := by rcases par_child h0 h2 with h | h <;> omega
          subst this
          rw [HY1.out] at hb
          injection hb with hb
          subst hb
          exact lt_irrefl _)
        by_cases hyx : lt y x = true
        · go_wp2_with (first
            | (go_at_call 43
               refine (less_any _ HP HY1 HX1).mono ?_
               rintro e w1 ⟨rfl, hk1⟩
               rw [hyx]
               have HP1 := hid (HP.out.keep0 hk1)
               have HK1 := hid (HK.out.same (hk1.mono (by simp)))
               clear HP hk1)
            | (go_at_call 46
               refine (swap_any _ HP1 HX1 HY1).mono ?_
               rintro e w2 ⟨rfl, HP2, hk2⟩
               have HK2 := hid (HK1.out.same hk2.out)
               clear hk2))
          go_roundw
          case rel =>
            have h3 := HC1.out
            have h4 := HC2.out
            have hst := HU.out.step (j := c1) (by omega) (by omega) HN1.out (by unfold par; omega) HX1.out HY1.out hyx HMIN.out
            exact ⟨c1, _, rfl, by omega, by omega, HP2, hid hst.1, hid ⟨fun e => absurd e (by omega), fun _ => hst.2.1⟩, hid (HM.out.trans (Mv.swp HX1.out HY1.out (by omega) (by omega))), HK2⟩
          case measure => have h3 := HC1.out; have h4 := HC2.out; simp [intOf]; omega
        · have hyf : lt y x = false := by simpa using hyx
          go_wp2_with (first
            | (go_at_call 43
               refine (less_any _ HP HY1 HX1).mono ?_
               rintro e w1 ⟨rfl, hk1⟩
               rw [hyf]
               have HP1 := hid (HP.out.keep0 hk1)
               have HK1 := hid (HK.out.same (hk1.mono (by simp)))
               clear HP hk1))
          go_ret
          exact ⟨_, L1, rfl, HP1, hid (dn_end hik HU.out (fun c h0 h1 h2 a b ha hb => by
            rw [h2, HX1.out] at ha
            injection ha with ha
            subst ha
            exact le_trans hyf (HMIN.out c b h0 h1 h2 hb)) HQ.out.1 HQ.out.2), HM, HK1⟩
      · have t2 : (c2 : Int) < n := by omega
        have HZ : Hid (∃ z, L1[c2]? = some z) := hid ⟨_, List.getElem?_eq_getElem (by have := HN1.out; omega)⟩
        obtain ⟨z, hz⟩ := HZ.out
        have HZ1 := hid hz
        clear HZ hz
        by_cases hzy : lt z y = true
        · have HMIN : Hid (∀ c b, 0 < c → c < n → par c = k → L1[c]? = some b → le z b) := hid (fun c b h0 h1 h2 hb => by
            have h3 := HC1.out
            have h4 := HC2.out
            rcases par_child h0 h2 with h | h
            · have : c = c1 := by omega
              subst this
              rw [HY1.out] at hb
              injection hb with hb
              subst hb
              exact lt_le hzy
            · have : c = c2 := by omega
              subst this
              rw [HZ1.out] at hb
              injection hb with hb
              subst hb
              exact lt_irrefl _)
          by_cases hyx : lt z x = true
          · go_wp2_with (first
              | (go_at_call 43
                 refine (less_any _ HP HZ1 HY1).mono ?_
                 rintro e w0 ⟨rfl, hk1⟩
                 rw [hzy]
                 have HP0 := hid (HP.out.keep0 hk1)
                 have HK0 := hid (HK.out.same (hk1.mono (by simp)))
                 clear HP hk1)
              | (go_at_call 43
                 refine (less_any _ HP0 HZ1 HX1).mono ?_
                 rintro e w1 ⟨rfl, hk1⟩
                 rw [hyx]
                 have HP1 := hid (HP0.out.keep0 hk1)
                 have HK1 := hid (HK0.out.same (hk1.mono (by simp)))
                 clear HP0 hk1)
              | (go_at_call 46
                 refine (swap_any _ HP1 HX1 HZ1).mono ?_
                 rintro e w2 ⟨rfl, HP2, hk2⟩
                 have HK2 := hid (HK1.out.same hk2.out)
                 clear hk2))
            go_roundw
            case rel =>
              have h3 := HC1.out
              have h4 := HC2.out
              have hst := HU.out.step (j := c2) (by omega) (by omega) HN1.out (by unfold par; omega) HX1.out HZ1.out hyx HMIN.out
              exact ⟨c2, _, rfl, by omega, by omega, HP2, hid hst.1, hid ⟨fun e => absurd e (by omega), fun _ => hst.2.1⟩, hid (HM.out.trans (Mv.swp HX1.out HZ1.out (by omega) (by omega))), HK2⟩
            case measure => have h3 := HC1.out; have h4 := HC2.out; simp [intOf]; omega
          · have hyf : lt z x = false := by simpa using hyx
            go_wp2_with (first
              | (go_at_call 43
                 refine (less_any _ HP HZ1 HY1).mono ?_
                 rintro e w0 ⟨rfl, hk1⟩
                 rw [hzy]
                 have HP0 := hid (HP.out.keep0 hk1)
                 have HK0 := hid (HK.out.same (hk1.mono (by simp)))
                 clear HP hk1)
              | (go_at_call 43
                 refine (less_any _ HP0 HZ1 HX1).mono ?_
                 rintro e w1 ⟨rfl, hk1⟩
                 rw [hyf]
                 have HP1 := hid (HP0.out.keep0 hk1)
                 have HK1 := hid (HK0.out.same (hk1.mono (by simp)))
                 clear HP0 hk1))
            go_ret
            exact ⟨_, L1, rfl, HP1, hid (dn_end hik HU.out (fun c h0 h1 h2 a b ha hb => by
              rw [h2, HX1.out] at ha
              injection ha with ha
              subst ha
              exact le_trans hyf (HMIN.out c b h0 h1 h2 hb)) HQ.out.1 HQ.out.2), HM, HK1⟩
        · have hzf : lt z y = false := by simpa using hzy
          have HMIN : Hid (∀ c b, 0 < c → c < n → par c = k → L1[c]? = some b → le y b) := hid (fun c b h0 h1 h2 hb => by
            have h3 := HC1.out
            have h4 := HC2.out
            rcases par_child h0 h2 with h | h
            · have : c = c1 := by omega
              subst this
              rw [HY1.out] at hb
              injection hb with hb
              subst hb
              exact lt_irrefl _
            · have : c = c2 := by omega
              subst this
              rw [HZ1.out] at hb
              injection hb with hb
              subst hb
              exact hzf)
          by_cases hyx : lt y x = true
          · go_wp2_with (first
              | (go_at_call 43
                 refine (less_any _ HP HZ1 HY1).mono ?_
                 rintro e w0 ⟨rfl, hk1⟩
                 rw [hzf]
                 have HP0 := hid (HP.out.keep0 hk1)
                 have HK0 := hid (HK.out.same (hk1.mono (by simp)))
                 clear HP hk1)
              | (go_at_call 43
                 refine (less_any _ HP0 HY1 HX1).mono ?_
                 rintro e w1 ⟨rfl, hk1⟩
                 rw [hyx]
                 have HP1 := hid (HP0.out.keep0 hk1)
                 have HK1 := hid (HK0.out.same (hk1.mono (by simp)))
                 clear HP0 hk1)
              | (go_at_call 46
                 refine (swap_any _ HP1 HX1 HY1).mono ?_
                 rintro e w2 ⟨rfl, HP2, hk2⟩
                 have HK2 := hid (HK1.out.same hk2.out)
                 clear hk2))
            go_roundw
            case rel =>
              have h3 := HC1.out
              have h4 := HC2.out
              have hst := HU.out.step (j := c1) (by omega) (by omega) HN1.out (by unfold par; omega) HX1.out HY1.out hyx HMIN.out
              exact ⟨c1, _, rfl, by omega, by omega, HP2, hid hst.1, hid ⟨fun e => absurd e (by omega), fun _ => hst.2.1⟩, hid (HM.out.trans (Mv.swp HX1.out HY1.out (by omega) (by omega))), HK2⟩
            case measure => have h3 := HC1.out; have h4 := HC2.out; simp [intOf]; omega
          · have hyf : lt y x = false := by simpa using hyx
            go_wp2_with (first
              | (go_at_call 43
                 refine (less_any _ HP HZ1 HY1).mono ?_
                 rintro e w0 ⟨rfl, hk1⟩
                 rw [hzf]
                 have HP0 := hid (HP.out.keep0 hk1)
                 have HK0 := hid (HK.out.same (hk1.mono (by simp)))
                 clear HP hk1)
              | (go_at_call 43
                 refine (less_any _ HP0 HY1 HX1).mono ?_
                 rintro e w1 ⟨rfl, hk1⟩
                 rw [hyf]
                 have HP1 := hid (HP0.out.keep0 hk1)
                 have HK1 := hid (HK0.out.same (hk1.mono (by simp)))
                 clear HP0 hk1))
            go_ret
            exact ⟨_, L1, rfl, HP1, hid (dn_end hik HU.out (fun c h0 h1 h2 a b ha hb => by
              rw [h2, HX1.out] at ha
              injection ha with ha
              subst ha
              exact le_trans hyf (HMIN.out c b h0 h1 h2 hb)) HQ.out.1 HQ.out.2), HM, HK1⟩
end
end Go.Proofs.Ytdcohhfbifiemaa
