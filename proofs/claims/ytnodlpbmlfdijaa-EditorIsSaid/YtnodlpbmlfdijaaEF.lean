import Derived.Test.YtnodlpbmlfdijaaEE
namespace Go.Proofs.Ytnodlpbmlfdijaa
open Go.RowKit

/-- What stands at a place while a list is being turned round. -/
def RevA (cs : List Value) (k j : Nat) (arr : Array Value) : Prop := ∀ x, x < k → arr[x]? = if x < j ∨ k ≤ x + j then cs[k - 1 - x]? else cs[x]?
theorem revA_start {cs : List Value} {k : Nat} {arr : Array Value} (h : arr.toList.take k = cs) : RevA cs k 0 arr := fun x hx => by
  rw [if_neg (by omega), ← h, List.getElem?_take, if_pos hx, Array.getElem?_toList]
theorem revA_step {cs : List Value} {k j p : Nat} {arr : Array Value} {v u : Value} (h : RevA cs k j arr) (hs : k ≤ arr.size) (hp : p + 1 + j = k) (hj : j < p) (hv : cs[j]? = some v) (hu : cs[p]? = some u) :
    RevA cs k (j + 1) ((arr.setIfInBounds j u).setIfInBounds p v) := fun x hx => by
  by_cases e1 : x = p
  · subst e1
    rw [Array.getElem?_setIfInBounds_self_of_lt (by simp; omega), if_pos (by omega), show k - 1 - x = j by omega, hv]
  · rw [Array.getElem?_setIfInBounds_ne (by omega)]
    by_cases e2 : x = j
    · subst e2
      rw [Array.getElem?_setIfInBounds_self_of_lt (by omega), if_pos (by omega), show k - 1 - x = p by omega, hu]
    · rw [Array.getElem?_setIfInBounds_ne (by omega), h x hx]
      by_cases e3 : x < j ∨ k ≤ x + j
      · rw [if_pos e3, if_pos (by omega)]
      · rw [if_neg e3, if_neg (by omega)]
theorem revA_end {cs : List Value} {k j : Nat} {arr : Array Value} (h : RevA cs k j arr) (hk : cs.length = k) (h1 : j + j ≤ k) (h2 : k ≤ j + j + 1) : arr.toList.take k = cs.reverse := by
  apply List.ext_getElem?
  intro x
  rw [List.getElem?_take]
  by_cases hx : x < k
  · rw [if_pos hx, Array.getElem?_toList, h x hx, List.getElem?_reverse (by omega), hk]
    by_cases e3 : x < j ∨ k ≤ x + j
    · rw [if_pos e3]
    · rw [if_neg e3]
      congr 1
      omega
  · rw [if_neg hx, List.getElem?_eq_none (by simp; omega)]
/-- The list lies there, being turned round. -/
structure RevS (w wr : World) (B g k j cap : Nat) (cs : List Value) : Prop where
  box : ∃ arr, Box wr g 27 arr ∧ arr.size = cap ∧ RevA cs k j arr
  kept : Kept B [27] w wr
theorem RevS.at {w wr : World} {B g k j cap : Nat} {cs : List Value} (h : RevS w wr B g k j cap cs) {x : Nat} (hx : x < k) (hn : ¬ (x < j ∨ k ≤ x + j)) : wr.cell? ⟨g, x, none⟩ = cs[x]? ∧ wr.frozen? ⟨g, x, none⟩ = false := by
  obtain ⟨arr, hb, _, hr⟩ := h.box
  exact ⟨by rw [hb.cell x, hr x hx, if_neg hn], hb.frozen x⟩
theorem RevS.step {w wr : World} {B g k j p cap : Nat} {cs : List Value} {v u : Value} (h : RevS w wr B g k j cap cs) (hB : B ≤ g) (hc : k ≤ cap) (hp : p + 1 + j = k) (hj : j < p) (hv : cs[j]? = some v) (hu : cs[p]? = some u) :
    RevS w ((wr.setCell ⟨g, j, none⟩ u).setCell ⟨g, p, none⟩ v) B g k (j + 1) cap cs := by
  obtain ⟨arr, hb, hs, hr⟩ := h.box
  refine ⟨⟨_, (hb.store j u).store p v, by simp [hs], revA_step hr (by omega) hp hj hv hu⟩, (h.kept.store hb hB (by simp) u).store (hb.store j u) hB (by simp) v⟩
theorem RevS.drew {w wr : World} {B g k j cap : Nat} {cs : List Value} (h : RevS w wr B g k j cap cs) : RevS w wr.drew B g k j cap cs := ⟨h.box, h.kept.drew⟩
set_option maxRecDepth 100000 in
set_option maxHeartbeats 2000000 in
theorem reverse_any (w : World) (B k lc : Nat) (LA : Option Addr) (cs : List Value) (ho : Hid (w.ownsRow B 27 1 (.slice LA k lc) k cs)) (hv : Hid (∀ x, x < k → ∃ A n c, cs[x]? = some (.slice A n c))) (hk : k ≤ 1000000) :
    Calls Try.prog 31 #[.slice LA k lc] w fun e w' => e = .returned (.tuple #[]) ∧ Hid (w'.ownsRow B 27 1 (.slice LA k lc) k cs.reverse) ∧ Hid (Kept B [27] w w') := by
  by_cases h0 : k = 0
  · subst h0
    have hc : cs = [] := List.eq_nil_of_length_eq_zero (by simpa using ho.out.1)
    subst hc
    go_enter Try.func31, Try.ntmps31
    go_wp2
    go_loop [2, 3] (fun i j => i = .int .i64 0 ∧ j = .int .i64 (-1)) (fun _ _ => 0)
    case atStart => exact ⟨rfl, rfl⟩
    case round =>
      obtain ⟨rfl, rfl⟩ := hrel
      go_wp2
      go_end0
      exact ⟨rfl, ho, hid (Kept.refl _ _ _)⟩
  · have hlen : cs.length = k := by simpa using ho.out.1
    obtain ⟨g, cap, cur, hva, hBg, hh, hkc, hcm, hcs, htk⟩ : ∃ g cap cur, Value.slice LA k lc = .slice (some ⟨g, 0, none⟩) k cap ∧ B ≤ g ∧ w.heap[g]? = some (.cells cur 27 (0, 0)) ∧ k ≤ cap ∧ cap ≤ maxLen ∧ cur.size = cap * 1 ∧ cur.toList.take (k * 1) = cs := by
      rcases ho.out.2 with ⟨_, h1⟩ | ⟨g, cap, cur, h1, h2, h3, h4, h5, h6, h7⟩
      · exact absurd h1 h0
      · exact ⟨g, cap, cur, h1, h2, h3, h4, h5, h6, h7⟩
    injection hva with hA _ hc
    subst hA
    subst hc
    rw [Nat.mul_one] at hcs htk
    have H0 : Hid (RevS w w B g k 0 lc cs) := hid ⟨⟨cur, hh, hcs, revA_start htk⟩, Kept.refl _ _ _⟩
    have HB := hid hBg
    have HL := hid hlen
    have HC := hid hcm
    have hk1 : 1 ≤ k := by omega
    clear hh hcs htk hlen hBg ho hcm
    go_enter Try.func31, Try.ntmps31
    go_wp2
    go_loopw [2, 3] (fun i q wr => ∃ j : Nat, i = .int .i64 (j : Int) ∧ q = .int .i64 ((k : Int) - 1 - (j : Int)) ∧ j + j ≤ k ∧ Hid (RevS w wr B g k j lc cs)) (fun i _ _ => k - (intOf i).toNat)
    case atStart => exact ⟨0, rfl, by simp, by omega, H0⟩
    case round =>
      obtain ⟨j, rfl, rfl, hj, HS⟩ := hrel
      by_cases hjk : j + j + 1 < k
      · obtain ⟨p, hp⟩ : ∃ p, p + 1 + j = k := ⟨k - 1 - j, by omega⟩
        have e1 : (k : Int) - 1 - (j : Int) = (p : Int) := by omega
        have k1 : (j : Int) < (p : Int) := by omega
        have k2 : (j : Int) < (k : Int) := by omega
        have k3 : (p : Int) < (k : Int) := by omega
        have k4 : ¬ (j = p) := by omega
        obtain ⟨A1, n1, c1, v1⟩ := hv.out j (by omega)
        obtain ⟨A2, n2, c2, v2⟩ := hv.out p (by omega)
        obtain ⟨q1, f1⟩ := HS.out.at (x := j) (by omega) (by omega)
        obtain ⟨q2, f2⟩ := HS.out.at (x := p) (by omega) (by omega)
        rw [v1] at q1
        rw [v2] at q2
        have HN := hid (HS.out.step HB.out hkc hp (by omega) v1 v2).drew
        clear v1 v2
        rw [e1]
        go_wp2
        go_region
        all_goals
          go_wp2
          go_roundw
          case rel => exact ⟨j + 1, by go_num, by go_num, by omega, HN⟩
          case measure => simp [intOf]; omega
      · have k1 : ¬ (j : Int) < (k : Int) - 1 - (j : Int) := by omega
        go_wp2
        go_end0
        obtain ⟨arr, hb, hs, hr⟩ := HS.out.box
        exact ⟨rfl, hid ⟨by simp [HL.out], Or.inr ⟨g, lc, arr, rfl, HB.out, hb, hkc, HC.out, by simpa using hs, by rw [Nat.mul_one]; exact revA_end hr HL.out hj (by omega)⟩⟩, hid HS.out.kept⟩
end Go.Proofs.Ytnodlpbmlfdijaa
