import Derived.Test.YtgkcappcjlfloaaMN
namespace Go.Proofs.Ytgkcappcjlfloaa
open Go.RowKit

/-- What a stream of modes makes of a setting, and the error's number; so many bytes are looked at. -/
def decF : Nat → List UInt8 → Tm → Tm × Int
  | 0, _, t => (t, 0)
  | _ + 1, [], t => (t, 0)
  | k + 1, x :: r, t => if endB x = true then (t, 0) else if r.length < 4 then (Tm.zero, 3) else
    match stepT t x.toNat (num4 r) with
    | none => (Tm.zero, 5)
    | some t' => decF k (r.drop 4) t'
def decT (b : List UInt8) (t : Tm) : Tm × Int := decF b.length b t
theorem decF_more : ∀ (k : Nat) (b : List UInt8) (t : Tm), b.length ≤ k → decF k b t = decF b.length b t := by
  intro k
  induction k using Nat.strongRecOn with
  | _ k ih =>
    intro b t h
    match k, b, h with
    | 0, [], _ => rfl
    | k + 1, [], _ => rfl
    | k + 1, x :: r, h =>
      simp only [List.length_cons] at h ⊢
      simp only [decF]
      split
      · rfl
      · split
        · rfl
        · cases stepT t x.toNat (num4 r) with
          | none => rfl
          | some t' =>
            have hl : (r.drop 4).length ≤ r.length := by rw [List.length_drop]; omega
            show decF k (r.drop 4) t' = decF r.length (r.drop 4) t'
            rw [ih k (by omega) _ _ (by omega)]
            by_cases hr : r.length < k
            · rw [ih r.length (by omega) _ _ hl]
            · have e : r.length = k := by omega
              rw [e, ih k (by omega) _ _ (by omega)]
theorem dec_nil (t : Tm) : decT [] t = (t, 0) := rfl
theorem dec_end {x : UInt8} {r : List UInt8} {t : Tm} (h : endB x = true) : decT (x :: r) t = (t, 0) := by simp [decT, decF, h]
theorem dec_short {x : UInt8} {r : List UInt8} {t : Tm} (h : endB x = false) (h4 : r.length < 4) : decT (x :: r) t = (Tm.zero, 3) := by simp [decT, decF, h, h4]
theorem dec_none {x : UInt8} {r : List UInt8} {t : Tm} (h : endB x = false) (h4 : ¬ r.length < 4) (hs : stepT t x.toNat (num4 r) = none) : decT (x :: r) t = (Tm.zero, 5) := by simp [decT, decF, h, h4, hs]
theorem dec_some {x : UInt8} {r : List UInt8} {t t' : Tm} (h : endB x = false) (h4 : ¬ r.length < 4) (hs : stepT t x.toNat (num4 r) = some t') : decT (x :: r) t = decT (r.drop 4) t' := by
  simp only [decT, List.length_cons, decF, h, Bool.false_eq_true, if_false, h4, hs]
  exact decF_more _ _ _ (by rw [List.length_drop]; omega)
theorem num4_lt (l : List UInt8) : num4 l < 4294967296 := by
  unfold num4
  have := (l.getD 0 0).toNat_lt
  have := (l.getD 1 0).toNat_lt
  have := (l.getD 2 0).toNat_lt
  have := (l.getD 3 0).toNat_lt
  omega
theorem dec_ok : ∀ (k : Nat) (b : List UInt8) (t : Tm), b.length ≤ k → t.Ok → (decT b t).1.Ok := by
  intro k
  induction k with
  | zero =>
    intro b t hb ht
    have : b = [] := List.eq_nil_of_length_eq_zero (by omega)
    subst this
    exact ht
  | succ k ih =>
    intro b t hb ht
    match b with
    | [] => exact ht
    | x :: r =>
      cases he : endB x
      · by_cases h4 : r.length < 4
        · rw [dec_short he h4]; exact zero_ok
        · cases hs : stepT t x.toNat (num4 r) with
          | none => rw [dec_none he h4 hs]; exact zero_ok
          | some t' =>
            rw [dec_some he h4 hs]
            exact ih _ _ (by rw [List.length_drop]; simp at hb; omega) (step_ok ht (num4_lt r) hs)
      · rw [dec_end he]; exact ht
theorem num4_take (r : List UInt8) (_h : 4 ≤ r.length) : num4 (r.take 4) = num4 r := by
  match r, _h with
  | a :: b :: c :: d :: l, _ => rfl
theorem slb_cell {w : World} {B c : Nat} {A : Option Addr} {x : UInt8} {r : List UInt8} (h : SlB w B A c (x :: r)) : ∃ b o, A = some ⟨b, o, none⟩ ∧ b < B ∧ w.cell? ⟨b, o, none⟩ = some (.int .u8 (x.toNat : Int)) := by
  obtain ⟨b, o, rfl, hb, hc⟩ := h.2.2.2 (by simp [bv])
  exact ⟨b, o, rfl, hb, by have := hc 0 _ rfl; simpa using this⟩
end Go.Proofs.Ytgkcappcjlfloaa
