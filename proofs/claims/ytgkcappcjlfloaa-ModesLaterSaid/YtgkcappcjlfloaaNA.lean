import Derived.Test.YtgkcappcjlfloaaMT
namespace Go.Proofs.Ytgkcappcjlfloaa
open Go.RowKit

theorem step_right {t t' : Tm} {op n : Nat} (ht : t.Ok) (h1 : 1 ≤ op) (hr : rightB t = true) (hs : stepT t op n = some t') : rightB t' = true := by
  unfold stepT at hs
  split at hs
  · split at hs
    · cases hs
    · injection hs with hs
      subst hs
      unfold rightB at hr ⊢
      have e : (t.c.set op (UInt8.ofNat n)).getD 0 0 = t.c.getD 0 0 := by
        simp only [List.getD_eq_getElem?_getD]
        rw [List.getElem?_set_ne (by omega)]
      rw [e]
      exact hr
  · split at hs
    · injection hs with hs; subst hs; exact hr
    · split at hs
      · injection hs with hs; subst hs; exact hr
      · injection hs with hs
        subst hs
        unfold rightB at hr ⊢
        have e : decide (okF (setT t op (decide (n ≠ 0))).f) = decide (okF t.f) := decide_eq_decide.2 (okF_set ht.f _ _)
        rw [e]
        exact hr
theorem dec_right : ∀ (k : Nat) (b : List UInt8) (t : Tm), b.length ≤ k → t.Ok → rightB t = true → (decT b t).2 = 0 → rightB (decT b t).1 = true := by
  intro k
  induction k with
  | zero =>
    intro b t hb ht hr _
    have : b = [] := List.eq_nil_of_length_eq_zero (by omega)
    subst this
    exact hr
  | succ k ih =>
    intro b t hb ht hr h0
    match b with
    | [] => exact hr
    | x :: r =>
      cases he : endB x
      · by_cases h4 : r.length < 4
        · rw [dec_short he h4] at h0; cases h0
        · cases hs : stepT t x.toNat (num4 r) with
          | none => rw [dec_none he h4 hs] at h0; cases h0
          | some t' =>
            rw [dec_some he h4 hs] at h0 ⊢
            refine ih _ _ (by rw [List.length_drop]; simp at hb; omega) (step_ok ht (num4_lt r) hs) (step_right ht ?_ hr hs) h0
            simp [endB] at he
            omega
      · rw [dec_end he]; exact hr
theorem dec_bad : ∀ (k : Nat) (b : List UInt8) (t : Tm), b.length ≤ k → (decT b t).2 ≠ 0 → (decT b t).1 = Tm.zero := by
  intro k
  induction k with
  | zero =>
    intro b t hb h0
    have : b = [] := List.eq_nil_of_length_eq_zero (by omega)
    subst this
    exact absurd rfl h0
  | succ k ih =>
    intro b t hb h0
    match b with
    | [] => exact absurd rfl h0
    | x :: r =>
      cases he : endB x
      · by_cases h4 : r.length < 4
        · rw [dec_short he h4]
        · cases hs : stepT t x.toNat (num4 r) with
          | none => rw [dec_none he h4 hs]
          | some t' =>
            rw [dec_some he h4 hs] at h0 ⊢
            exact ih _ _ (by rw [List.length_drop]; simp at hb; omega) h0
      · rw [dec_end he] at h0; exact absurd rfl h0
theorem num4_app (r b : List UInt8) (h : 4 ≤ r.length) : num4 (r ++ b) = num4 r := by
  match r, h with
  | x :: y :: z :: u :: l, _ => rfl
/-- What two streams say, one behind the other. -/
theorem dec_app : ∀ (m : Nat) (a b : List UInt8) (t : Tm), a.length = 5 * m → (∀ i, i < m → endB (a.getD (5 * i) 0) = false) → decT (a ++ b) t = if (decT a t).2 = 0 then decT b (decT a t).1 else decT a t := by
  intro m
  induction m with
  | zero =>
    intro a b t ha _
    have : a = [] := List.eq_nil_of_length_eq_zero (by omega)
    subst this
    simp [dec_nil]
  | succ m ih =>
    intro a b t ha hv
    match a, ha with
    | x :: r, ha =>
      simp only [List.length_cons] at ha
      have he : endB x = false := hv 0 (by omega)
      have h4 : ¬ r.length < 4 := by omega
      have h4' : ¬ (r ++ b).length < 4 := by rw [List.length_append]; omega
      have hn := num4_app r b (by omega)
      rw [List.cons_append]
      cases hs : stepT t x.toNat (num4 r) with
      | none =>
        rw [dec_none he h4 hs, dec_none he h4' (by rw [hn]; exact hs)]
        rfl
      | some t' =>
        rw [dec_some he h4 hs, dec_some he h4' (by rw [hn]; exact hs), List.drop_append_of_le_length (by omega)]
        refine ih _ b t' (by rw [List.length_drop]; omega) fun i hi => ?_
        have := hv (i + 1) (by omega)
        rw [show 5 * (i + 1) = (5 * i + 4) + 1 by omega] at this
        simp only [List.getD_eq_getElem?_getD, List.getElem?_cons_succ] at this ⊢
        rw [List.getElem?_drop, Nat.add_comm 4]
        exact this
end Go.Proofs.Ytgkcappcjlfloaa
