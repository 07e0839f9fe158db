import Derived.Test.YteeienmigoebmaaGreatDoorPRB
namespace Go.Proofs.YteeienmigoebmaaGreatDoor
namespace L19
open Go.RowKit

/-! Layer 19: how much work programs make. -/
def most : Nat := 1073741824
/-- What an operation adds, and whether it is the last one. -/
def extraW (W : Int → Nat) (o : OpV) : Nat := if o.1 = 5 ∨ o.1 = 6 then W o.2.1 else 0
def opsW (W : Int → Nat) : Nat → List OpV → Nat
  | n, [] => n
  | n, o :: r => if o.1 = 1 ∨ o.1 = 6 then min (n + 1 + extraW W o) most else opsW W (min (n + 1 + extraW W o) most) r
def workF (l : List ProgV) : Nat → Nat → Nat
  | 0, _ => 0
  | f + 1, i => match l[i]? with
    | none => 0
    | some p => opsW (fun a => workF l f a.toNat) 0 p.2
def workP (l : List ProgV) (i : Int) : Nat := if checkP l ≠ 0 ∨ i < 0 ∨ (l.length : Int) ≤ i then 0 else workF l l.length i.toNat
def sumW (W : Int → Nat) : List OpV → Nat
  | [] => 0
  | o :: r => 1 + extraW W o + (if o.1 = 1 ∨ o.1 = 6 then 0 else sumW W r)
theorem opsW_sum (W : Int → Nat) : ∀ (ops : List OpV) (n : Nat), n ≤ most → opsW W n ops = min (n + sumW W ops) most
  | [], n, h => by simp [opsW, sumW]; omega
  | o :: r, n, h => by
    unfold opsW sumW
    split
    · omega
    · rw [opsW_sum W r _ (by omega)]
      omega
theorem opsW_congr {W W' : Int → Nat} : ∀ {ops : List OpV} {n : Nat}, (∀ o ∈ ops, (o.1 = 5 ∨ o.1 = 6) → W o.2.1 = W' o.2.1) → opsW W n ops = opsW W' n ops
  | [], _, _ => rfl
  | o :: r, n, h => by
    have e : extraW W o = extraW W' o := by
      unfold extraW
      split
      · rename_i hk
        exact h o (by simp) hk
      · rfl
    unfold opsW
    rw [e]
    split
    · rfl
    · exact opsW_congr fun x hx => h x (by simp [hx])
theorem sumW_congr {W W' : Int → Nat} : ∀ {ops : List OpV}, (∀ o ∈ ops, (o.1 = 5 ∨ o.1 = 6) → W o.2.1 = W' o.2.1) → sumW W ops = sumW W' ops
  | [], _ => rfl
  | o :: r, h => by
    have e : extraW W o = extraW W' o := by
      unfold extraW
      split
      · rename_i hk
        exact h o (by simp) hk
      · rfl
    unfold sumW
    rw [e, sumW_congr (ops := r) fun x hx => h x (by simp [hx])]
/-- What is forked, or run instead, is a later program. -/
theorem right_later {o : OpV} {i all : Int} (h : rightO o i all = true) (hk : o.1 = 5 ∨ o.1 = 6) : i < o.2.1 ∧ o.2.1 < all := by
  unfold rightO at h
  simp only [Bool.and_eq_true] at h
  have h6 := h.2
  unfold kindB at h6
  rcases hk with e | e <;> simp [e] at h6 <;> omega
theorem workF_fuel {l : List ProgV} (h : checkP l = 0) : ∀ (f g i : Nat), l.length ≤ i + f → l.length ≤ i + g → workF l f i = workF l g i
  | 0, g, i, h1, _ => by
    have e : l[i]? = none := List.getElem?_eq_none (by omega)
    cases g with
    | zero => rfl
    | succ g => simp [workF, e]
  | f + 1, g, i, h1, h2 => by
    cases g with
    | zero =>
      have e : l[i]? = none := List.getElem?_eq_none (by omega)
      simp [workF, e]
    | succ g =>
      unfold workF
      cases hq : l[i]? with
      | none => rfl
      | some p =>
        refine opsW_congr fun o ho hk => ?_
        have := right_later ((check_at h hq).2.2 o ho) hk
        exact workF_fuel h f g _ (by omega) (by omega)
/-- The work of a program that is there. -/
def wOf (l : List ProgV) (a : Int) : Nat := workF l l.length a.toNat
theorem work_at {l : List ProgV} (h : checkP l = 0) {i : Nat} {p : ProgV} (hi : l[i]? = some p) : workP l i = min (sumW (wOf l) p.2) most ∧ wOf l i = workP l i := by
  have hlt : i < l.length := (List.getElem?_eq_some_iff.1 hi).1
  have e1 : workP l i = workF l l.length i := by
    unfold workP
    rw [if_neg (by rintro (h1 | h1 | h1) <;> omega)]
    rfl
  refine ⟨?_, e1.symm⟩
  rw [e1, workF_fuel h l.length (l.length - 1 + 1) i (by omega) (by omega), workF, hi]
  simp only
  rw [opsW_sum _ _ _ (Nat.zero_le _), Nat.zero_add]
  congr 1
  refine sumW_congr fun o ho hk => ?_
  have := right_later ((check_at h hi).2.2 o ho) hk
  exact workF_fuel h _ _ _ (by omega) (by omega)
theorem work_most {l : List ProgV} (h : checkP l = 0) {i : Nat} (hi : i < l.length) : workP l i ≤ most := by
  rw [(work_at h (List.getElem?_eq_getElem hi)).1]
  omega
theorem scan_of {all : Int} : ∀ {l : List ProgV} {i : Nat}, (∀ k p, l[k]? = some p → progE ((i + k : Nat) : Int) all p = 0) → scanE all i l = 0
  | [], _, _ => rfl
  | q :: r, i, h => by
    have h0 := h 0 q rfl
    rw [Nat.add_zero] at h0
    unfold scanE
    rw [if_neg (by simpa using h0)]
    refine scan_of fun k p hk => ?_
    have := h (k + 1) p (by simpa using hk)
    rwa [show i + (k + 1) = i + 1 + k by omega] at this
theorem check_of {l : List ProgV} (h1 : 1 ≤ l.length) (h2 : l.length ≤ 32) (h3 : scanE l.length 0 l = 0) (h4 : namesN l = true) : checkP l = 0 := by
  unfold checkP
  rw [if_neg (by omega), if_neg (by simpa using h3), if_neg (by simp [h4])]
theorem prog_of {i all : Int} {p : ProgV} (h1 : namedB p.1 = true) (h2 : p.2.length ≤ 64) (h3 : ∀ o ∈ p.2, rightO o i all = true) : progE i all p = 0 := by
  unfold progE
  rw [if_neg (by simp [h1]), if_neg (by omega), if_neg]
  have : p.2.all (fun o => rightO o i all) = true := List.all_eq_true.2 h3
  simp [this]
/-- Programs with an operation in front of one of them. -/
def frontP (l : List ProgV) (i : Nat) (o : OpV) : List ProgV := l.modify i fun p => (p.1, o :: p.2)
theorem front_at (l : List ProgV) (i : Nat) (o : OpV) (k : Nat) : (frontP l i o)[k]? = if k = i then (l[k]?).map (fun p => (p.1, o :: p.2)) else l[k]? := by
  unfold frontP
  rw [List.getElem?_modify]
  by_cases h : i = k
  · subst h
    simp
  · have h2 : ¬ k = i := fun e => h e.symm
    simp [h, h2]
theorem front_len (l : List ProgV) (i : Nat) (o : OpV) : (frontP l i o).length = l.length := by simp [frontP]
theorem front_check {l : List ProgV} (h : checkP l = 0) {i : Nat} {o : OpV} (ho : rightO o i l.length = true) (hlen : ∀ p, l[i]? = some p → p.2.length < 64) : checkP (frontP l i o) = 0 := by
  obtain ⟨h1, h2, h3, h4⟩ := check_scan h
  refine check_of (by rw [front_len]; exact h1) (by rw [front_len]; exact h2) (scan_of fun k p hk => ?_) ?_
  · rw [front_len, Nat.zero_add]
    rw [front_at] at hk
    split at hk
    · rename_i e
      subst e
      obtain ⟨q, hq, rfl⟩ := Option.map_eq_some_iff.1 hk
      obtain ⟨g1, g2, g3⟩ := check_at h hq
      have := hlen q hq
      refine prog_of g1 (by simp; omega) fun x hx => ?_
      rcases List.mem_cons.1 hx with rfl | hx
      · exact ho
      · exact g3 x hx
    · obtain ⟨g1, g2, g3⟩ := check_at h hk
      exact prog_of g1 g2 g3
  · have e : (frontP l i o).map (·.1) = l.map (·.1) := by
      apply List.ext_getElem?
      intro k
      rw [List.getElem?_map, List.getElem?_map, front_at]
      split
      · cases l[k]? <;> rfl
      · rfl
    unfold namesN at h4 ⊢
    rw [e]
    exact h4
theorem front_later {l : List ProgV} (h : checkP l = 0) {i : Nat} {o : OpV} : ∀ (f a : Nat), i < a → workF (frontP l i o) f a = workF l f a
  | 0, _, _ => rfl
  | f + 1, a, ha => by
    unfold workF
    rw [front_at, if_neg (by omega)]
    cases hq : l[a]? with
    | none => rfl
    | some p =>
      refine opsW_congr fun x hx hk => ?_
      have := right_later ((check_at h hq).2.2 x hx) hk
      exact front_later h f _ (by omega)
/-- The work with an operation in front. -/
theorem front_work {l : List ProgV} (h : checkP l = 0) {i : Nat} {o : OpV} {p : ProgV} (hi : l[i]? = some p) (ho : rightO o i l.length = true) (hlen : p.2.length < 64) :
    workP (frontP l i o) i = min (1 + extraW (wOf l) o + (if o.1 = 1 ∨ o.1 = 6 then 0 else sumW (wOf l) p.2)) most := by
  have hc := front_check h ho (fun q hq => by rw [hi] at hq; cases hq; exact hlen)
  have hf : (frontP l i o)[i]? = some (p.1, o :: p.2) := by rw [front_at, if_pos rfl, hi]; rfl
  rw [(work_at hc hf).1]
  have key : ∀ x ∈ o :: p.2, (x.1 = 5 ∨ x.1 = 6) → wOf (frontP l i o) x.2.1 = wOf l x.2.1 := by
    intro x hx hk
    have hr : rightO x i l.length = true := by
      rcases List.mem_cons.1 hx with rfl | hx
      · exact ho
      · exact (check_at h hi).2.2 x hx
    have := right_later hr hk
    unfold wOf
    rw [front_len, front_later h _ _ (by omega)]
  show min (sumW (wOf (frontP l i o)) (o :: p.2)) most = _
  rw [sumW_congr key]
  rfl
theorem right_copy (i all : Int) : rightO (16, 0, 0, []) i all = true := by simp [rightO, argN, argsL, kindB]
theorem right_exit (i all : Int) : rightO (1, 7, 0, []) i all = true := by simp [rightO, argN, argsL, kindB, btw]
theorem right_fork {k i all : Int} (h1 : i < k) (h2 : k < all) : rightO (5, k, 0, []) i all = true := by simp [rightO, argN, argsL, kindB, h1, h2]
theorem right_exec {k i all : Int} (h1 : i < k) (h2 : k < all) : rightO (6, k, 0, []) i all = true := by simp [rightO, argN, argsL, kindB, h1, h2]
theorem work_copy {l : List ProgV} (h : checkP l = 0) {i : Nat} {p : ProgV} (hi : l[i]? = some p) (hlen : p.2.length < 64) : workP (frontP l i (16, 0, 0, [])) i = min (workP l i + 1) most := by
  rw [front_work h hi (right_copy _ _) hlen, (work_at h hi).1]
  simp [extraW]
  omega
theorem work_exit {l : List ProgV} (h : checkP l = 0) {i : Nat} {p : ProgV} (hi : l[i]? = some p) (hlen : p.2.length < 64) : workP (frontP l i (1, 7, 0, [])) i = 1 := by
  rw [front_work h hi (right_exit _ _) hlen]
  simp [extraW, most]
theorem work_fork {l : List ProgV} (h : checkP l = 0) {i k : Nat} {p : ProgV} (hi : l[i]? = some p) (hlen : p.2.length < 64) (hk : i < k) (hkl : k < l.length) : workP (frontP l i (5, (k : Int), 0, [])) i = min (workP l i + 1 + workP l k) most := by
  rw [front_work h hi (right_fork (by omega) (by omega)) hlen, (work_at h hi).1]
  have := (work_at h (List.getElem?_eq_getElem hkl)).2
  simp [extraW, this]
  omega
theorem work_exec {l : List ProgV} (h : checkP l = 0) {i k : Nat} {p : ProgV} (hi : l[i]? = some p) (hlen : p.2.length < 64) (hk : i < k) (hkl : k < l.length) : workP (frontP l i (6, (k : Int), 0, [])) i = min (1 + workP l k) most := by
  rw [front_work h hi (right_exec (by omega) (by omega)) hlen]
  have := (work_at h (List.getElem?_eq_getElem hkl)).2
  simp [extraW, this]
end L19
end Go.Proofs.YteeienmigoebmaaGreatDoor
