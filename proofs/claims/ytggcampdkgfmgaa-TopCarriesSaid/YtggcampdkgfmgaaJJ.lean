import Derived.Test.YtggcampdkgfmgaaJB
import Derived.Deep.DeepCutAuto
import Derived.Laws.EntriesVeiled
namespace Go.Proofs.Ytggcampdkgfmgaa.L14
open Go.RowKit

/-! Layer 14's maths: when a read is done, how long it takes; the document's Ready and Wait. -/
def pz (x : Int) : Int := max 0 x
theorem pz_pos {x : Int} (h : 0 < x) : pz x = x := by unfold pz; omega
theorem pz_neg {x : Int} (h : x ≤ 0) : pz x = 0 := by unfold pz; omega
theorem pz_le (x : Int) : 0 ≤ pz x := by unfold pz; omega
def doneP (A B C wn D E : Int) : Bool :=
  if wn ≤ 0 then true else if 0 < A then (if A ≤ C then true else if wn ≤ C then true else if 0 < B then (if 0 < C then decide (B ≤ D) else false) else false)
  else if B ≤ 0 then true else if 0 < C then true else decide (B ≤ E)
def readyP (A B C wn D E : Int) : Int × Bool := if doneP A B C wn D E = true then (if wn ≤ 0 then 0 else if C ≤ wn then C else wn, true) else (0, false)
def waitP (A B C wn D E : Int) : Int × Bool :=
  if doneP A B C wn D E = true then (0, true) else if B ≤ 0 then (0, false) else if 0 < A then (if C ≤ 0 then (0, false) else (B - D, true)) else (B - E, true)
def readyI (mn tm hv wn idl wt : Int) : Int × Bool := readyP (pz mn) (pz tm) (pz hv) wn (pz idl) (pz wt)
def waitI (mn tm hv wn idl wt : Int) : Int × Bool := waitP (pz mn) (pz tm) (pz hv) wn (pz idl) (pz wt)
theorem pair_eq {p q : Int × Bool} {n : Int} {b : Bool} (h : p = (n, b)) (hq : p = q) : n = q.1 ∧ b = q.2 := by rw [hq] at h; rw [h]; exact ⟨rfl, rfl⟩
end Go.Proofs.Ytggcampdkgfmgaa.L14
namespace Go.Proofs.Ytggcampdkgfmgaa.L14
open Go.RowKit

/-! Layer 14: the program's Ready and Wait. -/
instance (u0 : World) : Nonempty (Gr u0) := ⟨⟨u0, Below.refl _ _⟩⟩
theorem bel_one (w : World) (o : Obj) : Hid (Below w.heap.size w (w.alloc o)) := hid ((Below.refl _ w).alloc (Nat.le_refl _) _)
end Go.Proofs.Ytggcampdkgfmgaa.L14
namespace Go.Proofs.Ytggcampdkgfmgaa.L14
open Go.RowKit
theorem box_below {u W : World} {g : Nat} {t : TypeId} {cs : Array Value} (h : Box u g t cs) (hb : Below u.heap.size u W) : Box W g t cs := (hb.block g h.lt).trans h
section
variable {A B C W D E : Int}
end
end Go.Proofs.Ytggcampdkgfmgaa.L14
namespace Go.Proofs.Ytggcampdkgfmgaa.L14
open Go.RowKit
section
variable {A B C W D E : Int}
/-- What the program counts. -/
def tickP (A B C W D E : Int) : Int × Bool :=
  if W = 0 then (0, true) else if 0 < A then
    (if 0 < B then (if (if A ≤ C then true else if W ≤ C then true else false) = true then (0, true) else if C = 0 then (0, false) else (pz (B - D), true))
     else (0, if A ≤ C then true else if W ≤ C then true else false))
  else if 0 < B then (if 0 < C then 0 else pz (B - E), true) else (0, true)
end
end Go.Proofs.Ytggcampdkgfmgaa.L14
namespace Go.Proofs.Ytggcampdkgfmgaa.L14
open Go.RowKit
theorem pz_top {x : Int} (h : x ≤ 9223372036854775807) : pz x ≤ 9223372036854775807 := by unfold pz; omega
/-- What the program counts is what the document counts. -/
theorem tick_wait {A B C wn D E : Int} (hb : 0 ≤ B) (hc : 0 ≤ C) : tickP A B C (pz wn) D E = waitP A B C wn D E := by
  unfold tickP waitP doneP pz
  repeat' split
  all_goals first | rfl | omega | (simp_all; omega) | simp_all
theorem wait_ready {A B C wn D E n : Int} {r : Bool} (hc : 0 ≤ C) (h : waitP A B C wn D E = (n, r)) :
    readyP A B C wn D E = if r = true ∧ ¬ 0 < n then (if C ≤ pz wn then C else pz wn, true) else (0, false) := by
  unfold waitP at h
  unfold readyP
  by_cases hd : doneP A B C wn D E = true
  · rw [if_pos hd] at h ⊢
    injection h with h1 h2
    subst h1 h2
    simp only [pz]
    repeat' split
    all_goals first | rfl | omega | (simp_all; omega) | simp_all
  · rw [if_neg hd] at h ⊢
    rw [if_neg]
    rintro ⟨rfl, h2⟩
    rw [Bool.not_eq_true] at hd
    unfold doneP at hd
    repeat' split at hd
    all_goals first | (cases hd; done) | skip
    all_goals (repeat' split at h)
    all_goals injection h with h1 h3
    all_goals first | (cases h3; done) | omega | (rw [decide_eq_false_iff_not] at hd; omega)
end Go.Proofs.Ytggcampdkgfmgaa.L14
namespace Go.Proofs.Ytggcampdkgfmgaa.L14
open Go.RowKit
theorem ready_way {mn tm hv wn idl wt n : Int} {b : Bool} (hR : Hid (readyI mn tm hv wn idl wt = (n, b))) : ∃ m r, Hid (tickP (pz mn) (pz tm) (pz hv) (pz wn) (pz idl) (pz wt) = (m, r)) ∧
    ((r = false ∧ n = 0 ∧ b = false) ∨ (r = true ∧ 0 < m ∧ n = 0 ∧ b = false) ∨ (r = true ∧ ¬ 0 < m ∧ b = true ∧ Hid ((if pz hv ≤ pz wn then pz hv else pz wn) = n))) := by
  obtain ⟨⟨m, r⟩, hw⟩ : ∃ z, waitP (pz mn) (pz tm) (pz hv) wn (pz idl) (pz wt) = z := ⟨_, rfl⟩
  have h := wait_ready (pz_le hv) hw
  have hr := hR.out
  unfold readyI at hr
  rw [h] at hr
  refine ⟨m, r, hid ((tick_wait (pz_le tm) (pz_le hv)).trans hw), ?_⟩
  cases r
  · left
    rw [if_neg (by simp)] at hr
    injection hr with a b
    exact ⟨rfl, a.symm, b.symm⟩
  · right
    by_cases hm : 0 < m
    · left
      rw [if_neg (by simp [hm])] at hr
      injection hr with a b
      exact ⟨rfl, hm, a.symm, b.symm⟩
    · right
      rw [if_pos ⟨rfl, hm⟩] at hr
      injection hr with a b
      exact ⟨rfl, hm, b.symm, hid a⟩
end Go.Proofs.Ytggcampdkgfmgaa.L14
