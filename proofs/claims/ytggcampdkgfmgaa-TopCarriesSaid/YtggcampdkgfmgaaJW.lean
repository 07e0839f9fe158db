import Derived.Test.YtggcampdkgfmgaaJT
import Derived.Test.YtggcampdkgfmgaaJU
import Derived.Test.YtggcampdkgfmgaaJV
namespace Go.Proofs.Ytggcampdkgfmgaa
open Go.RowKit

/-! Layer 16: the public calls: Read. -/
theorem ready_in {mn tm wn idl wt k : Int} {hv : Nat} (h : L14.readyI mn tm (hv : Int) wn idl wt = (k, true)) : ∃ m : Nat, k = (m : Int) ∧ m ≤ hv := by
  have hp : L14.pz (hv : Int) = (hv : Int) := by unfold L14.pz; omega
  unfold L14.readyI L14.readyP at h
  rw [hp] at h
  split at h
  · injection h with h _
    split at h
    · exact ⟨0, by omega, by omega⟩
    · split at h
      · exact ⟨hv, by omega, by omega⟩
      · exact ⟨wn.toNat, by omega, by omega⟩
  · injection h with _ h
    cases h
theorem ready_no {mn tm hv wn idl wt k : Int} (h : L14.readyI mn tm hv wn idl wt = (k, false)) : k = 0 := by
  unfold L14.readyI L14.readyP at h
  split at h
  · injection h with _ h
    cases h
  · injection h with h _
    exact h.symm
section
variable {w0 w : World} {p : Nat} {S0 S : Nat → Prop} {D : Ds} {h : Ph}
theorem Wy.cellT (H : Hid (Wy w0 p S0 w S D h)) (ht : D.t.Ok) (j : Nat) {v : Value} (hj : D.t.cs[j]? = some v) (W : World) (k : Below w.heap.size w W) : W.cell? ⟨p, j, none⟩ = some v :=
  (Box.cell (H.out.at_.bel k).box j).trans (tmV_front _ j v (by simpa [Tm.cs] using hj))
/-- A read of its own: what it answers, and what is left. -/
def RetRy (w0 : World) (p : Nat) (S0 : Nat → Prop) (D' : Ds) (b : List UInt8) (ok : Bool) (e : Ending) (w' : World) : Prop := ∃ A n c S' h', e = .returned (.tuple #[.slice A n c, .bool ok]) ∧ Hid (b.length = n) ∧ Hid (SlB w' w'.heap.size A c b) ∧ Hid (Wy w0 p S0 w' S' D' h') ∧ Hid (b ≠ [] → ∀ a, A = some a → ¬ S' a.block) ∧ Hid (b ≠ [] → ∀ a, A = some a → w0.heap.size ≤ a.block)
attribute [local go_sem ↓] wp_ldR ex_ldR

theorem readL_no {ls ls' : List (List UInt8 × Bool)} {n : Int} {b : List UInt8} (h : L13.readL ls n = (b, ls', false)) : b = [] ∧ ls' = ls := by
  cases ls with
  | nil =>
    injection h with h1 h2
    injection h2 with h2 _
    exact ⟨h1.symm, h2.symm⟩
  | cons x r =>
    exfalso
    unfold L13.readL at h
    simp only at h
    split at h
    · injection h with _ h; injection h with _ h; cases h
    · split at h <;> (injection h with _ h; injection h with _ h; cases h)
theorem readL_used {ls ls' : List (List UInt8 × Bool)} {n : Int} {b : List UInt8} {ok : Bool} (h : L13.readL ls n = (b, ls', ok)) : ls'.length ≤ ls.length ∧ L13.usedL ls' ≤ L13.usedL ls := by
  cases ls with
  | nil =>
    injection h with _ h
    injection h with h _
    subst h
    exact ⟨Nat.le_refl _, Nat.le_refl _⟩
  | cons x r =>
    unfold L13.readL at h
    simp only at h
    have hx : ∀ x r, L13.usedL (x :: r) = x.1.length + (if x.2 = true then 1 else 0) + L13.usedL r := fun x r => by simp [L13.usedL, List.map_cons, List.sum_cons]
    split at h
    · injection h with _ h; injection h with h _
      subst h
      exact ⟨Nat.le_refl _, Nat.le_refl _⟩
    · split at h <;> (injection h with _ h; injection h with h _; subst h)
      · simp [hx]
      · simp [hx]
/-- What a read has answered lives through what isn't its own. -/
theorem read_left {w : World} {w3 w4 : World} {S3 : Nat → Prop} {D2 D3 : Ds} {h3 : Ph} {A : Option Addr} {c : Nat} {b : List UInt8} (H3 : Hid (Wy w p S w3 S3 D2 h3)) (K : DOut w3 p S3 D3 w4) (hS : Hid (SlB w3 w3.heap.size A c b)) (hF : Hid (b ≠ [] → ∀ a, A = some a → ¬ S3 a.block)) (hG : Hid (b ≠ [] → ∀ a, A = some a → w.heap.size ≤ a.block)) : Hid (SlB w4 w4.heap.size A c b) ∧ DOutF w p S D3 A b w4 := by
  obtain ⟨S4, h4, h5, h6⟩ := K
  refine ⟨hid (h6.out.slb hS.out hF.out), S4, h4, hid (fun x hx => ?_), hid (H3.out.but.trans h6.out H3.out.new), hid (fun hne a ha hx => ?_), hG⟩
  · rcases h5.out x hx with h | h
    · exact H3.out.new x h
    · exact .inr (Nat.le_trans H3.out.but.size h)
  · rcases h5.out _ hx with h | h
    · exact hF.out hne a ha h
    · have := slb_block hS.out hne a ha
      omega

end
end Go.Proofs.Ytggcampdkgfmgaa
