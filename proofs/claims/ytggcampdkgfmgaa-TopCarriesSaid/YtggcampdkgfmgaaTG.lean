import Derived.Test.YtggcampdkgfmgaaTF
namespace Go.Proofs.Ytggcampdkgfmgaa
open Go.RowKit

/-! Layer 17: SetAttr. -/
section
variable {w0 w w' : World} {g p : Nat} {S0 S : Nat → Prop} {P : Ps} {D' : Ds}
theorem Fit.flush1 {D : Ds} (h : Fit D) : Fit (flushD D 1) := ⟨h.t, by simp [flushD], by simp [flushD], by have := h.out; simpa [flushD] using this, by simp [flushD], by simp [flushD, L13.usedL], h.col, h.fr, h.idle⟩
theorem setF_on {D : Ds} {t : Tm} (h : rightT t = true) : setF D t = setD D t := by unfold setF; rw [if_pos h]
theorem setE_on {D : Ds} {t : Tm} (h : rightT t = true) : setE D t = 0 := by unfold setE; rw [if_pos h]
theorem Py.outc (H : Hid (Py w0 g p S0 w S P)) (ht : P.d.t.Ok) : ∃ h : Ph, Hid (w.cell? ⟨p, 30, none⟩ = some (.slice h.oA P.d.out.length h.oc)) := by
  obtain ⟨h, Hd⟩ := H.out.at_.at_
  exact ⟨h, hid ((Box.cell Hd.box 30).trans (tmV_back ht (j := 6) rfl))⟩
attribute [local go_sem ↓] wp_ldR ex_ldR
end
end Go.Proofs.Ytggcampdkgfmgaa
