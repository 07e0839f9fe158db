import Derived.Test.YtggcampdkgfmgaaJM
namespace Go.Proofs.Ytggcampdkgfmgaa
open Go.RowKit

/-! Layer 16: what is taken off the line. -/
section
variable {w0 w : World} {p : Nat} {S0 S : Nat → Prop} {D : Ds} {h : Ph}
theorem echoD_t (D : Ds) (b : List UInt8) : (echoD D b).t = D.t ∧ (echoD D b).fr = D.fr ∧ (echoD D b).line = D.line ∧ (echoD D b).ls = D.ls ∧ (echoD D b).raw = D.raw ∧ (echoD D b).nx = D.nx ∧ (echoD D b).s = D.s ∧ (echoD D b).h = D.h ∧ (echoD D b).idle = D.idle := by
  unfold echoD
  split
  · unfold showD
    split <;> exact ⟨rfl, rfl, rfl, rfl, rfl, rfl, rfl, rfl, rfl⟩
  · exact ⟨rfl, rfl, rfl, rfl, rfl, rfl, rfl, rfl, rfl⟩
attribute [local go_sem ↓] wp_ldR ex_ldR

theorem eraB_le (u : Bool) (l : List UInt8) : (L10.eraB u l).length ≤ l.length := by unfold L10.eraB; simp
theorem goneL_le (u : Bool) (l : List UInt8) : (L10.goneL u l).length ≤ l.length := by unfold L10.goneL; simp

end
end Go.Proofs.Ytggcampdkgfmgaa
namespace Go.Proofs.Ytggcampdkgfmgaa
open Go.RowKit

/-! Layer 16: the line killed, and shown anew. -/
section
variable {w0 w : World} {p : Nat} {S0 S : Nat → Prop} {D : Ds} {h : Ph}
attribute [local go_sem ↓] wp_ldR ex_ldR
theorem echoD_has (D : Ds) (b : List UInt8) (op : Int) : (echoD D b).has op = D.has op := by
  unfold Ds.has
  rw [(echoD_t D b).1]

end
end Go.Proofs.Ytggcampdkgfmgaa
