import Derived.Test.YtggcampdkgfmgaaJO
namespace Go.Proofs.Ytggcampdkgfmgaa
open Go.RowKit

/-! Layer 16: a byte taken; a line shown anew. -/
section
variable {w0 w : World} {p : Nat} {S0 S : Nat → Prop} {D : Ds} {h : Ph}
attribute [local go_sem ↓] wp_ldR ex_ldR

theorem mark_len (t : Tm) (c : UInt8) : (L9.markB t c).length ≤ 10 := by
  unfold L9.markB
  repeat' split
  all_goals simp

end
end Go.Proofs.Ytggcampdkgfmgaa
namespace Go.Proofs.Ytggcampdkgfmgaa
open Go.RowKit

/-! Layer 16: a line shown anew. -/
section
variable {w0 w : World} {p : Nat} {S0 S : Nat → Prop} {D : Ds} {h : Ph}
attribute [local go_sem ↓] wp_ldR ex_ldR

end
end Go.Proofs.Ytggcampdkgfmgaa
