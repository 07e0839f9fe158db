import Derived.Test.YtggcampdkgfmgaaJQ
namespace Go.Proofs.Ytggcampdkgfmgaa
open Go.RowKit

/-! Layer 16: a byte that is typed. -/
section
variable {w0 w : World} {p : Nat} {S0 S : Nat → Prop} {D : Ds} {h : Ph}
attribute [local go_sem ↓] wp_ldR ex_ldR

end
end Go.Proofs.Ytggcampdkgfmgaa
