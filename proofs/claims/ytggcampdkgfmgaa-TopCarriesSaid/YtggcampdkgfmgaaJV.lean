import Derived.Test.YtggcampdkgfmgaaJI
namespace Go.Proofs.Ytggcampdkgfmgaa
open Go.RowKit

/-! Layer 13, once more: a read's bytes and what it leaves are apart. -/
end Go.Proofs.Ytggcampdkgfmgaa
