import Derived.Test.YtggcampdkgfmgaaOC
namespace Go.Proofs.Ytggcampdkgfmgaa.F2
open Go.RowKit

end Go.Proofs.Ytggcampdkgfmgaa.F2
