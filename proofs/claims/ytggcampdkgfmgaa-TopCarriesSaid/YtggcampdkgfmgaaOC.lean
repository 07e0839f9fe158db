import Derived.Test.YtggcampdkgfmgaaOB
namespace Go.Proofs.Ytggcampdkgfmgaa.F2
open Go.RowKit

end Go.Proofs.Ytggcampdkgfmgaa.F2
