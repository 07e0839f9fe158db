import Derived.Test.YtggcampdkgfmgaaGreatOC
namespace Go.Proofs.YtggcampdkgfmgaaGreat.F2
open Go.RowKit

end Go.Proofs.YtggcampdkgfmgaaGreat.F2
