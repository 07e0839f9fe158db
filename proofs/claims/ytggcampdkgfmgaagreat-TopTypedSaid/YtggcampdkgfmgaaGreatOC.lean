import Derived.Test.YtggcampdkgfmgaaGreatOB
namespace Go.Proofs.YtggcampdkgfmgaaGreat.F2
open Go.RowKit

end Go.Proofs.YtggcampdkgfmgaaGreat.F2
