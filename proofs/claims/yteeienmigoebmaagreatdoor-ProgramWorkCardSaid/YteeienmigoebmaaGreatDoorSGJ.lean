import Derived.Test.YteeienmigoebmaaGreatDoorSGI
namespace Go.Proofs.YteeienmigoebmaaGreatDoor.L18
open Go.RowKit

/-! Layer 18: what becomes of a process. -/
section
variable {w : World}
end
end Go.Proofs.YteeienmigoebmaaGreatDoor.L18
