import Derived.Test.YteeienmigoebmaaGreatDoorSGB
namespace Go.Proofs.YteeienmigoebmaaGreatDoor.L18
open Go.RowKit

/-! Layer 18: the document's rows. -/
/-- A row of the document's table, as it lies in memory. -/
def rowC (g : Int) : List Value := [.int .i64 g, .string (nmS g), .int .i64 (efS g), .bool (wiS g)]
set_option maxHeartbeats 2000000 in
set_option maxRecDepth 100000 in
theorem rows_any (w : World) : Calls Tryz.prog 113 #[] w fun e w' => e = .returned (.slice (some ⟨w.heap.size, 0, none⟩) 22 22) ∧ w' = w.alloc (.cells (sigL.flatMap rowC).toArray 144) := by
  go_enter Tryz.func113, Tryz.ntmps113
  go_wp2
  go_ret
  exact ⟨rfl, rfl⟩
end Go.Proofs.YteeienmigoebmaaGreatDoor.L18
