import Derived.Test.YteeienmigoebmaaGreatDoorPRG
namespace Go.Proofs.YteeienmigoebmaaGreatDoor
namespace L19
open Go.RowKit L18

/-! Layer 19: the document's tables of words and of arguments. -/
def wordsV : Array Value := #[.string ⟨#[]⟩, .string ⟨#[101, 120, 105, 116]⟩, .string ⟨#[111, 117, 116]⟩, .string ⟨#[101, 114, 114]⟩, .string ⟨#[105, 110]⟩, .string ⟨#[102, 111, 114, 107]⟩, .string ⟨#[101, 120, 101, 99]⟩, .string ⟨#[119, 97, 105, 116]⟩, .string ⟨#[107, 105, 108, 108]⟩, .string ⟨#[103, 114, 111, 117, 112]⟩, .string ⟨#[115, 101, 115, 115, 105, 111, 110]⟩, .string ⟨#[102, 114, 111, 110, 116]⟩, .string ⟨#[97, 99, 116]⟩, .string ⟨#[109, 97, 115, 107]⟩, .string ⟨#[115, 108, 101, 101, 112]⟩, .string ⟨#[109, 111, 100, 101]⟩, .string ⟨#[99, 111, 112, 121]⟩]
def argsV : Array Value := #[.int .i64 0, .int .i64 1, .int .i64 9, .int .i64 9, .int .i64 1, .int .i64 1, .int .i64 1, .int .i64 1, .int .i64 2, .int .i64 1, .int .i64 0, .int .i64 1, .int .i64 2, .int .i64 2, .int .i64 1, .int .i64 2, .int .i64 0]
theorem sizeAR : (Tryz.prog.info? 77).map (·.size) = some 17 := by kernel_rfl
theorem sizeWO : (Tryz.prog.info? 75).map (·.size) = some 17 := by kernel_rfl
section
variable {w : World}
set_option maxRecDepth 100000 in
set_option maxHeartbeats 2000000 in
theorem argsr_any (w : World) : Calls Tryz.prog 24 #[] w fun e w' => e = .returned (.agg argsV) ∧ Hid (Below w.heap.size w w') := by
  have B := (Below.refl _ w).alloc (Nat.le_refl _)
  go_enter Tryz.func24, Tryz.ntmps24
  go_wp2
  refine bodyPost_ret (results_cell_row rfl _ _ w.heap.size 77 argsV (0, 0) _ rfl (Box.new w 77 argsV) Tryz.underlying77 rfl sizeAR) rfl ?_
  exact ⟨rfl, hid (B _)⟩
set_option maxRecDepth 100000 in
set_option maxHeartbeats 2000000 in
theorem wordsr_any (w : World) : Calls Tryz.prog 23 #[] w fun e w' => e = .returned (.agg wordsV) ∧ Hid (Below w.heap.size w w') := by
  have B := (Below.refl _ w).alloc (Nat.le_refl _)
  go_enter Tryz.func23, Tryz.ntmps23
  go_wp2
  refine bodyPost_ret (results_cell_row rfl _ _ w.heap.size 75 wordsV (0, 0) _ rfl (Box.new w 75 wordsV) Tryz.underlying75 rfl sizeWO) rfl ?_
  exact ⟨rfl, hid (B _)⟩
end
end L19
end Go.Proofs.YteeienmigoebmaaGreatDoor
