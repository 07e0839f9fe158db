import Derived.Test.YtfpkjocoifoigaaGreatDoorQP
namespace Go.Proofs.YtfpkjocoifoigaaGreatDoor
open Go.RowKit

def namesVq : Array Value := #[.string ⟨#[]⟩, .string ⟨#[112, 116, 121, 45, 114, 101, 113]⟩, .string ⟨#[101, 110, 118]⟩, .string ⟨#[115, 104, 101, 108, 108]⟩, .string ⟨#[101, 120, 101, 99]⟩, .string ⟨#[115, 117, 98, 115, 121, 115, 116, 101, 109]⟩, .string ⟨#[119, 105, 110, 100, 111, 119, 45, 99, 104, 97, 110, 103, 101]⟩, .string ⟨#[120, 111, 110, 45, 120, 111, 102, 102]⟩, .string ⟨#[115, 105, 103, 110, 97, 108]⟩, .string ⟨#[101, 120, 105, 116, 45, 115, 116, 97, 116, 117, 115]⟩, .string ⟨#[101, 120, 105, 116, 45, 115, 105, 103, 110, 97, 108]⟩]
set_option maxHeartbeats 1000000 in
set_option maxRecDepth 100000 in
theorem qname_pty (w : World) : Calls Tryz.prog 11 #[.int .i64 1] w fun e w' => e = .returned (.tuple #[.string Rw.pty.name, .bool true]) ∧ w = w' := by
  go_enter Tryz.func11, Tryz.ntmps11
  go_wp2_with (first
    | (refine wpList_build_at rfl 71 _ rfl namesVq ?hc ?_; case hc => kernel_rfl)
    | (refine wpList_index_at rfl 71 _ _ rfl (.string Rw.pty.name) ?hd ?_; case hd => kernel_rfl))
  go_ret2
  exact ⟨rfl, rfl⟩
set_option maxHeartbeats 1000000 in
set_option maxRecDepth 100000 in
theorem qname_env (w : World) : Calls Tryz.prog 11 #[.int .i64 2] w fun e w' => e = .returned (.tuple #[.string Rw.env.name, .bool true]) ∧ w = w' := by
  go_enter Tryz.func11, Tryz.ntmps11
  go_wp2_with (first
    | (refine wpList_build_at rfl 71 _ rfl namesVq ?hc ?_; case hc => kernel_rfl)
    | (refine wpList_index_at rfl 71 _ _ rfl (.string Rw.env.name) ?hd ?_; case hd => kernel_rfl))
  go_ret2
  exact ⟨rfl, rfl⟩
set_option maxHeartbeats 1000000 in
set_option maxRecDepth 100000 in
theorem qname_shell (w : World) : Calls Tryz.prog 11 #[.int .i64 3] w fun e w' => e = .returned (.tuple #[.string Rw.shell.name, .bool true]) ∧ w = w' := by
  go_enter Tryz.func11, Tryz.ntmps11
  go_wp2_with (first
    | (refine wpList_build_at rfl 71 _ rfl namesVq ?hc ?_; case hc => kernel_rfl)
    | (refine wpList_index_at rfl 71 _ _ rfl (.string Rw.shell.name) ?hd ?_; case hd => kernel_rfl))
  go_ret2
  exact ⟨rfl, rfl⟩
set_option maxHeartbeats 1000000 in
set_option maxRecDepth 100000 in
theorem qname_exec (w : World) : Calls Tryz.prog 11 #[.int .i64 4] w fun e w' => e = .returned (.tuple #[.string Rw.exec.name, .bool true]) ∧ w = w' := by
  go_enter Tryz.func11, Tryz.ntmps11
  go_wp2_with (first
    | (refine wpList_build_at rfl 71 _ rfl namesVq ?hc ?_; case hc => kernel_rfl)
    | (refine wpList_index_at rfl 71 _ _ rfl (.string Rw.exec.name) ?hd ?_; case hd => kernel_rfl))
  go_ret2
  exact ⟨rfl, rfl⟩
set_option maxHeartbeats 1000000 in
set_option maxRecDepth 100000 in
theorem qname_subsystem (w : World) : Calls Tryz.prog 11 #[.int .i64 5] w fun e w' => e = .returned (.tuple #[.string Rw.subsystem.name, .bool true]) ∧ w = w' := by
  go_enter Tryz.func11, Tryz.ntmps11
  go_wp2_with (first
    | (refine wpList_build_at rfl 71 _ rfl namesVq ?hc ?_; case hc => kernel_rfl)
    | (refine wpList_index_at rfl 71 _ _ rfl (.string Rw.subsystem.name) ?hd ?_; case hd => kernel_rfl))
  go_ret2
  exact ⟨rfl, rfl⟩
set_option maxHeartbeats 1000000 in
set_option maxRecDepth 100000 in
theorem qname_change (w : World) : Calls Tryz.prog 11 #[.int .i64 6] w fun e w' => e = .returned (.tuple #[.string Rw.change.name, .bool true]) ∧ w = w' := by
  go_enter Tryz.func11, Tryz.ntmps11
  go_wp2_with (first
    | (refine wpList_build_at rfl 71 _ rfl namesVq ?hc ?_; case hc => kernel_rfl)
    | (refine wpList_index_at rfl 71 _ _ rfl (.string Rw.change.name) ?hd ?_; case hd => kernel_rfl))
  go_ret2
  exact ⟨rfl, rfl⟩
set_option maxHeartbeats 1000000 in
set_option maxRecDepth 100000 in
theorem qname_xon (w : World) : Calls Tryz.prog 11 #[.int .i64 7] w fun e w' => e = .returned (.tuple #[.string Rw.xon.name, .bool true]) ∧ w = w' := by
  go_enter Tryz.func11, Tryz.ntmps11
  go_wp2_with (first
    | (refine wpList_build_at rfl 71 _ rfl namesVq ?hc ?_; case hc => kernel_rfl)
    | (refine wpList_index_at rfl 71 _ _ rfl (.string Rw.xon.name) ?hd ?_; case hd => kernel_rfl))
  go_ret2
  exact ⟨rfl, rfl⟩
set_option maxHeartbeats 1000000 in
set_option maxRecDepth 100000 in
theorem qname_signal (w : World) : Calls Tryz.prog 11 #[.int .i64 8] w fun e w' => e = .returned (.tuple #[.string Rw.signal.name, .bool true]) ∧ w = w' := by
  go_enter Tryz.func11, Tryz.ntmps11
  go_wp2_with (first
    | (refine wpList_build_at rfl 71 _ rfl namesVq ?hc ?_; case hc => kernel_rfl)
    | (refine wpList_index_at rfl 71 _ _ rfl (.string Rw.signal.name) ?hd ?_; case hd => kernel_rfl))
  go_ret2
  exact ⟨rfl, rfl⟩
set_option maxHeartbeats 1000000 in
set_option maxRecDepth 100000 in
theorem qname_status (w : World) : Calls Tryz.prog 11 #[.int .i64 9] w fun e w' => e = .returned (.tuple #[.string Rw.status.name, .bool true]) ∧ w = w' := by
  go_enter Tryz.func11, Tryz.ntmps11
  go_wp2_with (first
    | (refine wpList_build_at rfl 71 _ rfl namesVq ?hc ?_; case hc => kernel_rfl)
    | (refine wpList_index_at rfl 71 _ _ rfl (.string Rw.status.name) ?hd ?_; case hd => kernel_rfl))
  go_ret2
  exact ⟨rfl, rfl⟩
set_option maxHeartbeats 1000000 in
set_option maxRecDepth 100000 in
theorem qname_ends (w : World) : Calls Tryz.prog 11 #[.int .i64 10] w fun e w' => e = .returned (.tuple #[.string Rw.ends.name, .bool true]) ∧ w = w' := by
  go_enter Tryz.func11, Tryz.ntmps11
  go_wp2_with (first
    | (refine wpList_build_at rfl 71 _ rfl namesVq ?hc ?_; case hc => kernel_rfl)
    | (refine wpList_index_at rfl 71 _ _ rfl (.string Rw.ends.name) ?hd ?_; case hd => kernel_rfl))
  go_ret2
  exact ⟨rfl, rfl⟩
theorem qname_any (k : Rw) (w : World) : Calls Tryz.prog 11 #[.int .i64 k.kind] w fun e w' => e = .returned (.tuple #[.string k.name, .bool true]) ∧ w = w' := by
  cases k
  · exact qname_pty w
  · exact qname_env w
  · exact qname_shell w
  · exact qname_exec w
  · exact qname_subsystem w
  · exact qname_change w
  · exact qname_xon w
  · exact qname_signal w
  · exact qname_status w
  · exact qname_ends w
end Go.Proofs.YtfpkjocoifoigaaGreatDoor
