import Derived.Test.YtfpkjocoifoigaaGreatDoorQP
namespace Go.Proofs.YtfpkjocoifoigaaGreatDoor
open Go.RowKit

/-- A request with the fields of its kind alone. -/
def Rw.own (r : Rq) : Rw → Rq
  | pty => { zeroR with kind := 1, text := r.text, cols := r.cols, rows := r.rows, width := r.width, height := r.height, modes := r.modes }
  | env => { zeroR with kind := 2, text := r.text, value := r.value }
  | shell => { zeroR with kind := 3 }
  | exec => { zeroR with kind := 4, text := r.text }
  | subsystem => { zeroR with kind := 5, text := r.text }
  | change => { zeroR with kind := 6, cols := r.cols, rows := r.rows, width := r.width, height := r.height }
  | xon => { zeroR with kind := 7, on := r.on }
  | signal => { zeroR with kind := 8, text := r.text }
  | status => { zeroR with kind := 9, code := r.code }
  | ends => { zeroR with kind := 10, text := r.text, on := r.on, value := r.value, lang := r.lang }
set_option maxHeartbeats 2000000 in
set_option maxRecDepth 100000 in
theorem same_q (r : Rq) (A A2 : Option Addr) (c c2 B B2 : Nat) (w : World) (hx : Lies w B A (bv r.modes)) (hy : Lies w B2 A2 (bv r.modes)) (hB : B ≤ w.heap.size) (hB2 : B2 ≤ w.heap.size) (hl : r.modes.length ≤ maxLen) :
    Calls Tryz.prog 12 #[.agg (r.cells A c), .agg (r.cells A2 c2)] w fun e w' => e = .returned (.bool true) ∧ Below w.heap.size w w' := by
  have HX := hid hx
  have HY := hid hy
  clear hx hy
  unfold Rq.cells
  go_enter Tryz.func12, Tryz.ntmps12
  go_wp2_with (
    go_at_call 9
    refine (bytes_any _ B B2 A A2 c c2 r.modes r.modes (HX.out.below ((bel2 w _ _).mono hB)) (HY.out.below ((bel2 w _ _).mono hB2)) hl hl).mono ?_
    rintro e w2 ⟨rfl, n, rfl⟩
    rw [decide_eq_true rfl])
  go_ret
  exact ⟨rfl, bel_drewN (bel2 w _ _) n⟩

def greatQ (r : Rq) : Bool := decide (10000 < r.text.size) || decide (10000 < r.value.size) || decide (10000 < r.lang.size) || decide (10000 < r.modes.length)
set_option maxHeartbeats 1000000 in
set_option maxRecDepth 100000 in
theorem greatq_0 (r : Rq) (A : Option Addr) (c : Nat) (w : World) (hr : r.Ok) (_hl : r.modes.length ≤ maxLen)  (h0 : 10000 < r.text.size) :
    Calls Tryz.prog 6 #[.agg (r.cells A c)] w fun e w' => e = .returned (.bool (greatQ r)) ∧ Below w.heap.size w w' := by
  have s1 := hr.text
  have s2 := hr.value
  have s3 := hr.lang
  unfold maxLen at _hl s1 s2 s3
  have HR : Hid (greatQ r = true) := hid (by simp [greatQ]; omega)
  unfold Rq.cells
  have d0 : (10000 : Int) < (r.text.size : Int) := by omega
  clear h0
  go_enter Tryz.func6, Tryz.ntmps6
  go_wp2
  go_ret
  exact ⟨ret_bool HR.out.symm, bel1 w _⟩
set_option maxHeartbeats 1000000 in
set_option maxRecDepth 100000 in
theorem greatq_1 (r : Rq) (A : Option Addr) (c : Nat) (w : World) (hr : r.Ok) (_hl : r.modes.length ≤ maxLen) (h0 : ¬ 10000 < r.text.size) (h1 : 10000 < r.value.size) :
    Calls Tryz.prog 6 #[.agg (r.cells A c)] w fun e w' => e = .returned (.bool (greatQ r)) ∧ Below w.heap.size w w' := by
  have s1 := hr.text
  have s2 := hr.value
  have s3 := hr.lang
  unfold maxLen at _hl s1 s2 s3
  have HR : Hid (greatQ r = true) := hid (by simp [greatQ]; omega)
  unfold Rq.cells
  have d0 : decide ((10000 : Int) < (r.text.size : Int)) = false := by simp; omega
  have d1 : (10000 : Int) < (r.value.size : Int) := by omega
  clear h0 h1
  go_enter Tryz.func6, Tryz.ntmps6
  go_wp2
  go_ret
  exact ⟨ret_bool HR.out.symm, bel1 w _⟩
set_option maxHeartbeats 1000000 in
set_option maxRecDepth 100000 in
theorem greatq_2 (r : Rq) (A : Option Addr) (c : Nat) (w : World) (hr : r.Ok) (_hl : r.modes.length ≤ maxLen) (h0 : ¬ 10000 < r.text.size) (h1 : ¬ 10000 < r.value.size) (h2 : 10000 < r.lang.size) :
    Calls Tryz.prog 6 #[.agg (r.cells A c)] w fun e w' => e = .returned (.bool (greatQ r)) ∧ Below w.heap.size w w' := by
  have s1 := hr.text
  have s2 := hr.value
  have s3 := hr.lang
  unfold maxLen at _hl s1 s2 s3
  have HR : Hid (greatQ r = true) := hid (by simp [greatQ]; omega)
  unfold Rq.cells
  have d0 : decide ((10000 : Int) < (r.text.size : Int)) = false := by simp; omega
  have d1 : decide ((10000 : Int) < (r.value.size : Int)) = false := by simp; omega
  have d2 : (10000 : Int) < (r.lang.size : Int) := by omega
  clear h0 h1 h2
  go_enter Tryz.func6, Tryz.ntmps6
  go_wp2
  go_ret
  exact ⟨ret_bool HR.out.symm, bel1 w _⟩
set_option maxHeartbeats 1000000 in
set_option maxRecDepth 100000 in
theorem greatq_3 (r : Rq) (A : Option Addr) (c : Nat) (w : World) (hr : r.Ok) (_hl : r.modes.length ≤ maxLen) (h0 : ¬ 10000 < r.text.size) (h1 : ¬ 10000 < r.value.size) (h2 : ¬ 10000 < r.lang.size) (h3 : 10000 < r.modes.length) :
    Calls Tryz.prog 6 #[.agg (r.cells A c)] w fun e w' => e = .returned (.bool (greatQ r)) ∧ Below w.heap.size w w' := by
  have s1 := hr.text
  have s2 := hr.value
  have s3 := hr.lang
  unfold maxLen at _hl s1 s2 s3
  have HR : Hid (greatQ r = true) := hid (by simp [greatQ]; omega)
  unfold Rq.cells
  have d0 : decide ((10000 : Int) < (r.text.size : Int)) = false := by simp; omega
  have d1 : decide ((10000 : Int) < (r.value.size : Int)) = false := by simp; omega
  have d2 : decide ((10000 : Int) < (r.lang.size : Int)) = false := by simp; omega
  have d3 : (10000 : Int) < (r.modes.length : Int) := by omega
  clear h0 h1 h2 h3
  go_enter Tryz.func6, Tryz.ntmps6
  go_wp2
  go_ret
  exact ⟨ret_bool HR.out.symm, bel1 w _⟩
set_option maxHeartbeats 1000000 in
set_option maxRecDepth 100000 in
theorem greatq_4 (r : Rq) (A : Option Addr) (c : Nat) (w : World) (hr : r.Ok) (_hl : r.modes.length ≤ maxLen) (h0 : ¬ 10000 < r.text.size) (h1 : ¬ 10000 < r.value.size) (h2 : ¬ 10000 < r.lang.size) (h3 : ¬ 10000 < r.modes.length) :
    Calls Tryz.prog 6 #[.agg (r.cells A c)] w fun e w' => e = .returned (.bool (greatQ r)) ∧ Below w.heap.size w w' := by
  have s1 := hr.text
  have s2 := hr.value
  have s3 := hr.lang
  unfold maxLen at _hl s1 s2 s3
  have HR : Hid (greatQ r = false) := hid (by simp [greatQ]; omega)
  unfold Rq.cells
  have d0 : decide ((10000 : Int) < (r.text.size : Int)) = false := by simp; omega
  have d1 : decide ((10000 : Int) < (r.value.size : Int)) = false := by simp; omega
  have d2 : decide ((10000 : Int) < (r.lang.size : Int)) = false := by simp; omega
  have d3 : decide ((10000 : Int) < (r.modes.length : Int)) = false := by simp; omega
  clear h0 h1 h2 h3
  go_enter Tryz.func6, Tryz.ntmps6
  go_wp2
  go_ret
  exact ⟨ret_bool HR.out.symm, bel1 w _⟩
theorem greatq_any (r : Rq) (A : Option Addr) (c : Nat) (w : World) (hr : r.Ok) (hl : r.modes.length ≤ maxLen) :
    Calls Tryz.prog 6 #[.agg (r.cells A c)] w fun e w' => e = .returned (.bool (greatQ r)) ∧ Below w.heap.size w w' := by
  by_cases h0 : 10000 < r.text.size
  · exact greatq_0 r A c w hr hl h0
  · by_cases h1 : 10000 < r.value.size
    · exact greatq_1 r A c w hr hl h0 h1
    · by_cases h2 : 10000 < r.lang.size
      · exact greatq_2 r A c w hr hl h0 h1 h2
      · by_cases h3 : 10000 < r.modes.length
        · exact greatq_3 r A c w hr hl h0 h1 h2 h3
        · exact greatq_4 r A c w hr hl h0 h1 h2 h3
set_option maxHeartbeats 2000000 in
set_option maxRecDepth 100000 in
theorem ownq_pty (co ro wi he cd n c : Nat) (tx va la : ByteArray) (on : Bool) (A : Option Addr) (w : World) :
    Calls Tryz.prog 19 #[.agg #[.int .i64 1, .string tx, .string va, .string la, .int .u32 co, .int .u32 ro, .int .u32 wi, .int .u32 he, .slice A n c, .bool on, .int .u32 cd]] w fun e w' => e = .returned (.agg #[.int .i64 1, .string tx, .string ⟨#[]⟩, .string ⟨#[]⟩, .int .u32 co, .int .u32 ro, .int .u32 wi, .int .u32 he, .slice A n c, .bool false, .int .u32 0]) ∧ Below w.heap.size w w' := by
  go_enter Tryz.func19, Tryz.ntmps19
  go_wp2
  go_region
  go_wp2
  refine bodyPost_ret (v := .agg #[.int .i64 1, .string tx, .string ⟨#[]⟩, .string ⟨#[]⟩, .int .u32 co, .int .u32 ro, .int .u32 wi, .int .u32 he, .slice A n c, .bool false, .int .u32 0]) (by simp [results, Tryz.results19, go_sem]) rfl ⟨rfl, ?_⟩
  repeat' first | exact Below.refl _ _ | refine Below.setCell ?_ (by simp; omega) _ | refine Below.drew ?_ | refine Below.alloc ?_ (by simp; omega) _ | refine Below.alloc ?_ (by simp) _
set_option maxHeartbeats 2000000 in
set_option maxRecDepth 100000 in
theorem ownq_env (co ro wi he cd n c : Nat) (tx va la : ByteArray) (on : Bool) (A : Option Addr) (w : World) :
    Calls Tryz.prog 19 #[.agg #[.int .i64 2, .string tx, .string va, .string la, .int .u32 co, .int .u32 ro, .int .u32 wi, .int .u32 he, .slice A n c, .bool on, .int .u32 cd]] w fun e w' => e = .returned (.agg #[.int .i64 2, .string tx, .string va, .string ⟨#[]⟩, .int .u32 0, .int .u32 0, .int .u32 0, .int .u32 0, .slice none 0 0, .bool false, .int .u32 0]) ∧ Below w.heap.size w w' := by
  go_enter Tryz.func19, Tryz.ntmps19
  go_wp2
  go_region
  go_wp2
  refine bodyPost_ret (v := .agg #[.int .i64 2, .string tx, .string va, .string ⟨#[]⟩, .int .u32 0, .int .u32 0, .int .u32 0, .int .u32 0, .slice none 0 0, .bool false, .int .u32 0]) (by simp [results, Tryz.results19, go_sem]) rfl ⟨rfl, ?_⟩
  repeat' first | exact Below.refl _ _ | refine Below.setCell ?_ (by simp; omega) _ | refine Below.drew ?_ | refine Below.alloc ?_ (by simp; omega) _ | refine Below.alloc ?_ (by simp) _
set_option maxHeartbeats 2000000 in
set_option maxRecDepth 100000 in
theorem ownq_shell (co ro wi he cd n c : Nat) (tx va la : ByteArray) (on : Bool) (A : Option Addr) (w : World) :
    Calls Tryz.prog 19 #[.agg #[.int .i64 3, .string tx, .string va, .string la, .int .u32 co, .int .u32 ro, .int .u32 wi, .int .u32 he, .slice A n c, .bool on, .int .u32 cd]] w fun e w' => e = .returned (.agg #[.int .i64 3, .string ⟨#[]⟩, .string ⟨#[]⟩, .string ⟨#[]⟩, .int .u32 0, .int .u32 0, .int .u32 0, .int .u32 0, .slice none 0 0, .bool false, .int .u32 0]) ∧ Below w.heap.size w w' := by
  go_enter Tryz.func19, Tryz.ntmps19
  go_wp2
  refine bodyPost_ret (v := .agg #[.int .i64 3, .string ⟨#[]⟩, .string ⟨#[]⟩, .string ⟨#[]⟩, .int .u32 0, .int .u32 0, .int .u32 0, .int .u32 0, .slice none 0 0, .bool false, .int .u32 0]) (by simp [results, Tryz.results19, go_sem]) rfl ⟨rfl, ?_⟩
  repeat' first | exact Below.refl _ _ | refine Below.setCell ?_ (by simp; omega) _ | refine Below.drew ?_ | refine Below.alloc ?_ (by simp; omega) _ | refine Below.alloc ?_ (by simp) _
set_option maxHeartbeats 2000000 in
set_option maxRecDepth 100000 in
theorem ownq_exec (co ro wi he cd n c : Nat) (tx va la : ByteArray) (on : Bool) (A : Option Addr) (w : World) :
    Calls Tryz.prog 19 #[.agg #[.int .i64 4, .string tx, .string va, .string la, .int .u32 co, .int .u32 ro, .int .u32 wi, .int .u32 he, .slice A n c, .bool on, .int .u32 cd]] w fun e w' => e = .returned (.agg #[.int .i64 4, .string tx, .string ⟨#[]⟩, .string ⟨#[]⟩, .int .u32 0, .int .u32 0, .int .u32 0, .int .u32 0, .slice none 0 0, .bool false, .int .u32 0]) ∧ Below w.heap.size w w' := by
  go_enter Tryz.func19, Tryz.ntmps19
  go_wp2
  refine bodyPost_ret (v := .agg #[.int .i64 4, .string tx, .string ⟨#[]⟩, .string ⟨#[]⟩, .int .u32 0, .int .u32 0, .int .u32 0, .int .u32 0, .slice none 0 0, .bool false, .int .u32 0]) (by simp [results, Tryz.results19, go_sem]) rfl ⟨rfl, ?_⟩
  repeat' first | exact Below.refl _ _ | refine Below.setCell ?_ (by simp; omega) _ | refine Below.drew ?_ | refine Below.alloc ?_ (by simp; omega) _ | refine Below.alloc ?_ (by simp) _
set_option maxHeartbeats 2000000 in
set_option maxRecDepth 100000 in
theorem ownq_subsystem (co ro wi he cd n c : Nat) (tx va la : ByteArray) (on : Bool) (A : Option Addr) (w : World) :
    Calls Tryz.prog 19 #[.agg #[.int .i64 5, .string tx, .string va, .string la, .int .u32 co, .int .u32 ro, .int .u32 wi, .int .u32 he, .slice A n c, .bool on, .int .u32 cd]] w fun e w' => e = .returned (.agg #[.int .i64 5, .string tx, .string ⟨#[]⟩, .string ⟨#[]⟩, .int .u32 0, .int .u32 0, .int .u32 0, .int .u32 0, .slice none 0 0, .bool false, .int .u32 0]) ∧ Below w.heap.size w w' := by
  go_enter Tryz.func19, Tryz.ntmps19
  go_wp2
  refine bodyPost_ret (v := .agg #[.int .i64 5, .string tx, .string ⟨#[]⟩, .string ⟨#[]⟩, .int .u32 0, .int .u32 0, .int .u32 0, .int .u32 0, .slice none 0 0, .bool false, .int .u32 0]) (by simp [results, Tryz.results19, go_sem]) rfl ⟨rfl, ?_⟩
  repeat' first | exact Below.refl _ _ | refine Below.setCell ?_ (by simp; omega) _ | refine Below.drew ?_ | refine Below.alloc ?_ (by simp; omega) _ | refine Below.alloc ?_ (by simp) _
set_option maxHeartbeats 2000000 in
set_option maxRecDepth 100000 in
theorem ownq_change (co ro wi he cd n c : Nat) (tx va la : ByteArray) (on : Bool) (A : Option Addr) (w : World) :
    Calls Tryz.prog 19 #[.agg #[.int .i64 6, .string tx, .string va, .string la, .int .u32 co, .int .u32 ro, .int .u32 wi, .int .u32 he, .slice A n c, .bool on, .int .u32 cd]] w fun e w' => e = .returned (.agg #[.int .i64 6, .string ⟨#[]⟩, .string ⟨#[]⟩, .string ⟨#[]⟩, .int .u32 co, .int .u32 ro, .int .u32 wi, .int .u32 he, .slice none 0 0, .bool false, .int .u32 0]) ∧ Below w.heap.size w w' := by
  go_enter Tryz.func19, Tryz.ntmps19
  go_wp2
  refine bodyPost_ret (v := .agg #[.int .i64 6, .string ⟨#[]⟩, .string ⟨#[]⟩, .string ⟨#[]⟩, .int .u32 co, .int .u32 ro, .int .u32 wi, .int .u32 he, .slice none 0 0, .bool false, .int .u32 0]) (by simp [results, Tryz.results19, go_sem]) rfl ⟨rfl, ?_⟩
  repeat' first | exact Below.refl _ _ | refine Below.setCell ?_ (by simp; omega) _ | refine Below.drew ?_ | refine Below.alloc ?_ (by simp; omega) _ | refine Below.alloc ?_ (by simp) _
set_option maxHeartbeats 2000000 in
set_option maxRecDepth 100000 in
theorem ownq_xon (co ro wi he cd n c : Nat) (tx va la : ByteArray) (on : Bool) (A : Option Addr) (w : World) :
    Calls Tryz.prog 19 #[.agg #[.int .i64 7, .string tx, .string va, .string la, .int .u32 co, .int .u32 ro, .int .u32 wi, .int .u32 he, .slice A n c, .bool on, .int .u32 cd]] w fun e w' => e = .returned (.agg #[.int .i64 7, .string ⟨#[]⟩, .string ⟨#[]⟩, .string ⟨#[]⟩, .int .u32 0, .int .u32 0, .int .u32 0, .int .u32 0, .slice none 0 0, .bool on, .int .u32 0]) ∧ Below w.heap.size w w' := by
  go_enter Tryz.func19, Tryz.ntmps19
  go_wp2
  refine bodyPost_ret (v := .agg #[.int .i64 7, .string ⟨#[]⟩, .string ⟨#[]⟩, .string ⟨#[]⟩, .int .u32 0, .int .u32 0, .int .u32 0, .int .u32 0, .slice none 0 0, .bool on, .int .u32 0]) (by simp [results, Tryz.results19, go_sem]) rfl ⟨rfl, ?_⟩
  repeat' first | exact Below.refl _ _ | refine Below.setCell ?_ (by simp; omega) _ | refine Below.drew ?_ | refine Below.alloc ?_ (by simp; omega) _ | refine Below.alloc ?_ (by simp) _
set_option maxHeartbeats 2000000 in
set_option maxRecDepth 100000 in
theorem ownq_signal (co ro wi he cd n c : Nat) (tx va la : ByteArray) (on : Bool) (A : Option Addr) (w : World) :
    Calls Tryz.prog 19 #[.agg #[.int .i64 8, .string tx, .string va, .string la, .int .u32 co, .int .u32 ro, .int .u32 wi, .int .u32 he, .slice A n c, .bool on, .int .u32 cd]] w fun e w' => e = .returned (.agg #[.int .i64 8, .string tx, .string ⟨#[]⟩, .string ⟨#[]⟩, .int .u32 0, .int .u32 0, .int .u32 0, .int .u32 0, .slice none 0 0, .bool false, .int .u32 0]) ∧ Below w.heap.size w w' := by
  go_enter Tryz.func19, Tryz.ntmps19
  go_wp2
  refine bodyPost_ret (v := .agg #[.int .i64 8, .string tx, .string ⟨#[]⟩, .string ⟨#[]⟩, .int .u32 0, .int .u32 0, .int .u32 0, .int .u32 0, .slice none 0 0, .bool false, .int .u32 0]) (by simp [results, Tryz.results19, go_sem]) rfl ⟨rfl, ?_⟩
  repeat' first | exact Below.refl _ _ | refine Below.setCell ?_ (by simp; omega) _ | refine Below.drew ?_ | refine Below.alloc ?_ (by simp; omega) _ | refine Below.alloc ?_ (by simp) _
set_option maxHeartbeats 2000000 in
set_option maxRecDepth 100000 in
theorem ownq_status (co ro wi he cd n c : Nat) (tx va la : ByteArray) (on : Bool) (A : Option Addr) (w : World) :
    Calls Tryz.prog 19 #[.agg #[.int .i64 9, .string tx, .string va, .string la, .int .u32 co, .int .u32 ro, .int .u32 wi, .int .u32 he, .slice A n c, .bool on, .int .u32 cd]] w fun e w' => e = .returned (.agg #[.int .i64 9, .string ⟨#[]⟩, .string ⟨#[]⟩, .string ⟨#[]⟩, .int .u32 0, .int .u32 0, .int .u32 0, .int .u32 0, .slice none 0 0, .bool false, .int .u32 cd]) ∧ Below w.heap.size w w' := by
  go_enter Tryz.func19, Tryz.ntmps19
  go_wp2
  refine bodyPost_ret (v := .agg #[.int .i64 9, .string ⟨#[]⟩, .string ⟨#[]⟩, .string ⟨#[]⟩, .int .u32 0, .int .u32 0, .int .u32 0, .int .u32 0, .slice none 0 0, .bool false, .int .u32 cd]) (by simp [results, Tryz.results19, go_sem]) rfl ⟨rfl, ?_⟩
  repeat' first | exact Below.refl _ _ | refine Below.setCell ?_ (by simp; omega) _ | refine Below.drew ?_ | refine Below.alloc ?_ (by simp; omega) _ | refine Below.alloc ?_ (by simp) _
set_option maxHeartbeats 2000000 in
set_option maxRecDepth 100000 in
theorem ownq_ends (co ro wi he cd n c : Nat) (tx va la : ByteArray) (on : Bool) (A : Option Addr) (w : World) :
    Calls Tryz.prog 19 #[.agg #[.int .i64 10, .string tx, .string va, .string la, .int .u32 co, .int .u32 ro, .int .u32 wi, .int .u32 he, .slice A n c, .bool on, .int .u32 cd]] w fun e w' => e = .returned (.agg #[.int .i64 10, .string tx, .string va, .string la, .int .u32 0, .int .u32 0, .int .u32 0, .int .u32 0, .slice none 0 0, .bool on, .int .u32 0]) ∧ Below w.heap.size w w' := by
  go_enter Tryz.func19, Tryz.ntmps19
  go_wp2
  go_region
  go_wp2
  refine bodyPost_ret (v := .agg #[.int .i64 10, .string tx, .string va, .string la, .int .u32 0, .int .u32 0, .int .u32 0, .int .u32 0, .slice none 0 0, .bool on, .int .u32 0]) (by simp [results, Tryz.results19, go_sem]) rfl ⟨rfl, ?_⟩
  repeat' first | exact Below.refl _ _ | refine Below.setCell ?_ (by simp; omega) _ | refine Below.drew ?_ | refine Below.alloc ?_ (by simp; omega) _ | refine Below.alloc ?_ (by simp) _
/-- Own of a request of a known kind. -/
theorem ownq_any (k : Rw) (r : Rq) (A : Option Addr) (c l m base : Nat) (w : World) (hk : r.kind = k.kind) (hl : r.modes.length = l) (hm : (k.own r).modes.length = m) (hd : Hid (TK w base A c r.modes)) :
    Calls Tryz.prog 19 #[.agg #[.int .i64 r.kind, .string r.text, .string r.value, .string r.lang, .int .u32 r.cols, .int .u32 r.rows, .int .u32 r.width, .int .u32 r.height, .slice A l c, .bool r.on, .int .u32 r.code]] w fun e w' => ∃ A1 c1, e = .returned (.agg #[.int .i64 (k.own r).kind, .string (k.own r).text, .string (k.own r).value, .string (k.own r).lang, .int .u32 (k.own r).cols, .int .u32 (k.own r).rows, .int .u32 (k.own r).width, .int .u32 (k.own r).height, .slice A1 m c1, .bool (k.own r).on, .int .u32 (k.own r).code]) ∧ Hid (Below w.heap.size w w') ∧ Hid (TK w' base A1 c1 (k.own r).modes) := by
  subst hl; subst hm
  rw [hk]
  cases k
  · refine (ownq_pty r.cols r.rows r.width r.height r.code r.modes.length c r.text r.value r.lang r.on A w).mono ?_
    rintro e w' ⟨rfl, hb⟩
    exact ⟨A, c, rfl, hb, hd.out.below hb⟩
  · refine (ownq_env r.cols r.rows r.width r.height r.code r.modes.length c r.text r.value r.lang r.on A w).mono ?_
    rintro e w' ⟨rfl, hb⟩
    exact ⟨none, 0, rfl, hb, TK.nil_ _ _⟩
  · refine (ownq_shell r.cols r.rows r.width r.height r.code r.modes.length c r.text r.value r.lang r.on A w).mono ?_
    rintro e w' ⟨rfl, hb⟩
    exact ⟨none, 0, rfl, hb, TK.nil_ _ _⟩
  · refine (ownq_exec r.cols r.rows r.width r.height r.code r.modes.length c r.text r.value r.lang r.on A w).mono ?_
    rintro e w' ⟨rfl, hb⟩
    exact ⟨none, 0, rfl, hb, TK.nil_ _ _⟩
  · refine (ownq_subsystem r.cols r.rows r.width r.height r.code r.modes.length c r.text r.value r.lang r.on A w).mono ?_
    rintro e w' ⟨rfl, hb⟩
    exact ⟨none, 0, rfl, hb, TK.nil_ _ _⟩
  · refine (ownq_change r.cols r.rows r.width r.height r.code r.modes.length c r.text r.value r.lang r.on A w).mono ?_
    rintro e w' ⟨rfl, hb⟩
    exact ⟨none, 0, rfl, hb, TK.nil_ _ _⟩
  · refine (ownq_xon r.cols r.rows r.width r.height r.code r.modes.length c r.text r.value r.lang r.on A w).mono ?_
    rintro e w' ⟨rfl, hb⟩
    exact ⟨none, 0, rfl, hb, TK.nil_ _ _⟩
  · refine (ownq_signal r.cols r.rows r.width r.height r.code r.modes.length c r.text r.value r.lang r.on A w).mono ?_
    rintro e w' ⟨rfl, hb⟩
    exact ⟨none, 0, rfl, hb, TK.nil_ _ _⟩
  · refine (ownq_status r.cols r.rows r.width r.height r.code r.modes.length c r.text r.value r.lang r.on A w).mono ?_
    rintro e w' ⟨rfl, hb⟩
    exact ⟨none, 0, rfl, hb, TK.nil_ _ _⟩
  · refine (ownq_ends r.cols r.rows r.width r.height r.code r.modes.length c r.text r.value r.lang r.on A w).mono ?_
    rintro e w' ⟨rfl, hb⟩
    exact ⟨none, 0, rfl, hb, TK.nil_ _ _⟩
end Go.Proofs.YtfpkjocoifoigaaGreatDoor
