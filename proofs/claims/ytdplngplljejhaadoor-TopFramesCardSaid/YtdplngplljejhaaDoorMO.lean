import Derived.Test.YtdplngplljejhaaDoorMK
namespace Go.Proofs.YtdplngplljejhaaDoor
open Go.RowKit

set_option maxHeartbeats 1000000 in
set_option maxRecDepth 100000 in
theorem own17_1 (ch se wi pa co n c : Nat) (nm lg : ByteArray) (wt : Bool) (A : Option Addr) (w : World) :
    Calls Tryd.prog 14 #[.agg #[.int .i64 1, .int .u32 ch, .int .u32 se, .int .u32 wi, .int .u32 pa, .int .u32 co, .string nm, .string lg, .bool wt, .slice A n c]] w fun e w' => e = .returned (.agg #[.int .i64 1, .int .u32 0, .int .u32 0, .int .u32 0, .int .u32 0, .int .u32 co, .string ⟨#[]⟩, .string lg, .bool false, .slice A n c]) ∧ Below w.heap.size w w' := by
  go_enter Tryd.func14, Tryd.ntmps14
  go_wp2
  go_region
  go_wp2
  refine bodyPost_ret (v := .agg #[.int .i64 1, .int .u32 0, .int .u32 0, .int .u32 0, .int .u32 0, .int .u32 co, .string ⟨#[]⟩, .string lg, .bool false, .slice A n c]) (by simp [results, Tryd.results14, go_sem]) rfl ⟨rfl, ?_⟩
  repeat' first | exact Below.refl _ _ | refine Below.setCell ?_ (by simp; omega) _ | refine Below.drew ?_ | refine Below.alloc ?_ (by simp; omega) _ | refine Below.alloc ?_ (by simp) _
set_option maxHeartbeats 1000000 in
set_option maxRecDepth 100000 in
theorem own17_80 (ch se wi pa co n c : Nat) (nm lg : ByteArray) (wt : Bool) (A : Option Addr) (w : World) :
    Calls Tryd.prog 14 #[.agg #[.int .i64 80, .int .u32 ch, .int .u32 se, .int .u32 wi, .int .u32 pa, .int .u32 co, .string nm, .string lg, .bool wt, .slice A n c]] w fun e w' => e = .returned (.agg #[.int .i64 80, .int .u32 0, .int .u32 0, .int .u32 0, .int .u32 0, .int .u32 0, .string nm, .string ⟨#[]⟩, .bool wt, .slice A n c]) ∧ Below w.heap.size w w' := by
  go_enter Tryd.func14, Tryd.ntmps14
  go_wp2
  go_region
  go_wp2
  refine bodyPost_ret (v := .agg #[.int .i64 80, .int .u32 0, .int .u32 0, .int .u32 0, .int .u32 0, .int .u32 0, .string nm, .string ⟨#[]⟩, .bool wt, .slice A n c]) (by simp [results, Tryd.results14, go_sem]) rfl ⟨rfl, ?_⟩
  repeat' first | exact Below.refl _ _ | refine Below.setCell ?_ (by simp; omega) _ | refine Below.drew ?_ | refine Below.alloc ?_ (by simp; omega) _ | refine Below.alloc ?_ (by simp) _
set_option maxHeartbeats 1000000 in
set_option maxRecDepth 100000 in
theorem own17_81 (ch se wi pa co n c : Nat) (nm lg : ByteArray) (wt : Bool) (A : Option Addr) (w : World) :
    Calls Tryd.prog 14 #[.agg #[.int .i64 81, .int .u32 ch, .int .u32 se, .int .u32 wi, .int .u32 pa, .int .u32 co, .string nm, .string lg, .bool wt, .slice A n c]] w fun e w' => e = .returned (.agg #[.int .i64 81, .int .u32 0, .int .u32 0, .int .u32 0, .int .u32 0, .int .u32 0, .string ⟨#[]⟩, .string ⟨#[]⟩, .bool false, .slice A n c]) ∧ Below w.heap.size w w' := by
  go_enter Tryd.func14, Tryd.ntmps14
  go_wp2
  refine bodyPost_ret (v := .agg #[.int .i64 81, .int .u32 0, .int .u32 0, .int .u32 0, .int .u32 0, .int .u32 0, .string ⟨#[]⟩, .string ⟨#[]⟩, .bool false, .slice A n c]) (by simp [results, Tryd.results14, go_sem]) rfl ⟨rfl, ?_⟩
  repeat' first | exact Below.refl _ _ | refine Below.setCell ?_ (by simp; omega) _ | refine Below.drew ?_ | refine Below.alloc ?_ (by simp; omega) _ | refine Below.alloc ?_ (by simp) _
set_option maxHeartbeats 1000000 in
set_option maxRecDepth 100000 in
theorem own17_82 (ch se wi pa co n c : Nat) (nm lg : ByteArray) (wt : Bool) (A : Option Addr) (w : World) :
    Calls Tryd.prog 14 #[.agg #[.int .i64 82, .int .u32 ch, .int .u32 se, .int .u32 wi, .int .u32 pa, .int .u32 co, .string nm, .string lg, .bool wt, .slice A n c]] w fun e w' => e = .returned (.agg #[.int .i64 82, .int .u32 0, .int .u32 0, .int .u32 0, .int .u32 0, .int .u32 0, .string ⟨#[]⟩, .string ⟨#[]⟩, .bool false, .slice none 0 0]) ∧ Below w.heap.size w w' := by
  go_enter Tryd.func14, Tryd.ntmps14
  go_wp2
  refine bodyPost_ret (v := .agg #[.int .i64 82, .int .u32 0, .int .u32 0, .int .u32 0, .int .u32 0, .int .u32 0, .string ⟨#[]⟩, .string ⟨#[]⟩, .bool false, .slice none 0 0]) (by simp [results, Tryd.results14, go_sem]) rfl ⟨rfl, ?_⟩
  repeat' first | exact Below.refl _ _ | refine Below.setCell ?_ (by simp; omega) _ | refine Below.drew ?_ | refine Below.alloc ?_ (by simp; omega) _ | refine Below.alloc ?_ (by simp) _
set_option maxHeartbeats 1000000 in
set_option maxRecDepth 100000 in
theorem own17_90 (ch se wi pa co n c : Nat) (nm lg : ByteArray) (wt : Bool) (A : Option Addr) (w : World) :
    Calls Tryd.prog 14 #[.agg #[.int .i64 90, .int .u32 ch, .int .u32 se, .int .u32 wi, .int .u32 pa, .int .u32 co, .string nm, .string lg, .bool wt, .slice A n c]] w fun e w' => e = .returned (.agg #[.int .i64 90, .int .u32 0, .int .u32 se, .int .u32 wi, .int .u32 pa, .int .u32 0, .string nm, .string ⟨#[]⟩, .bool false, .slice A n c]) ∧ Below w.heap.size w w' := by
  go_enter Tryd.func14, Tryd.ntmps14
  go_wp2
  go_region
  go_wp2
  refine bodyPost_ret (v := .agg #[.int .i64 90, .int .u32 0, .int .u32 se, .int .u32 wi, .int .u32 pa, .int .u32 0, .string nm, .string ⟨#[]⟩, .bool false, .slice A n c]) (by simp [results, Tryd.results14, go_sem]) rfl ⟨rfl, ?_⟩
  repeat' first | exact Below.refl _ _ | refine Below.setCell ?_ (by simp; omega) _ | refine Below.drew ?_ | refine Below.alloc ?_ (by simp; omega) _ | refine Below.alloc ?_ (by simp) _
set_option maxHeartbeats 1000000 in
set_option maxRecDepth 100000 in
theorem own17_91 (ch se wi pa co n c : Nat) (nm lg : ByteArray) (wt : Bool) (A : Option Addr) (w : World) :
    Calls Tryd.prog 14 #[.agg #[.int .i64 91, .int .u32 ch, .int .u32 se, .int .u32 wi, .int .u32 pa, .int .u32 co, .string nm, .string lg, .bool wt, .slice A n c]] w fun e w' => e = .returned (.agg #[.int .i64 91, .int .u32 ch, .int .u32 se, .int .u32 wi, .int .u32 pa, .int .u32 0, .string ⟨#[]⟩, .string ⟨#[]⟩, .bool false, .slice A n c]) ∧ Below w.heap.size w w' := by
  go_enter Tryd.func14, Tryd.ntmps14
  go_wp2
  go_region
  go_wp2
  refine bodyPost_ret (v := .agg #[.int .i64 91, .int .u32 ch, .int .u32 se, .int .u32 wi, .int .u32 pa, .int .u32 0, .string ⟨#[]⟩, .string ⟨#[]⟩, .bool false, .slice A n c]) (by simp [results, Tryd.results14, go_sem]) rfl ⟨rfl, ?_⟩
  repeat' first | exact Below.refl _ _ | refine Below.setCell ?_ (by simp; omega) _ | refine Below.drew ?_ | refine Below.alloc ?_ (by simp; omega) _ | refine Below.alloc ?_ (by simp) _
set_option maxHeartbeats 1000000 in
set_option maxRecDepth 100000 in
theorem own17_92 (ch se wi pa co n c : Nat) (nm lg : ByteArray) (wt : Bool) (A : Option Addr) (w : World) :
    Calls Tryd.prog 14 #[.agg #[.int .i64 92, .int .u32 ch, .int .u32 se, .int .u32 wi, .int .u32 pa, .int .u32 co, .string nm, .string lg, .bool wt, .slice A n c]] w fun e w' => e = .returned (.agg #[.int .i64 92, .int .u32 ch, .int .u32 0, .int .u32 0, .int .u32 0, .int .u32 co, .string ⟨#[]⟩, .string lg, .bool false, .slice A n c]) ∧ Below w.heap.size w w' := by
  go_enter Tryd.func14, Tryd.ntmps14
  go_wp2
  go_region
  go_wp2
  refine bodyPost_ret (v := .agg #[.int .i64 92, .int .u32 ch, .int .u32 0, .int .u32 0, .int .u32 0, .int .u32 co, .string ⟨#[]⟩, .string lg, .bool false, .slice A n c]) (by simp [results, Tryd.results14, go_sem]) rfl ⟨rfl, ?_⟩
  repeat' first | exact Below.refl _ _ | refine Below.setCell ?_ (by simp; omega) _ | refine Below.drew ?_ | refine Below.alloc ?_ (by simp; omega) _ | refine Below.alloc ?_ (by simp) _
set_option maxHeartbeats 1000000 in
set_option maxRecDepth 100000 in
theorem own17_93 (ch se wi pa co n c : Nat) (nm lg : ByteArray) (wt : Bool) (A : Option Addr) (w : World) :
    Calls Tryd.prog 14 #[.agg #[.int .i64 93, .int .u32 ch, .int .u32 se, .int .u32 wi, .int .u32 pa, .int .u32 co, .string nm, .string lg, .bool wt, .slice A n c]] w fun e w' => e = .returned (.agg #[.int .i64 93, .int .u32 ch, .int .u32 0, .int .u32 wi, .int .u32 0, .int .u32 0, .string ⟨#[]⟩, .string ⟨#[]⟩, .bool false, .slice none 0 0]) ∧ Below w.heap.size w w' := by
  go_enter Tryd.func14, Tryd.ntmps14
  go_wp2
  go_region
  go_wp2
  refine bodyPost_ret (v := .agg #[.int .i64 93, .int .u32 ch, .int .u32 0, .int .u32 wi, .int .u32 0, .int .u32 0, .string ⟨#[]⟩, .string ⟨#[]⟩, .bool false, .slice none 0 0]) (by simp [results, Tryd.results14, go_sem]) rfl ⟨rfl, ?_⟩
  repeat' first | exact Below.refl _ _ | refine Below.setCell ?_ (by simp; omega) _ | refine Below.drew ?_ | refine Below.alloc ?_ (by simp; omega) _ | refine Below.alloc ?_ (by simp) _
set_option maxHeartbeats 1000000 in
set_option maxRecDepth 100000 in
theorem own17_94 (ch se wi pa co n c : Nat) (nm lg : ByteArray) (wt : Bool) (A : Option Addr) (w : World) :
    Calls Tryd.prog 14 #[.agg #[.int .i64 94, .int .u32 ch, .int .u32 se, .int .u32 wi, .int .u32 pa, .int .u32 co, .string nm, .string lg, .bool wt, .slice A n c]] w fun e w' => e = .returned (.agg #[.int .i64 94, .int .u32 ch, .int .u32 0, .int .u32 0, .int .u32 0, .int .u32 0, .string ⟨#[]⟩, .string ⟨#[]⟩, .bool false, .slice A n c]) ∧ Below w.heap.size w w' := by
  go_enter Tryd.func14, Tryd.ntmps14
  go_wp2
  go_region
  go_wp2
  refine bodyPost_ret (v := .agg #[.int .i64 94, .int .u32 ch, .int .u32 0, .int .u32 0, .int .u32 0, .int .u32 0, .string ⟨#[]⟩, .string ⟨#[]⟩, .bool false, .slice A n c]) (by simp [results, Tryd.results14, go_sem]) rfl ⟨rfl, ?_⟩
  repeat' first | exact Below.refl _ _ | refine Below.setCell ?_ (by simp; omega) _ | refine Below.drew ?_ | refine Below.alloc ?_ (by simp; omega) _ | refine Below.alloc ?_ (by simp) _
set_option maxHeartbeats 1000000 in
set_option maxRecDepth 100000 in
theorem own17_95 (ch se wi pa co n c : Nat) (nm lg : ByteArray) (wt : Bool) (A : Option Addr) (w : World) :
    Calls Tryd.prog 14 #[.agg #[.int .i64 95, .int .u32 ch, .int .u32 se, .int .u32 wi, .int .u32 pa, .int .u32 co, .string nm, .string lg, .bool wt, .slice A n c]] w fun e w' => e = .returned (.agg #[.int .i64 95, .int .u32 ch, .int .u32 0, .int .u32 0, .int .u32 0, .int .u32 co, .string ⟨#[]⟩, .string ⟨#[]⟩, .bool false, .slice A n c]) ∧ Below w.heap.size w w' := by
  go_enter Tryd.func14, Tryd.ntmps14
  go_wp2
  go_region
  go_wp2
  refine bodyPost_ret (v := .agg #[.int .i64 95, .int .u32 ch, .int .u32 0, .int .u32 0, .int .u32 0, .int .u32 co, .string ⟨#[]⟩, .string ⟨#[]⟩, .bool false, .slice A n c]) (by simp [results, Tryd.results14, go_sem]) rfl ⟨rfl, ?_⟩
  repeat' first | exact Below.refl _ _ | refine Below.setCell ?_ (by simp; omega) _ | refine Below.drew ?_ | refine Below.alloc ?_ (by simp; omega) _ | refine Below.alloc ?_ (by simp) _
set_option maxHeartbeats 1000000 in
set_option maxRecDepth 100000 in
theorem own17_96 (ch se wi pa co n c : Nat) (nm lg : ByteArray) (wt : Bool) (A : Option Addr) (w : World) :
    Calls Tryd.prog 14 #[.agg #[.int .i64 96, .int .u32 ch, .int .u32 se, .int .u32 wi, .int .u32 pa, .int .u32 co, .string nm, .string lg, .bool wt, .slice A n c]] w fun e w' => e = .returned (.agg #[.int .i64 96, .int .u32 ch, .int .u32 0, .int .u32 0, .int .u32 0, .int .u32 0, .string ⟨#[]⟩, .string ⟨#[]⟩, .bool false, .slice none 0 0]) ∧ Below w.heap.size w w' := by
  go_enter Tryd.func14, Tryd.ntmps14
  go_wp2
  refine bodyPost_ret (v := .agg #[.int .i64 96, .int .u32 ch, .int .u32 0, .int .u32 0, .int .u32 0, .int .u32 0, .string ⟨#[]⟩, .string ⟨#[]⟩, .bool false, .slice none 0 0]) (by simp [results, Tryd.results14, go_sem]) rfl ⟨rfl, ?_⟩
  repeat' first | exact Below.refl _ _ | refine Below.setCell ?_ (by simp; omega) _ | refine Below.drew ?_ | refine Below.alloc ?_ (by simp; omega) _ | refine Below.alloc ?_ (by simp) _
set_option maxHeartbeats 1000000 in
set_option maxRecDepth 100000 in
theorem own17_97 (ch se wi pa co n c : Nat) (nm lg : ByteArray) (wt : Bool) (A : Option Addr) (w : World) :
    Calls Tryd.prog 14 #[.agg #[.int .i64 97, .int .u32 ch, .int .u32 se, .int .u32 wi, .int .u32 pa, .int .u32 co, .string nm, .string lg, .bool wt, .slice A n c]] w fun e w' => e = .returned (.agg #[.int .i64 97, .int .u32 ch, .int .u32 0, .int .u32 0, .int .u32 0, .int .u32 0, .string ⟨#[]⟩, .string ⟨#[]⟩, .bool false, .slice none 0 0]) ∧ Below w.heap.size w w' := by
  go_enter Tryd.func14, Tryd.ntmps14
  go_wp2
  refine bodyPost_ret (v := .agg #[.int .i64 97, .int .u32 ch, .int .u32 0, .int .u32 0, .int .u32 0, .int .u32 0, .string ⟨#[]⟩, .string ⟨#[]⟩, .bool false, .slice none 0 0]) (by simp [results, Tryd.results14, go_sem]) rfl ⟨rfl, ?_⟩
  repeat' first | exact Below.refl _ _ | refine Below.setCell ?_ (by simp; omega) _ | refine Below.drew ?_ | refine Below.alloc ?_ (by simp; omega) _ | refine Below.alloc ?_ (by simp) _
set_option maxHeartbeats 1000000 in
set_option maxRecDepth 100000 in
theorem own17_98 (ch se wi pa co n c : Nat) (nm lg : ByteArray) (wt : Bool) (A : Option Addr) (w : World) :
    Calls Tryd.prog 14 #[.agg #[.int .i64 98, .int .u32 ch, .int .u32 se, .int .u32 wi, .int .u32 pa, .int .u32 co, .string nm, .string lg, .bool wt, .slice A n c]] w fun e w' => e = .returned (.agg #[.int .i64 98, .int .u32 ch, .int .u32 0, .int .u32 0, .int .u32 0, .int .u32 0, .string nm, .string ⟨#[]⟩, .bool wt, .slice A n c]) ∧ Below w.heap.size w w' := by
  go_enter Tryd.func14, Tryd.ntmps14
  go_wp2
  go_region
  go_wp2
  refine bodyPost_ret (v := .agg #[.int .i64 98, .int .u32 ch, .int .u32 0, .int .u32 0, .int .u32 0, .int .u32 0, .string nm, .string ⟨#[]⟩, .bool wt, .slice A n c]) (by simp [results, Tryd.results14, go_sem]) rfl ⟨rfl, ?_⟩
  repeat' first | exact Below.refl _ _ | refine Below.setCell ?_ (by simp; omega) _ | refine Below.drew ?_ | refine Below.alloc ?_ (by simp; omega) _ | refine Below.alloc ?_ (by simp) _
set_option maxHeartbeats 1000000 in
set_option maxRecDepth 100000 in
theorem own17_99 (ch se wi pa co n c : Nat) (nm lg : ByteArray) (wt : Bool) (A : Option Addr) (w : World) :
    Calls Tryd.prog 14 #[.agg #[.int .i64 99, .int .u32 ch, .int .u32 se, .int .u32 wi, .int .u32 pa, .int .u32 co, .string nm, .string lg, .bool wt, .slice A n c]] w fun e w' => e = .returned (.agg #[.int .i64 99, .int .u32 ch, .int .u32 0, .int .u32 0, .int .u32 0, .int .u32 0, .string ⟨#[]⟩, .string ⟨#[]⟩, .bool false, .slice none 0 0]) ∧ Below w.heap.size w w' := by
  go_enter Tryd.func14, Tryd.ntmps14
  go_wp2
  refine bodyPost_ret (v := .agg #[.int .i64 99, .int .u32 ch, .int .u32 0, .int .u32 0, .int .u32 0, .int .u32 0, .string ⟨#[]⟩, .string ⟨#[]⟩, .bool false, .slice none 0 0]) (by simp [results, Tryd.results14, go_sem]) rfl ⟨rfl, ?_⟩
  repeat' first | exact Below.refl _ _ | refine Below.setCell ?_ (by simp; omega) _ | refine Below.drew ?_ | refine Below.alloc ?_ (by simp; omega) _ | refine Below.alloc ?_ (by simp) _
set_option maxHeartbeats 1000000 in
set_option maxRecDepth 100000 in
theorem own17_100 (ch se wi pa co n c : Nat) (nm lg : ByteArray) (wt : Bool) (A : Option Addr) (w : World) :
    Calls Tryd.prog 14 #[.agg #[.int .i64 100, .int .u32 ch, .int .u32 se, .int .u32 wi, .int .u32 pa, .int .u32 co, .string nm, .string lg, .bool wt, .slice A n c]] w fun e w' => e = .returned (.agg #[.int .i64 100, .int .u32 ch, .int .u32 0, .int .u32 0, .int .u32 0, .int .u32 0, .string ⟨#[]⟩, .string ⟨#[]⟩, .bool false, .slice none 0 0]) ∧ Below w.heap.size w w' := by
  go_enter Tryd.func14, Tryd.ntmps14
  go_wp2
  refine bodyPost_ret (v := .agg #[.int .i64 100, .int .u32 ch, .int .u32 0, .int .u32 0, .int .u32 0, .int .u32 0, .string ⟨#[]⟩, .string ⟨#[]⟩, .bool false, .slice none 0 0]) (by simp [results, Tryd.results14, go_sem]) rfl ⟨rfl, ?_⟩
  repeat' first | exact Below.refl _ _ | refine Below.setCell ?_ (by simp; omega) _ | refine Below.drew ?_ | refine Below.alloc ?_ (by simp; omega) _ | refine Below.alloc ?_ (by simp) _
set_option maxHeartbeats 1000000 in
set_option maxRecDepth 100000 in
theorem own17_none (kd : Int) (hk : ∀ k : Int, k ∈ tab.map Prod.fst → ¬ kd = k) (ch se wi pa co n c : Nat) (nm lg : ByteArray) (wt : Bool) (A : Option Addr) (w : World) :
    Calls Tryd.prog 14 #[.agg #[.int .i64 kd, .int .u32 ch, .int .u32 se, .int .u32 wi, .int .u32 pa, .int .u32 co, .string nm, .string lg, .bool wt, .slice A n c]] w fun e w' => e = .returned (.agg #[.int .i64 kd, .int .u32 0, .int .u32 0, .int .u32 0, .int .u32 0, .int .u32 0, .string ⟨#[]⟩, .string ⟨#[]⟩, .bool false, .slice none 0 0]) ∧ Below w.heap.size w w' := by
  have h1 : (kd == 1) = false := by simpa using hk 1 (by simp [tab])
  have h80 : (kd == 80) = false := by simpa using hk 80 (by simp [tab])
  have h81 : (kd == 81) = false := by simpa using hk 81 (by simp [tab])
  have h82 : (kd == 82) = false := by simpa using hk 82 (by simp [tab])
  have h90 : (kd == 90) = false := by simpa using hk 90 (by simp [tab])
  have h91 : (kd == 91) = false := by simpa using hk 91 (by simp [tab])
  have h92 : (kd == 92) = false := by simpa using hk 92 (by simp [tab])
  have h93 : (kd == 93) = false := by simpa using hk 93 (by simp [tab])
  have h94 : (kd == 94) = false := by simpa using hk 94 (by simp [tab])
  have h95 : (kd == 95) = false := by simpa using hk 95 (by simp [tab])
  have h96 : (kd == 96) = false := by simpa using hk 96 (by simp [tab])
  have h97 : (kd == 97) = false := by simpa using hk 97 (by simp [tab])
  have h98 : (kd == 98) = false := by simpa using hk 98 (by simp [tab])
  have h99 : (kd == 99) = false := by simpa using hk 99 (by simp [tab])
  have h100 : (kd == 100) = false := by simpa using hk 100 (by simp [tab])
  clear hk
  go_enter Tryd.func14, Tryd.ntmps14
  go_wp2
  refine bodyPost_ret (v := .agg #[.int .i64 kd, .int .u32 0, .int .u32 0, .int .u32 0, .int .u32 0, .int .u32 0, .string ⟨#[]⟩, .string ⟨#[]⟩, .bool false, .slice none 0 0]) (by simp [results, Tryd.results14, go_sem]) rfl ⟨rfl, ?_⟩
  repeat' first | exact Below.refl _ _ | refine Below.setCell ?_ (by simp; omega) _ | refine Below.drew ?_ | refine Below.alloc ?_ (by simp; omega) _ | refine Below.alloc ?_ (by simp) _
theorem look_none {k : Int} : ∀ {l : List (Int × List Pl)}, look k l = none → ∀ a ∈ l.map Prod.fst, ¬ k = a
  | [], _, a, h => by simp at h
  | (b, qs) :: r, h, a, ha => by
    rw [look] at h
    by_cases e : b = k
    · rw [if_pos e] at h; cases h
    · rw [if_neg e] at h
      rcases List.mem_cons.1 ha with rfl | ha
      · exact fun x => e x.symm
      · exact look_none h a ha
theorem own_m (m : Mg) (A : Option Addr) (c base : Nat) (w : World) (hd : TK w base A c m.data) :
    Calls Tryd.prog 14 #[.agg (m.cells A c)] w fun e w' => ∃ A' c', e = .returned (.agg ((ownM m).cells A' c')) ∧ Below w.heap.size w w' ∧ TK w' base A' c' (ownM m).data := by
  obtain ⟨x, hx⟩ : ∃ x, look m.kind tab = x := ⟨_, rfl⟩
  cases x with
  | none =>
    refine (own17_none m.kind (look_none hx) m.chan m.sender m.window m.packet m.code m.data.length c m.name m.lang m.want A w).mono ?_
    rintro e w' ⟨rfl, hb⟩
    have e : ownM m = { zeroM with kind := m.kind } := by rw [ownM, hx]
    rw [e]
    exact ⟨none, 0, rfl, hb, TK.nil_ _ _⟩
  | some ps =>
    have hmem := look_mem hx
    have e0 : ownM m = mvs m ps { zeroM with kind := m.kind } := by rw [ownM, hx]
    rw [e0]
    clear e0 hx
    obtain ⟨kd, ch, se, wi, pa, co, nm, lg, wt, dt⟩ := m
    simp only at hmem hd
    simp only [tab, List.mem_cons, List.mem_nil_iff, or_false, Prod.mk.injEq] at hmem
    rcases hmem with ⟨rfl, rfl⟩ | ⟨rfl, rfl⟩ | ⟨rfl, rfl⟩ | ⟨rfl, rfl⟩ | ⟨rfl, rfl⟩ | ⟨rfl, rfl⟩ | ⟨rfl, rfl⟩ | ⟨rfl, rfl⟩ | ⟨rfl, rfl⟩ | ⟨rfl, rfl⟩ | ⟨rfl, rfl⟩ | ⟨rfl, rfl⟩ | ⟨rfl, rfl⟩ | ⟨rfl, rfl⟩ | ⟨rfl, rfl⟩
    · refine (own17_1 ch se wi pa co dt.length c nm lg wt A w).mono ?_
      rintro e w' ⟨rfl, hb⟩
      exact ⟨A, c, rfl, hb, hd.below hb⟩
    · refine (own17_80 ch se wi pa co dt.length c nm lg wt A w).mono ?_
      rintro e w' ⟨rfl, hb⟩
      exact ⟨A, c, rfl, hb, hd.below hb⟩
    · refine (own17_81 ch se wi pa co dt.length c nm lg wt A w).mono ?_
      rintro e w' ⟨rfl, hb⟩
      exact ⟨A, c, rfl, hb, hd.below hb⟩
    · refine (own17_82 ch se wi pa co dt.length c nm lg wt A w).mono ?_
      rintro e w' ⟨rfl, hb⟩
      exact ⟨none, 0, rfl, hb, TK.nil_ _ _⟩
    · refine (own17_90 ch se wi pa co dt.length c nm lg wt A w).mono ?_
      rintro e w' ⟨rfl, hb⟩
      exact ⟨A, c, rfl, hb, hd.below hb⟩
    · refine (own17_91 ch se wi pa co dt.length c nm lg wt A w).mono ?_
      rintro e w' ⟨rfl, hb⟩
      exact ⟨A, c, rfl, hb, hd.below hb⟩
    · refine (own17_92 ch se wi pa co dt.length c nm lg wt A w).mono ?_
      rintro e w' ⟨rfl, hb⟩
      exact ⟨A, c, rfl, hb, hd.below hb⟩
    · refine (own17_93 ch se wi pa co dt.length c nm lg wt A w).mono ?_
      rintro e w' ⟨rfl, hb⟩
      exact ⟨none, 0, rfl, hb, TK.nil_ _ _⟩
    · refine (own17_94 ch se wi pa co dt.length c nm lg wt A w).mono ?_
      rintro e w' ⟨rfl, hb⟩
      exact ⟨A, c, rfl, hb, hd.below hb⟩
    · refine (own17_95 ch se wi pa co dt.length c nm lg wt A w).mono ?_
      rintro e w' ⟨rfl, hb⟩
      exact ⟨A, c, rfl, hb, hd.below hb⟩
    · refine (own17_96 ch se wi pa co dt.length c nm lg wt A w).mono ?_
      rintro e w' ⟨rfl, hb⟩
      exact ⟨none, 0, rfl, hb, TK.nil_ _ _⟩
    · refine (own17_97 ch se wi pa co dt.length c nm lg wt A w).mono ?_
      rintro e w' ⟨rfl, hb⟩
      exact ⟨none, 0, rfl, hb, TK.nil_ _ _⟩
    · refine (own17_98 ch se wi pa co dt.length c nm lg wt A w).mono ?_
      rintro e w' ⟨rfl, hb⟩
      exact ⟨A, c, rfl, hb, hd.below hb⟩
    · refine (own17_99 ch se wi pa co dt.length c nm lg wt A w).mono ?_
      rintro e w' ⟨rfl, hb⟩
      exact ⟨none, 0, rfl, hb, TK.nil_ _ _⟩
    · refine (own17_100 ch se wi pa co dt.length c nm lg wt A w).mono ?_
      rintro e w' ⟨rfl, hb⟩
      exact ⟨none, 0, rfl, hb, TK.nil_ _ _⟩

end Go.Proofs.YtdplngplljejhaaDoor
