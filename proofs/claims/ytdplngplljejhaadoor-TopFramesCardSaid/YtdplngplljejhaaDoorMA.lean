import Derived.Test.YtdplngplljejhaaDoorWC
import Derived.Lib.ConvBytes
namespace Go.Proofs.YtdplngplljejhaaDoor
open Go.RowKit

/-- A message as the program has it. -/
structure Mg where
  kind : Int
  chan : Nat
  sender : Nat
  window : Nat
  packet : Nat
  code : Nat
  name : ByteArray
  lang : ByteArray
  want : Bool
  data : List UInt8

def wordByte (c : UInt8) : Bool := decide (33 ≤ c.toNat) && decide (c.toNat ≤ 126)
def wordOk (least : Nat) (s : ByteArray) : Bool := decide (least ≤ s.size) && decide (s.size ≤ 64) && s.data.toList.all wordByte

/-- Where a field of a packet goes. -/
inductive Pl where
  | code
  | text
  | lang
  | name
  | want
  | rest
  | sender
  | window
  | packet
  | chan

namespace Pl
def fn : Pl → Nat
  | code => 78 | text => 79 | lang => 80 | name => 81 | want => 82 | rest => 83 | sender => 84 | window => 85 | packet => 86 | chan => 87
def kind : Pl → Int
  | code => 3 | text => 4 | lang => 4 | name => 4 | want => 2 | rest => 6 | sender => 3 | window => 3 | packet => 3 | chan => 3
def getN : Pl → Nat
  | code => 115 | text => 117 | lang => 119 | name => 119 | want => 107 | rest => 117 | sender => 115 | window => 115 | packet => 115 | chan => 115
def putN : Pl → Nat
  | code => 116 | text => 118 | lang => 120 | name => 120 | want => 108 | rest => 118 | sender => 116 | window => 116 | packet => 116 | chan => 116
def recv (g : Nat) : Pl → Value
  | code => .agg #[.pointer (some ⟨g, 5, none⟩)]
  | text => .agg #[.pointer (some ⟨g, 9, none⟩)]
  | lang => .agg #[.pointer (some ⟨g, 7, none⟩), .int .i64 0]
  | name => .agg #[.pointer (some ⟨g, 6, none⟩), .int .i64 1]
  | want => .agg #[.pointer (some ⟨g, 8, none⟩)]
  | rest => .agg #[.pointer (some ⟨g, 9, none⟩)]
  | sender => .agg #[.pointer (some ⟨g, 2, none⟩)]
  | window => .agg #[.pointer (some ⟨g, 3, none⟩)]
  | packet => .agg #[.pointer (some ⟨g, 4, none⟩)]
  | chan => .agg #[.pointer (some ⟨g, 1, none⟩)]
def getV (g : Nat) (p : Pl) : Value := .func (.func p.getN) #[p.recv g] #[]
def putV (g : Nat) (p : Pl) : Value := .func (.func p.putN) #[p.recv g] #[]
def slotV (g : Nat) (p : Pl) : Value := .agg #[.int .i64 p.kind, p.getV g, p.putV g]
end Pl

def SlotR (p : Pl) (g : Nat) (w : World) (e : Ending) (w' : World) : Prop := e = .returned (p.slotV g) ∧ Below w.heap.size w w'

set_option maxHeartbeats 400000 in
set_option maxRecDepth 100000 in
theorem slot66 (a : Addr) (w : World) :
    Calls Tryd.prog 104 #[.agg #[.pointer (some a)]] w fun e w' => e = .returned (.agg #[.int .i64 3, .func (.func 115) #[.agg #[.pointer (some a)]] #[], .func (.func 116) #[.agg #[.pointer (some a)]] #[]]) ∧ Below w.heap.size w w' := by
  have hmf : ∀ (fn : Fn) (first cap : Array Value) (w : World), (Instr.makeFunc fn first cap).run Tryd.prog w = .ok (.func fn first cap) w := fun _ _ _ _ => rfl
  have h1 : ∀ (w : World) (a : Addr) (m : Mode) (f : Fn) (xs ys : Array Value), (store a (.func f xs ys) m).run Tryd.prog w = stored Tryd.prog w a (.func f xs ys) m := fun w a m f xs ys => run_store Tryd.prog w a _ m rfl
  go_enter Tryd.func104, Tryd.ntmps104
  go_wp2
  exact bodyPost_ret (v := .agg #[.int .i64 3, .func (.func 115) #[.agg #[.pointer (some a)]] #[], .func (.func 116) #[.agg #[.pointer (some a)]] #[]]) (by simp [results, Tryd.results104, go_sem]) rfl ⟨rfl, ((Below.refl _ _).alloc (Nat.le_refl _) _).alloc (by simp) _⟩

set_option maxHeartbeats 400000 in
set_option maxRecDepth 100000 in
theorem slot68 (a : Addr) (l : Int) (w : World) :
    Calls Tryd.prog 106 #[.agg #[.pointer (some a), .int .i64 l]] w fun e w' => e = .returned (.agg #[.int .i64 4, .func (.func 119) #[.agg #[.pointer (some a), .int .i64 l]] #[], .func (.func 120) #[.agg #[.pointer (some a), .int .i64 l]] #[]]) ∧ Below w.heap.size w w' := by
  have hmf : ∀ (fn : Fn) (first cap : Array Value) (w : World), (Instr.makeFunc fn first cap).run Tryd.prog w = .ok (.func fn first cap) w := fun _ _ _ _ => rfl
  have h1 : ∀ (w : World) (a : Addr) (m : Mode) (f : Fn) (xs ys : Array Value), (store a (.func f xs ys) m).run Tryd.prog w = stored Tryd.prog w a (.func f xs ys) m := fun w a m f xs ys => run_store Tryd.prog w a _ m rfl
  go_enter Tryd.func106, Tryd.ntmps106
  go_wp2
  exact bodyPost_ret (v := .agg #[.int .i64 4, .func (.func 119) #[.agg #[.pointer (some a), .int .i64 l]] #[], .func (.func 120) #[.agg #[.pointer (some a), .int .i64 l]] #[]]) (by simp [results, Tryd.results106, go_sem]) rfl ⟨rfl, ((Below.refl _ _).alloc (Nat.le_refl _) _).alloc (by simp) _⟩

set_option maxHeartbeats 400000 in
set_option maxRecDepth 100000 in
theorem slot67 (g : Nat) (k : Int) (w : World) :
    Calls Tryd.prog 105 #[.pointer (some ⟨g, 0, none⟩), .int .i64 k] w fun e w' => e = .returned (.agg #[.int .i64 k, .func (.func 117) #[.agg #[.pointer (some ⟨g, 9, none⟩)]] #[], .func (.func 118) #[.agg #[.pointer (some ⟨g, 9, none⟩)]] #[]]) ∧ Below w.heap.size w w' := by
  have hmf : ∀ (fn : Fn) (first cap : Array Value) (w : World), (Instr.makeFunc fn first cap).run Tryd.prog w = .ok (.func fn first cap) w := fun _ _ _ _ => rfl
  have h1 : ∀ (w : World) (a : Addr) (m : Mode) (f : Fn) (xs ys : Array Value), (store a (.func f xs ys) m).run Tryd.prog w = stored Tryd.prog w a (.func f xs ys) m := fun w a m f xs ys => run_store Tryd.prog w a _ m rfl
  go_enter Tryd.func105, Tryd.ntmps105
  go_wp2
  exact bodyPost_ret (v := .agg #[.int .i64 k, .func (.func 117) #[.agg #[.pointer (some ⟨g, 9, none⟩)]] #[], .func (.func 118) #[.agg #[.pointer (some ⟨g, 9, none⟩)]] #[]]) (by simp [results, Tryd.results105, go_sem]) rfl ⟨rfl, ((Below.refl _ _).alloc (Nat.le_refl _) _).alloc (by simp) _⟩

set_option maxHeartbeats 400000 in
set_option maxRecDepth 100000 in
theorem slot43 (g : Nat) (w : World) :
    Calls Tryd.prog 82 #[.pointer (some ⟨g, 0, none⟩)] w fun e w' => e = .returned (.agg #[.int .i64 2, .func (.func 107) #[.agg #[.pointer (some ⟨g, 8, none⟩)]] #[], .func (.func 108) #[.agg #[.pointer (some ⟨g, 8, none⟩)]] #[]]) ∧ Below w.heap.size w w' := by
  have hmf : ∀ (fn : Fn) (first cap : Array Value) (w : World), (Instr.makeFunc fn first cap).run Tryd.prog w = .ok (.func fn first cap) w := fun _ _ _ _ => rfl
  have h1 : ∀ (w : World) (a : Addr) (m : Mode) (f : Fn) (xs ys : Array Value), (store a (.func f xs ys) m).run Tryd.prog w = stored Tryd.prog w a (.func f xs ys) m := fun w a m f xs ys => run_store Tryd.prog w a _ m rfl
  go_enter Tryd.func82, Tryd.ntmps82
  go_wp2
  exact bodyPost_ret (v := .agg #[.int .i64 2, .func (.func 107) #[.agg #[.pointer (some ⟨g, 8, none⟩)]] #[], .func (.func 108) #[.agg #[.pointer (some ⟨g, 8, none⟩)]] #[]]) (by simp [results, Tryd.results82, go_sem]) rfl ⟨rfl, ((Below.refl _ _).alloc (Nat.le_refl _) _).alloc (by simp) _⟩

set_option maxHeartbeats 400000 in
set_option maxRecDepth 100000 in
theorem place39 (g : Nat) (w : World) : Calls Tryd.prog 78 #[.pointer (some ⟨g, 0, none⟩)] w (SlotR .code g w) := by
  have h1 : ∀ (w : World) (a : Addr) (m : Mode) (f : Fn) (xs ys : Array Value), (store a (.func f xs ys) m).run Tryd.prog w = stored Tryd.prog w a (.func f xs ys) m := fun w a m f xs ys => run_store Tryd.prog w a _ m rfl
  go_enter Tryd.func78, Tryd.ntmps78
  go_wp2_with (
    go_at_call 104; refine (slot66 ⟨g, 5, none⟩ _).mono ?_
    rintro e w' ⟨rfl, hb⟩
    have hx : Box w' w.heap.size 95 #[.int .i64 0, .nilFunc, .nilFunc] := (Box.new w 95 _).same (hb.block _ (by simp))
    have d0 : w'.cell? ⟨w.heap.size, 0, none⟩ = some (.int .i64 0) := hx.cell 0
    have d1 : w'.cell? ⟨w.heap.size, 1, none⟩ = some .nilFunc := hx.cell 1
    have d2 : w'.cell? ⟨w.heap.size, 2, none⟩ = some .nilFunc := hx.cell 2
    have f0 : w'.frozen? ⟨w.heap.size, 0, none⟩ = false := hx.frozen 0
    have f1 : w'.frozen? ⟨w.heap.size, 1, none⟩ = false := hx.frozen 1
    have f2 : w'.frozen? ⟨w.heap.size, 2, none⟩ = false := hx.frozen 2
    have hbb : Below w.heap.size w w' := ((Below.refl _ _).alloc (Nat.le_refl _) _).trans (hb.mono (by simp))
    have HB := hid hbb
    clear hb hbb hx)
  refine bodyPost_ret (v := Pl.slotV g .code) (by simp [results, Tryd.results78, go_sem, d0, d1, d2, Pl.slotV, Pl.getV, Pl.putV, Pl.getN, Pl.putN, Pl.recv, Pl.kind]) rfl ⟨rfl, ?_⟩
  exact ((HB.out.setCell (Nat.le_refl _) _).setCell (Nat.le_refl _) _).setCell (Nat.le_refl _) _

set_option maxHeartbeats 400000 in
set_option maxRecDepth 100000 in
theorem place45 (g : Nat) (w : World) : Calls Tryd.prog 84 #[.pointer (some ⟨g, 0, none⟩)] w (SlotR .sender g w) := by
  have h1 : ∀ (w : World) (a : Addr) (m : Mode) (f : Fn) (xs ys : Array Value), (store a (.func f xs ys) m).run Tryd.prog w = stored Tryd.prog w a (.func f xs ys) m := fun w a m f xs ys => run_store Tryd.prog w a _ m rfl
  go_enter Tryd.func84, Tryd.ntmps84
  go_wp2_with (
    go_at_call 104; refine (slot66 ⟨g, 2, none⟩ _).mono ?_
    rintro e w' ⟨rfl, hb⟩
    have hx : Box w' w.heap.size 95 #[.int .i64 0, .nilFunc, .nilFunc] := (Box.new w 95 _).same (hb.block _ (by simp))
    have d0 : w'.cell? ⟨w.heap.size, 0, none⟩ = some (.int .i64 0) := hx.cell 0
    have d1 : w'.cell? ⟨w.heap.size, 1, none⟩ = some .nilFunc := hx.cell 1
    have d2 : w'.cell? ⟨w.heap.size, 2, none⟩ = some .nilFunc := hx.cell 2
    have f0 : w'.frozen? ⟨w.heap.size, 0, none⟩ = false := hx.frozen 0
    have f1 : w'.frozen? ⟨w.heap.size, 1, none⟩ = false := hx.frozen 1
    have f2 : w'.frozen? ⟨w.heap.size, 2, none⟩ = false := hx.frozen 2
    have hbb : Below w.heap.size w w' := ((Below.refl _ _).alloc (Nat.le_refl _) _).trans (hb.mono (by simp))
    have HB := hid hbb
    clear hb hbb hx)
  refine bodyPost_ret (v := Pl.slotV g .sender) (by simp [results, Tryd.results84, go_sem, d0, d1, d2, Pl.slotV, Pl.getV, Pl.putV, Pl.getN, Pl.putN, Pl.recv, Pl.kind]) rfl ⟨rfl, ?_⟩
  exact ((HB.out.setCell (Nat.le_refl _) _).setCell (Nat.le_refl _) _).setCell (Nat.le_refl _) _

set_option maxHeartbeats 400000 in
set_option maxRecDepth 100000 in
theorem place46 (g : Nat) (w : World) : Calls Tryd.prog 85 #[.pointer (some ⟨g, 0, none⟩)] w (SlotR .window g w) := by
  have h1 : ∀ (w : World) (a : Addr) (m : Mode) (f : Fn) (xs ys : Array Value), (store a (.func f xs ys) m).run Tryd.prog w = stored Tryd.prog w a (.func f xs ys) m := fun w a m f xs ys => run_store Tryd.prog w a _ m rfl
  go_enter Tryd.func85, Tryd.ntmps85
  go_wp2_with (
    go_at_call 104; refine (slot66 ⟨g, 3, none⟩ _).mono ?_
    rintro e w' ⟨rfl, hb⟩
    have hx : Box w' w.heap.size 95 #[.int .i64 0, .nilFunc, .nilFunc] := (Box.new w 95 _).same (hb.block _ (by simp))
    have d0 : w'.cell? ⟨w.heap.size, 0, none⟩ = some (.int .i64 0) := hx.cell 0
    have d1 : w'.cell? ⟨w.heap.size, 1, none⟩ = some .nilFunc := hx.cell 1
    have d2 : w'.cell? ⟨w.heap.size, 2, none⟩ = some .nilFunc := hx.cell 2
    have f0 : w'.frozen? ⟨w.heap.size, 0, none⟩ = false := hx.frozen 0
    have f1 : w'.frozen? ⟨w.heap.size, 1, none⟩ = false := hx.frozen 1
    have f2 : w'.frozen? ⟨w.heap.size, 2, none⟩ = false := hx.frozen 2
    have hbb : Below w.heap.size w w' := ((Below.refl _ _).alloc (Nat.le_refl _) _).trans (hb.mono (by simp))
    have HB := hid hbb
    clear hb hbb hx)
  refine bodyPost_ret (v := Pl.slotV g .window) (by simp [results, Tryd.results85, go_sem, d0, d1, d2, Pl.slotV, Pl.getV, Pl.putV, Pl.getN, Pl.putN, Pl.recv, Pl.kind]) rfl ⟨rfl, ?_⟩
  exact ((HB.out.setCell (Nat.le_refl _) _).setCell (Nat.le_refl _) _).setCell (Nat.le_refl _) _

set_option maxHeartbeats 400000 in
set_option maxRecDepth 100000 in
theorem place47 (g : Nat) (w : World) : Calls Tryd.prog 86 #[.pointer (some ⟨g, 0, none⟩)] w (SlotR .packet g w) := by
  have h1 : ∀ (w : World) (a : Addr) (m : Mode) (f : Fn) (xs ys : Array Value), (store a (.func f xs ys) m).run Tryd.prog w = stored Tryd.prog w a (.func f xs ys) m := fun w a m f xs ys => run_store Tryd.prog w a _ m rfl
  go_enter Tryd.func86, Tryd.ntmps86
  go_wp2_with (
    go_at_call 104; refine (slot66 ⟨g, 4, none⟩ _).mono ?_
    rintro e w' ⟨rfl, hb⟩
    have hx : Box w' w.heap.size 95 #[.int .i64 0, .nilFunc, .nilFunc] := (Box.new w 95 _).same (hb.block _ (by simp))
    have d0 : w'.cell? ⟨w.heap.size, 0, none⟩ = some (.int .i64 0) := hx.cell 0
    have d1 : w'.cell? ⟨w.heap.size, 1, none⟩ = some .nilFunc := hx.cell 1
    have d2 : w'.cell? ⟨w.heap.size, 2, none⟩ = some .nilFunc := hx.cell 2
    have f0 : w'.frozen? ⟨w.heap.size, 0, none⟩ = false := hx.frozen 0
    have f1 : w'.frozen? ⟨w.heap.size, 1, none⟩ = false := hx.frozen 1
    have f2 : w'.frozen? ⟨w.heap.size, 2, none⟩ = false := hx.frozen 2
    have hbb : Below w.heap.size w w' := ((Below.refl _ _).alloc (Nat.le_refl _) _).trans (hb.mono (by simp))
    have HB := hid hbb
    clear hb hbb hx)
  refine bodyPost_ret (v := Pl.slotV g .packet) (by simp [results, Tryd.results86, go_sem, d0, d1, d2, Pl.slotV, Pl.getV, Pl.putV, Pl.getN, Pl.putN, Pl.recv, Pl.kind]) rfl ⟨rfl, ?_⟩
  exact ((HB.out.setCell (Nat.le_refl _) _).setCell (Nat.le_refl _) _).setCell (Nat.le_refl _) _

set_option maxHeartbeats 400000 in
set_option maxRecDepth 100000 in
theorem place48 (g : Nat) (w : World) : Calls Tryd.prog 87 #[.pointer (some ⟨g, 0, none⟩)] w (SlotR .chan g w) := by
  have h1 : ∀ (w : World) (a : Addr) (m : Mode) (f : Fn) (xs ys : Array Value), (store a (.func f xs ys) m).run Tryd.prog w = stored Tryd.prog w a (.func f xs ys) m := fun w a m f xs ys => run_store Tryd.prog w a _ m rfl
  go_enter Tryd.func87, Tryd.ntmps87
  go_wp2_with (
    go_at_call 104; refine (slot66 ⟨g, 1, none⟩ _).mono ?_
    rintro e w' ⟨rfl, hb⟩
    have hx : Box w' w.heap.size 95 #[.int .i64 0, .nilFunc, .nilFunc] := (Box.new w 95 _).same (hb.block _ (by simp))
    have d0 : w'.cell? ⟨w.heap.size, 0, none⟩ = some (.int .i64 0) := hx.cell 0
    have d1 : w'.cell? ⟨w.heap.size, 1, none⟩ = some .nilFunc := hx.cell 1
    have d2 : w'.cell? ⟨w.heap.size, 2, none⟩ = some .nilFunc := hx.cell 2
    have f0 : w'.frozen? ⟨w.heap.size, 0, none⟩ = false := hx.frozen 0
    have f1 : w'.frozen? ⟨w.heap.size, 1, none⟩ = false := hx.frozen 1
    have f2 : w'.frozen? ⟨w.heap.size, 2, none⟩ = false := hx.frozen 2
    have hbb : Below w.heap.size w w' := ((Below.refl _ _).alloc (Nat.le_refl _) _).trans (hb.mono (by simp))
    have HB := hid hbb
    clear hb hbb hx)
  refine bodyPost_ret (v := Pl.slotV g .chan) (by simp [results, Tryd.results87, go_sem, d0, d1, d2, Pl.slotV, Pl.getV, Pl.putV, Pl.getN, Pl.putN, Pl.recv, Pl.kind]) rfl ⟨rfl, ?_⟩
  exact ((HB.out.setCell (Nat.le_refl _) _).setCell (Nat.le_refl _) _).setCell (Nat.le_refl _) _

set_option maxHeartbeats 400000 in
set_option maxRecDepth 100000 in
theorem place41 (g : Nat) (w : World) : Calls Tryd.prog 80 #[.pointer (some ⟨g, 0, none⟩)] w (SlotR .lang g w) := by
  have h1 : ∀ (w : World) (a : Addr) (m : Mode) (f : Fn) (xs ys : Array Value), (store a (.func f xs ys) m).run Tryd.prog w = stored Tryd.prog w a (.func f xs ys) m := fun w a m f xs ys => run_store Tryd.prog w a _ m rfl
  go_enter Tryd.func80, Tryd.ntmps80
  go_wp2_with (
    go_at_call 106; refine (slot68 ⟨g, 7, none⟩ 0 _).mono ?_
    rintro e w' ⟨rfl, hb⟩
    have hx : Box w' w.heap.size 95 #[.int .i64 0, .nilFunc, .nilFunc] := (Box.new w 95 _).same (hb.block _ (by simp))
    have d0 : w'.cell? ⟨w.heap.size, 0, none⟩ = some (.int .i64 0) := hx.cell 0
    have d1 : w'.cell? ⟨w.heap.size, 1, none⟩ = some .nilFunc := hx.cell 1
    have d2 : w'.cell? ⟨w.heap.size, 2, none⟩ = some .nilFunc := hx.cell 2
    have f0 : w'.frozen? ⟨w.heap.size, 0, none⟩ = false := hx.frozen 0
    have f1 : w'.frozen? ⟨w.heap.size, 1, none⟩ = false := hx.frozen 1
    have f2 : w'.frozen? ⟨w.heap.size, 2, none⟩ = false := hx.frozen 2
    have hbb : Below w.heap.size w w' := ((Below.refl _ _).alloc (Nat.le_refl _) _).trans (hb.mono (by simp))
    have HB := hid hbb
    clear hb hbb hx)
  refine bodyPost_ret (v := Pl.slotV g .lang) (by simp [results, Tryd.results80, go_sem, d0, d1, d2, Pl.slotV, Pl.getV, Pl.putV, Pl.getN, Pl.putN, Pl.recv, Pl.kind]) rfl ⟨rfl, ?_⟩
  exact ((HB.out.setCell (Nat.le_refl _) _).setCell (Nat.le_refl _) _).setCell (Nat.le_refl _) _

set_option maxHeartbeats 400000 in
set_option maxRecDepth 100000 in
theorem place42 (g : Nat) (w : World) : Calls Tryd.prog 81 #[.pointer (some ⟨g, 0, none⟩)] w (SlotR .name g w) := by
  have h1 : ∀ (w : World) (a : Addr) (m : Mode) (f : Fn) (xs ys : Array Value), (store a (.func f xs ys) m).run Tryd.prog w = stored Tryd.prog w a (.func f xs ys) m := fun w a m f xs ys => run_store Tryd.prog w a _ m rfl
  go_enter Tryd.func81, Tryd.ntmps81
  go_wp2_with (
    go_at_call 106; refine (slot68 ⟨g, 6, none⟩ 1 _).mono ?_
    rintro e w' ⟨rfl, hb⟩
    have hx : Box w' w.heap.size 95 #[.int .i64 0, .nilFunc, .nilFunc] := (Box.new w 95 _).same (hb.block _ (by simp))
    have d0 : w'.cell? ⟨w.heap.size, 0, none⟩ = some (.int .i64 0) := hx.cell 0
    have d1 : w'.cell? ⟨w.heap.size, 1, none⟩ = some .nilFunc := hx.cell 1
    have d2 : w'.cell? ⟨w.heap.size, 2, none⟩ = some .nilFunc := hx.cell 2
    have f0 : w'.frozen? ⟨w.heap.size, 0, none⟩ = false := hx.frozen 0
    have f1 : w'.frozen? ⟨w.heap.size, 1, none⟩ = false := hx.frozen 1
    have f2 : w'.frozen? ⟨w.heap.size, 2, none⟩ = false := hx.frozen 2
    have hbb : Below w.heap.size w w' := ((Below.refl _ _).alloc (Nat.le_refl _) _).trans (hb.mono (by simp))
    have HB := hid hbb
    clear hb hbb hx)
  refine bodyPost_ret (v := Pl.slotV g .name) (by simp [results, Tryd.results81, go_sem, d0, d1, d2, Pl.slotV, Pl.getV, Pl.putV, Pl.getN, Pl.putN, Pl.recv, Pl.kind]) rfl ⟨rfl, ?_⟩
  exact ((HB.out.setCell (Nat.le_refl _) _).setCell (Nat.le_refl _) _).setCell (Nat.le_refl _) _

set_option maxHeartbeats 400000 in
set_option maxRecDepth 100000 in
theorem place40 (g : Nat) (w : World) : Calls Tryd.prog 79 #[.pointer (some ⟨g, 0, none⟩)] w (SlotR .text g w) := by
  have h1 : ∀ (w : World) (a : Addr) (m : Mode) (f : Fn) (xs ys : Array Value), (store a (.func f xs ys) m).run Tryd.prog w = stored Tryd.prog w a (.func f xs ys) m := fun w a m f xs ys => run_store Tryd.prog w a _ m rfl
  go_enter Tryd.func79, Tryd.ntmps79
  go_wp2_with (
    go_at_call 105; refine (slot67 g 4 _).mono ?_
    rintro e w' ⟨rfl, hb⟩
    have hx : Box w' w.heap.size 95 #[.int .i64 0, .nilFunc, .nilFunc] := (Box.new w 95 _).same (hb.block _ (by simp))
    have d0 : w'.cell? ⟨w.heap.size, 0, none⟩ = some (.int .i64 0) := hx.cell 0
    have d1 : w'.cell? ⟨w.heap.size, 1, none⟩ = some .nilFunc := hx.cell 1
    have d2 : w'.cell? ⟨w.heap.size, 2, none⟩ = some .nilFunc := hx.cell 2
    have f0 : w'.frozen? ⟨w.heap.size, 0, none⟩ = false := hx.frozen 0
    have f1 : w'.frozen? ⟨w.heap.size, 1, none⟩ = false := hx.frozen 1
    have f2 : w'.frozen? ⟨w.heap.size, 2, none⟩ = false := hx.frozen 2
    have hbb : Below w.heap.size w w' := ((Below.refl _ _).alloc (Nat.le_refl _) _).trans (hb.mono (by simp))
    have HB := hid hbb
    clear hb hbb hx)
  refine bodyPost_ret (v := Pl.slotV g .text) (by simp [results, Tryd.results79, go_sem, d0, d1, d2, Pl.slotV, Pl.getV, Pl.putV, Pl.getN, Pl.putN, Pl.recv, Pl.kind]) rfl ⟨rfl, ?_⟩
  exact ((HB.out.setCell (Nat.le_refl _) _).setCell (Nat.le_refl _) _).setCell (Nat.le_refl _) _

set_option maxHeartbeats 400000 in
set_option maxRecDepth 100000 in
theorem place44 (g : Nat) (w : World) : Calls Tryd.prog 83 #[.pointer (some ⟨g, 0, none⟩)] w (SlotR .rest g w) := by
  have h1 : ∀ (w : World) (a : Addr) (m : Mode) (f : Fn) (xs ys : Array Value), (store a (.func f xs ys) m).run Tryd.prog w = stored Tryd.prog w a (.func f xs ys) m := fun w a m f xs ys => run_store Tryd.prog w a _ m rfl
  go_enter Tryd.func83, Tryd.ntmps83
  go_wp2_with (
    go_at_call 105; refine (slot67 g 6 _).mono ?_
    rintro e w' ⟨rfl, hb⟩
    have hx : Box w' w.heap.size 95 #[.int .i64 0, .nilFunc, .nilFunc] := (Box.new w 95 _).same (hb.block _ (by simp))
    have d0 : w'.cell? ⟨w.heap.size, 0, none⟩ = some (.int .i64 0) := hx.cell 0
    have d1 : w'.cell? ⟨w.heap.size, 1, none⟩ = some .nilFunc := hx.cell 1
    have d2 : w'.cell? ⟨w.heap.size, 2, none⟩ = some .nilFunc := hx.cell 2
    have f0 : w'.frozen? ⟨w.heap.size, 0, none⟩ = false := hx.frozen 0
    have f1 : w'.frozen? ⟨w.heap.size, 1, none⟩ = false := hx.frozen 1
    have f2 : w'.frozen? ⟨w.heap.size, 2, none⟩ = false := hx.frozen 2
    have hbb : Below w.heap.size w w' := ((Below.refl _ _).alloc (Nat.le_refl _) _).trans (hb.mono (by simp))
    have HB := hid hbb
    clear hb hbb hx)
  refine bodyPost_ret (v := Pl.slotV g .rest) (by simp [results, Tryd.results83, go_sem, d0, d1, d2, Pl.slotV, Pl.getV, Pl.putV, Pl.getN, Pl.putN, Pl.recv, Pl.kind]) rfl ⟨rfl, ?_⟩
  exact ((HB.out.setCell (Nat.le_refl _) _).setCell (Nat.le_refl _) _).setCell (Nat.le_refl _) _

theorem place_any (p : Pl) (g : Nat) (w : World) : Calls Tryd.prog p.fn #[.pointer (some ⟨g, 0, none⟩)] w (SlotR p g w) := by
  cases p with
  | code => exact place39 g w
  | text => exact place40 g w
  | lang => exact place41 g w
  | name => exact place42 g w
  | want => exact slot43 g w
  | rest => exact place44 g w
  | sender => exact place45 g w
  | window => exact place46 g w
  | packet => exact place47 g w
  | chan => exact place48 g w

end Go.Proofs.YtdplngplljejhaaDoor
