import Derived.Test.YtggcampdkgfmgaaJB
import Derived.Deep.DeepCutAuto
import Derived.Laws.EntriesVeiled
namespace Go.Proofs.Ytggcampdkgfmgaa.L15
open Go.RowKit

/-! Layer 15's maths, and the document's Typed. -/
def isC (t : Tm) (op : Int) (c : UInt8) : Bool := chB t op && decide (c = chV t op)
def toldF (t : Tm) (op : Int) : List UInt8 := if chB t op = true then [chV t op] else []
def typedF (t : Tm) (s h : Bool) (c : UInt8) : (Bool × Bool) × Bool :=
  if hasN t.f 38 = false then ((s, h), false)
  else if isC t 8 c = true then (if isC t 9 c = true then ((!s, h), true) else ((false, h), true))
  else if isC t 9 c = true then ((true, h), true) else if hasN t.f 39 = true then ((false, h), false) else ((s, h), false)
def markF (t : Tm) (s h : Bool) (used low high : Int) : (Bool × Bool) × List UInt8 :=
  if h = false then (if hasN t.f 40 = true ∧ high ≤ used then ((s, true), toldF t 9) else ((s, h), []))
  else if low < used then ((s, h), []) else if hasN t.f 40 = true then ((s, false), toldF t 8) else ((s, false), [])
def askF (t : Tm) (s h : Bool) (what : Int) : (Bool × Bool) × List UInt8 × Int :=
  if what = 1 then ((true, h), [], 0) else if what = 2 then ((false, h), [], 0) else if what = 3 then ((s, h), toldF t 9, 0) else if what = 4 then ((s, h), toldF t 8, 0) else ((false, false), [], 2)
end Go.Proofs.Ytggcampdkgfmgaa.L15
