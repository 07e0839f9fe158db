import Derived.Test.YtfpkjocoifoigaaGreatDoorMH
namespace Go.Proofs.YtfpkjocoifoigaaGreatDoor
open Go.RowKit

namespace Pl
/-- One field of m put into x. -/
def mv (m x : Mg) : Pl → Mg
  | code => { x with code := m.code }
  | text => { x with data := m.data }
  | lang => { x with lang := m.lang }
  | name => { x with name := m.name }
  | want => { x with want := m.want }
  | rest => { x with data := m.data }
  | sender => { x with sender := m.sender }
  | window => { x with window := m.window }
  | packet => { x with packet := m.packet }
  | chan => { x with chan := m.chan }
end Pl
def mvs (m : Mg) : List Pl → Mg → Mg
  | [], x => x
  | p :: ps, x => mvs m ps (p.mv m x)
/-- A message with the fields of its kind alone. -/
def ownM (m : Mg) : Mg := match look m.kind tab with
  | none => { zeroM with kind := m.kind }
  | some ps => mvs m ps { zeroM with kind := m.kind }
end Go.Proofs.YtfpkjocoifoigaaGreatDoor
