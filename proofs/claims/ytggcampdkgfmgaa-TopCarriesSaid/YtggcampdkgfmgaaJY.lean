import Derived.Test.YtggcampdkgfmgaaJX
import Derived.Test.YtggcampdkgfmgaaJL
import Derived.Deep.DeepCutAuto
namespace Go.Proofs.Ytggcampdkgfmgaa
open Go.RowKit

/-! Layer 16: the document's examples. -/
def LB : List UInt8 := [97, 98, 127, 99, 10]
def Dj : Nat → Ds
  | 0 => newD dT
  | k + 1 => (inputD (Dj k) (LB.getD k 0)).1
theorem Dj_inv : ∀ k, Inv (Dj k)
  | 0 => Inv.new dT_ok
  | k + 1 => (Dj_inv k).input _
theorem Dj_sig : ∀ k, k < 5 → (inputD (Dj k) (LB.getD k 0)).2 = [] := by decide +kernel
def D6 : Ds := outputD (Dj 5) 99
def D7 : Ds := (readD D6 9 0).1
def D8 : Ds := (inputD D7 3).1
def D9 : Ds := outputD D8 9
theorem D6_inv : Inv D6 := (Dj_inv 5).output 99
theorem D7_inv : Inv D7 := D6_inv.read 9 0
theorem D8_inv : Inv D8 := D7_inv.input 3
theorem out6 : outputB (Dj 5) 99 = [97, 98, 8, 32, 8, 99, 13, 10] := by decide +kernel
theorem read7 : (readD D6 9 0).2 = ([97, 99, 10], true) := by decide +kernel
theorem sig8 : (inputD D7 3).2 = [2] := by decide +kernel
theorem out9 : outputB D8 9 = [94, 67] := by decide +kernel
theorem in7 : readD D6 9 0 = (D7, [97, 99, 10], true) := Prod.ext (by show (readD D6 9 0).1 = D7; unfold D7; rfl) read7
theorem in8 : inputD D7 3 = (D8, [2]) := Prod.ext (by show (inputD D7 3).1 = D8; unfold D8; rfl) sig8
theorem ok99 : i64ok 99 := by unfold i64ok; omega
theorem ok9 : i64ok 9 := by unfold i64ok; omega
theorem ok0 : i64ok 0 := by unfold i64ok; omega
theorem lb_at {k : Nat} (hk : k < 5) : (#[.int .u8 97, .int .u8 98, .int .u8 127, .int .u8 99, .int .u8 10] : Array Value)[k]? = some (.int .u8 ((LB.getD k 0).toNat : Int)) := by
  match k, hk with
  | 0, _ => rfl
  | 1, _ => rfl
  | 2, _ => rfl
  | 3, _ => rfl
  | 4, _ => rfl
end Go.Proofs.Ytggcampdkgfmgaa
