import Derived.Test.YtggcampdkgfmgaaOE
namespace Go.Proofs.Ytggcampdkgfmgaa.F2
open Go.RowKit

/-- Are bytes more than are looked at? -/
def great (ls : List (List UInt8)) : Bool := ls.any fun b => decide (200000 < b.length)

/-- What a result's two cells are set to. -/
theorem two_fin {B g : Nat} {w0 w : World} {v0 v1 u0 u1 : Value} (hb : Below B w0 w) (hg : B ≤ g) (hx : Box w g 50 #[v0, v1]) :
    Box ((w.setCell ⟨g, 0, none⟩ u0).setCell ⟨g, 1, none⟩ u1) g 50 #[u0, u1] ∧ Below B w0 ((w.setCell ⟨g, 0, none⟩ u0).setCell ⟨g, 1, none⟩ u1) ∧ Kept B [50] w ((w.setCell ⟨g, 0, none⟩ u0).setCell ⟨g, 1, none⟩ u1) := by
  have hx1 := hx.store 0 u0
  have hx2 := hx1.store 1 u1
  refine ⟨by simpa using hx2, (hb.setCell hg _).setCell hg _, ((Kept.refl B [50] w).store hx hg (by simp) u0).store hx1 hg (by simp) u1⟩

end Go.Proofs.Ytggcampdkgfmgaa.F2
