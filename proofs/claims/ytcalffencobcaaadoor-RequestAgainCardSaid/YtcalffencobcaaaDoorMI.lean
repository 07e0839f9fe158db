import Derived.Test.YtcalffencobcaaaDoorMH
namespace Go.Proofs.YtcalffencobcaaaDoor
open Go.RowKit

namespace Pl
/-- One field of m put into x. -/
def mv (m x : Mg) : Pl → Mg
  | code => { x with code := m.code }
  | text => { x with data := m.data }
  | lang => { x with lang := m.lang }
  | name => { x with name := m.name }
  | want => { x with want := m.want }
  | rest => { x with data := m.data }
  | sender => { x with sender := m.sender }
  | window => { x with window := m.window }
  | packet => { x with packet := m.packet }
  | chan => { x with chan := m.chan }
end Pl
def mvs (m : Mg) : List Pl → Mg → Mg
  | [], x => x
  | p :: ps, x => mvs m ps (p.mv m x)
/-- A message with the fields of its kind alone. -/
def ownM (m : Mg) : Mg := match look m.kind tab with
  | none => { zeroM with kind := m.kind }
  | some ps => mvs m ps { zeroM with kind := m.kind }

set_option maxHeartbeats 1000000 in
set_option maxRecDepth 100000 in
theorem same_m (m : Mg) (A A2 : Option Addr) (c c2 B B2 : Nat) (w : World) (hx : Lies w B A (bv m.data)) (hy : Lies w B2 A2 (bv m.data)) (hB : B ≤ w.heap.size) (hB2 : B2 ≤ w.heap.size) (hl : m.data.length ≤ maxLen) :
    Calls Tryd.prog 24 #[.agg (m.cells A c), .agg (m.cells A2 c2)] w fun e w' => e = .returned (.bool true) ∧ Below w.heap.size w w' := by
  have HX := hid hx
  have HY := hid hy
  clear hx hy
  unfold Mg.cells
  go_enter Tryd.func24, Tryd.ntmps24
  go_wp2_with (
    go_at_call 12
    refine (bytes_any _ B B2 A A2 c c2 m.data m.data (HX.out.below ((bel2 w _ _).mono hB)) (HY.out.below ((bel2 w _ _).mono hB2)) hl hl).mono ?_
    rintro e w2 ⟨rfl, n, rfl⟩
    rw [decide_eq_true rfl])
  go_ret
  exact ⟨rfl, bel_drewN (bel2 w _ _) n⟩

def greatB (m : Mg) : Bool := decide (100000 < m.data.length) || decide (10000 < m.name.size) || decide (10000 < m.lang.size)
set_option maxHeartbeats 1000000 in
set_option maxRecDepth 100000 in
theorem great_m (m : Mg) (A : Option Addr) (c : Nat) (w : World) (hl : m.data.length ≤ maxLen) (hn : m.name.size ≤ maxLen) (hg : m.lang.size ≤ maxLen) :
    Calls Tryd.prog 18 #[.agg (m.cells A c)] w fun e w' => e = .returned (.bool (greatB m)) ∧ Below w.heap.size w w' := by
  unfold maxLen at hl hn hg
  have HE : Hid (greatB m = (decide (100000 < m.data.length) || decide (10000 < m.name.size) || decide (10000 < m.lang.size))) := hid rfl
  unfold Mg.cells
  by_cases h1 : 100000 < m.data.length
  · have d1 : (100000 : Int) < m.data.length := by omega
    have HR : Hid (greatB m = true) := by show _ = _; rw [HE.out, decide_eq_true h1]; simp
    clear h1
    go_enter Tryd.func18, Tryd.ntmps18
    go_wp2
    go_ret
    exact ⟨ret_bool HR.out.symm, bel1 w _⟩
  · have d1 : decide ((100000 : Int) < m.data.length) = false := by simp; omega
    by_cases h2 : 10000 < m.name.size
    · have d2 : (10000 : Int) < m.name.size := by omega
      have HR : Hid (greatB m = true) := by show _ = _; rw [HE.out, decide_eq_true h2]; simp
      clear h1 h2
      go_enter Tryd.func18, Tryd.ntmps18
      go_wp2
      go_ret
      exact ⟨ret_bool HR.out.symm, bel1 w _⟩
    · have d2 : decide ((10000 : Int) < m.name.size) = false := by simp; omega
      by_cases h3 : 10000 < m.lang.size
      · have d3 : (10000 : Int) < m.lang.size := by omega
        have HR : Hid (greatB m = true) := by show _ = _; rw [HE.out, decide_eq_true h3]; simp
        clear h1 h2 h3
        go_enter Tryd.func18, Tryd.ntmps18
        go_wp2
        go_ret
        exact ⟨ret_bool HR.out.symm, bel1 w _⟩
      · have d3 : decide ((10000 : Int) < m.lang.size) = false := by simp; omega
        have HR : Hid (greatB m = false) := by show _ = _; rw [HE.out, decide_eq_false h1, decide_eq_false h2, decide_eq_false h3]; rfl
        clear h1 h2 h3
        go_enter Tryd.func18, Tryd.ntmps18
        go_wp2
        go_ret
        exact ⟨ret_bool HR.out.symm, bel1 w _⟩

end Go.Proofs.YtcalffencobcaaaDoor
