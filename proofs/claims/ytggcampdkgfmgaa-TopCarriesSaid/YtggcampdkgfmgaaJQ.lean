import Derived.Test.YtggcampdkgfmgaaJP
import Derived.Laws.EntriesVeiled
namespace Go.Proofs.Ytggcampdkgfmgaa
open Go.RowKit

/-! Layer 16: characters' ways, gone through until one fits. -/
/-- A way: a character, the flag without which it means nothing, the method, the signal. -/
structure Wa where
  ch : Int
  fl : Int
  m : FuncId
  sg : Int
def Wa.f (r : Wa) (p : Nat) : Value := .func (.func r.m) #[.pointer (some ⟨p, 0, none⟩)] #[]
def Wa.v (r : Wa) (p : Nat) : Array Value := #[.int .i64 r.ch, .int .i64 r.fl, .func (.func r.m) #[.pointer (some ⟨p, 0, none⟩)] #[], .int .i64 r.sg]
def Wa.fits (r : Wa) (t : Tm) (c : UInt8) : Bool := hasN t.f r.fl && L15.isC t r.ch c
attribute [local go_sem ↓] wp_ld26 ex_ld26
attribute [local go_sem] isP_v blkV_v aggV_v
/-- The first of some ways that fits. -/
def firstW (t : Tm) (c : UInt8) (rs : List Wa) : Option Wa := rs.find? fun r => r.fits t c
def WaAt (p : Nat) (cs : Array Value) (rs : List Wa) : Prop := ∀ (k : Nat) (r : Wa), rs[k]? = some r → cs[4 * k]? = some (.int .i64 r.ch) ∧ cs[4 * k + 1]? = some (.int .i64 r.fl) ∧ cs[4 * k + 2]? = some (.func (.func r.m) #[.pointer (some ⟨p, 0, none⟩)] #[]) ∧ cs[4 * k + 3]? = some (.int .i64 r.sg)
def zeroWa : Array Value := #[.int .i64 0, .int .i64 0, .nilFunc, .int .i64 0]
def waV (p : Nat) : Option Wa → Value
  | some r => .tuple #[.agg (r.v p), .bool true]
  | none => .tuple #[.agg zeroWa, .bool false]
theorem firstW_at {t : Tm} {c : UInt8} {rs : List Wa} {k : Nat} {r : Wa} (hr : rs[k]? = some r) (hno : ∀ j, j < k → ∀ q, rs[j]? = some q → q.fits t c = false) (hf : r.fits t c = true) : firstW t c rs = some r := by
  unfold firstW
  rw [List.find?_eq_some_iff_getElem]
  obtain ⟨hk, rfl⟩ := List.getElem?_eq_some_iff.1 hr
  refine ⟨hf, k, hk, rfl, fun j hj => ?_⟩
  have := hno j hj rs[j] (List.getElem?_eq_getElem (by omega))
  simp [this]
theorem firstW_no {t : Tm} {c : UInt8} {rs : List Wa} (hno : ∀ j, j < rs.length → ∀ q, rs[j]? = some q → q.fits t c = false) : firstW t c rs = none := by
  unfold firstW
  rw [List.find?_eq_none]
  intro x hx
  obtain ⟨j, hj, rfl⟩ := List.getElem_of_mem hx
  simp [hno j hj rs[j] (List.getElem?_eq_getElem hj)]
theorem st4_bel {w W : World} (h : Below w.heap.size w W) (a b c d : Value) : Below w.heap.size w ((((W.setCell ⟨w.heap.size + 1, 0, none⟩ a).setCell ⟨w.heap.size + 1, 1, none⟩ b).setCell ⟨w.heap.size + 1, 2, none⟩ c).setCell ⟨w.heap.size + 1, 3, none⟩ d) :=
  (((h.trans ((Turn.setCell _ (w.heap.size + 1) 0 _).below (by omega))).trans ((Turn.setCell _ (w.heap.size + 1) 1 _).below (by omega))).trans ((Turn.setCell _ (w.heap.size + 1) 2 _).below (by omega))).trans ((Turn.setCell _ (w.heap.size + 1) 3 _).below (by omega))
end Go.Proofs.Ytggcampdkgfmgaa
namespace Go.Proofs.Ytggcampdkgfmgaa
open Go.RowKit

/-! Layer 16: the ways of the signals' characters, and of the line's. -/
def wasC (p : Nat) (rs : List Wa) : Array Value := ((rs.map fun r => (r.v p).toList).flatten).toArray
theorem waAt_of {p : Nat} (rs : List Wa) : WaAt p (wasC p rs) rs := by
  intro k r hr
  induction rs generalizing k with
  | nil => simp at hr
  | cons x rest ih =>
    have e : wasC p (x :: rest) = #[.int .i64 x.ch, .int .i64 x.fl, .func (.func x.m) #[.pointer (some ⟨p, 0, none⟩)] #[], .int .i64 x.sg] ++ wasC p rest := by simp [wasC, Wa.v]
    cases k with
    | zero =>
      simp at hr
      subst hr
      rw [e]
      refine ⟨?_, ?_, ?_, ?_⟩ <;> (rw [Array.getElem?_append_left (by simp)]; rfl)
    | succ k =>
      have := ih k (by simpa using hr)
      rw [e]
      rw [Array.getElem?_append_right (by simp; omega), Array.getElem?_append_right (by simp; omega), Array.getElem?_append_right (by simp; omega), Array.getElem?_append_right (by simp; omega)]
      simpa [show 4 * (k + 1) - 4 = 4 * k by omega, show 4 * (k + 1) + 1 - 4 = 4 * k + 1 by omega, show 4 * (k + 1) + 2 - 4 = 4 * k + 2 by omega, show 4 * (k + 1) + 3 - 4 = 4 * k + 3 by omega] using this
end Go.Proofs.Ytggcampdkgfmgaa
