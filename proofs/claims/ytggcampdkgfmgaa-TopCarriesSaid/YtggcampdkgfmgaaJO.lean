import Derived.Test.YtggcampdkgfmgaaJN
namespace Go.Proofs.Ytggcampdkgfmgaa
open Go.RowKit

/-! Layer 16: a line ended, a byte taken. -/
section
variable {w0 w : World} {p : Nat} {S0 S : Nat → Prop} {D : Ds} {h : Ph}
theorem Wy.freshL {u : World} (H : Hid (Wy w0 p S0 u S D h)) {A : Option Addr} {c : Nat} {qs : List L13.Rc} (hL : L13.LnF w u.heap.size A c qs) : Fr w0 p S A (qs ≠ []) ∧ ∀ r ∈ qs, Fr w0 p S r.A (r.bs ≠ []) := by
  have h1 := H.out.but.size
  have h2 := Wy.lt H
  refine ⟨fun hn a ha => ?_, fun r hr hn a ha => ?_⟩
  · obtain ⟨g, o, cs, e, hg, _⟩ := hL.row hn
    rw [e] at ha
    injection ha with ha
    subst ha
    have h3 : u.heap.size ≤ g := hg
    exact ⟨.inr (Nat.le_trans h1 h3), fun e => by have e : g = p := e; omega⟩
  · obtain ⟨g, o, cs, e, hg, _⟩ := hL.text r hr hn
    rw [e] at ha
    injection ha with ha
    subst ha
    have h3 : u.heap.size ≤ g := hg
    exact ⟨.inr (Nat.le_trans h1 h3), fun e => by have e : g = p := e; omega⟩
attribute [local go_sem ↓] wp_ldR ex_ldR

/-- A discipline whose line has been ended, or not. -/
def endR (D : Ds) (ls' : List (List UInt8 × Bool)) (ok : Bool) : Ds := if ok = true then { D with ls := ls', line := [] } else beepD D
theorem _root_.Go.Proofs.Ytggcampdkgfmgaa.L13.LnF.low {w : World} {base : Nat} {A : Option Addr} {c : Nat} {qs : List L13.Rc} (h : L13.LnF w base A c qs) : L13.LnF w 0 A c qs :=
  ⟨h.ln, fun hn => by obtain ⟨g, o, cs, e, _, hb⟩ := h.row hn; exact ⟨g, o, cs, e, Nat.zero_le _, hb⟩, fun r hr hn => by obtain ⟨g, o, cs, e, _, hb⟩ := h.text r hr hn; exact ⟨g, o, cs, e, Nat.zero_le _, hb⟩⟩

theorem endD_is {D : Ds} {b : List UInt8} {eof : Bool} {ls' : List (List UInt8 × Bool)} {ok : Bool} (hp : L13.putL D.ls (D.line ++ b, eof) = (ls', ok)) : endR D ls' ok = endD D b eof ∧ endB D b eof = ok := by
  have h1 : endB D b eof = ok := by unfold endB; rw [hp]
  refine ⟨?_, h1⟩
  unfold endD endR
  rw [h1, hp]
theorem newline_no {c : UInt8} (hp : endB D [c] false = false) : newlineD D c = endD D [c] false := by unfold newlineD; rw [hp, if_pos rfl]
theorem newline_char {c : UInt8} (hp : endB D [c] false = true) (hc : c ≠ 10) : newlineD D c = echoD (endD D [c] false) (showB (D.has 60) c) := by unfold newlineD; rw [hp, if_neg (by decide), if_neg hc]; rfl
theorem newline_10 {c : UInt8} (hp : endB D [c] false = true) (hc : c = 10) : newlineD D c = if D.has 53 = true ∨ D.has 56 = true then showD (endD D [c] false) [10] else endD D [c] false := by unfold newlineD; rw [hp, if_neg (by decide), if_pos hc]
end
end Go.Proofs.Ytggcampdkgfmgaa
