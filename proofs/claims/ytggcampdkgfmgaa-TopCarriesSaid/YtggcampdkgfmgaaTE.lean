import Derived.Test.YtggcampdkgfmgaaJX
import Derived.Test.YtggcampdkgfmgaaTD
namespace Go.Proofs.Ytggcampdkgfmgaa
open Go.RowKit

/-! Layer 17: the calls that reach the discipline. -/
section
variable {w0 w w' : World} {g p : Nat} {S0 S : Nat → Prop} {P : Ps} {D' : Ds}
theorem Py.nextF {A : Option Addr} {b : List UInt8} (H : Hid (Py w0 g p S0 w S P)) (O : DOutF w p S D' A b w') : ∃ S', Hid (Py w0 g p S0 w' S' { P with d := D' }) ∧ Hid (∀ x, S' x → S x ∨ w.heap.size ≤ x) ∧ Hid (ButP S w w') ∧ Hid (b ≠ [] → ∀ a, A = some a → w0.heap.size ≤ a.block ∧ ¬ GS g S' a.block) := by
  obtain ⟨S', h1, h2, h3, h4, h5⟩ := O
  have hg := H.out.at_.lt
  have hz := H.out.but.size
  refine ⟨S', hid ⟨⟨h3.out.box H.out.at_.box H.out.at_.ng, h1.out, fun h => ?_⟩, fun x hx => ?_, H.out.but.trans h3.out fun x hx => ?_⟩, h2, h3, hid fun hne a ha => ⟨?_, ?_⟩⟩
  · rcases h2.out _ h with h | h
    · exact H.out.at_.ng h
    · omega
  · rcases h2.out x hx with h | h
    · exact H.out.new x h
    · exact .inr (Nat.le_trans H.out.but.size h)
  · rcases H.out.new x hx with h | h
    · exact .inl (.inl h)
    · exact .inr h
  · have := h5.out hne a ha
    omega
  · rintro (h | h)
    · exact h4.out hne a ha h
    · have := h5.out hne a ha
      omega
/-- What the calls leave that answer a number and events. -/
def RetMw (w0 : World) (g p : Nat) (S0 : Nat → Prop) (r : Ps × Nat × List (Int × Int)) (e : Ending) (w' : World) : Prop := ∃ A n c S', e = .returned (.tuple #[.int .i64 (r.2.1 : Int), .slice A n c]) ∧ Hid (r.2.2.length = n) ∧ Hid (Lies w' w'.heap.size A (evV r.2.2)) ∧ Hid (Py w0 g p S0 w' S' r.1) ∧ Hid (r.2.2 ≠ [] → ∀ a, A = some a → w0.heap.size ≤ a.block ∧ ¬ GS g S' a.block)
/-- .. bytes and an error. -/
def RetPb (w0 : World) (g p : Nat) (S0 : Nat → Prop) (r : Ps × List UInt8 × Int) (e : Ending) (w' : World) : Prop := ∃ A n c S', e = .returned (.tuple #[.slice A n c, .int .i64 r.2.2]) ∧ Hid (r.2.1.length = n) ∧ Hid (SlB w' w'.heap.size A c r.2.1) ∧ Hid (Py w0 g p S0 w' S' r.1) ∧ Hid (r.2.1 ≠ [] → ∀ a, A = some a → w0.heap.size ≤ a.block ∧ ¬ GS g S' a.block)
def mwP (P : Ps) (b : List UInt8) : Ps × Nat × List (Int × Int) := if P.hu = true then (P, 0, []) else ({ P with d := (typeM P.d b).1 }, (typeM P.d b).2.1, evs P.gp (typeM P.d b).2.2)
def tkP (P : Ps) (n : Int) : Ps × List UInt8 × Int :=
  ({ P with d := outputD P.d n }, outputB P.d n, if outputB P.d n ≠ [] then 0 else if P.sl ≤ 0 ∧ (outputD P.d n).out = [] then 11 else if 0 < n then 10 else 0)
def mrP (P : Ps) (n : Int) : Ps × List UInt8 × Int := if P.hu = true then (P, [], 11) else tkP P n
def rnP (P : Ps) (n k : Int) : Ps × List UInt8 × Int := ({ P with d := (readD P.d n k).1 }, if (readD P.d n k).2.2 = true then (readD P.d n k).2.1 else [], if (readD P.d n k).2.2 = true then 0 else 10)
def rdP (P : Ps) (n k : Int) : Ps × List UInt8 × Int := if P.hu = true then (P, [], 0) else rnP P n k
def wnP (P : Ps) (b : List UInt8) : Ps × Nat × Int := ({ P with d := writeD P.d b }, writeN P.d b, if writeN P.d b = 0 ∧ b ≠ [] then 10 else 0)
def wrP (P : Ps) (b : List UInt8) : Ps × Nat × Int := if P.hu = true then (P, 0, 11) else wnP P b
def hangP (P : Ps) : Ps × List (Int × Int) := if P.hu = true then (P, []) else ({ P with hu := true, d := flushD P.d 3 }, evs P.gp [1, 18])
def satP (P : Ps) (n : Int) (t : Tm) : Ps × Int :=
  if n ≠ 1 ∧ n ≠ 2 ∧ n ≠ 3 then (P, 2) else if P.hu = true then (P, 11) else if rightT t = false then (P, 4) else if n ≠ 1 ∧ P.d.out ≠ [] then (P, 10)
  else if n = 3 then ({ P with d := setD (flushD P.d 1) t }, 0) else ({ P with d := setD P.d t }, 0)
theorem bel_some {u W : World} (k : Below u.heap.size u W) : Below u.heap.size u W := k
end
end Go.Proofs.Ytggcampdkgfmgaa
