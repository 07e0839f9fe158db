import Derived.Test.YtgollkckdnaegaaGA
namespace Go.Proofs.Ytgollkckdnaegaa
open Go.RowKit

/-- A slice of slices of bytes: what its cells hold. -/
def LisV (w : World) (B : Nat) (A : Option Addr) (ls : List (List UInt8)) : Prop :=
  ls ≠ [] → ∃ b o, A = some ⟨b, o, none⟩ ∧ b < B ∧ ∀ k (h : k < ls.length), ∃ A' c', w.cell? ⟨b, o + k, none⟩ = some (.slice A' ls[k].length c') ∧ SlB w B A' c' ls[k]
theorem SlB.more {w : World} {B B' : Nat} {A : Option Addr} {c : Nat} {bs : List UInt8} (h : SlB w B A c bs) (hB : B ≤ B') : SlB w B' A c bs := ⟨h.1, h.2.1, h.2.2.1, h.2.2.2.more hB⟩
theorem LisV.below {w w' : World} {B : Nat} {A : Option Addr} {ls : List (List UInt8)} (h : LisV w B A ls) (hb : Below B w w') : LisV w' B A ls := fun hn => by
  obtain ⟨b, o, e, hlt, hc⟩ := h hn
  exact ⟨b, o, e, hlt, fun k hk => by obtain ⟨A', c', h1, h2⟩ := hc k hk; exact ⟨A', c', (hb.cell (p := ⟨b, o + k, none⟩) hlt).trans h1, h2.below hb⟩⟩
theorem LisV.more {w : World} {B B' : Nat} {A : Option Addr} {ls : List (List UInt8)} (h : LisV w B A ls) (hB : B ≤ B') : LisV w B' A ls := fun hn => by
  obtain ⟨b, o, e, hlt, hc⟩ := h hn
  exact ⟨b, o, e, by omega, fun k hk => by obtain ⟨A', c', h1, h2⟩ := hc k hk; exact ⟨A', c', h1, h2.more hB⟩⟩

end Go.Proofs.Ytgollkckdnaegaa
