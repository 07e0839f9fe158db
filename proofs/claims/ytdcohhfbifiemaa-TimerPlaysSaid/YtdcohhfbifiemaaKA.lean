import Derived.Test.YtdcohhfbifiemaaWW
import Derived.Laws.CopyOwn
import Derived.Laws.MakeOwn
namespace Go.Proofs.Ytdcohhfbifiemaa
open Go.RowKit

/-- Nothing of what there was has turned, but the blocks of a list. -/
structure But (L : List Nat) (w w' : World) : Prop where
  os : w'.os = w.os
  tape : w'.tape = w.tape
  output : w'.output = w.output
  size : w.heap.size ≤ w'.heap.size
  block : ∀ b, b < w.heap.size → b ∉ L → w'.heap[b]? = w.heap[b]?
section
variable {L L' : List Nat} {a w w' : World}
theorem But.refl (L : List Nat) (w : World) : But L w w := ⟨rfl, rfl, rfl, Nat.le_refl _, fun _ _ _ => rfl⟩
theorem But.trans (h : But L a w) (k : But L' w w') (hL : ∀ x ∈ L', x ∈ L ∨ a.heap.size ≤ x) : But L a w' :=
  ⟨k.os.trans h.os, k.tape.trans h.tape, k.output.trans h.output, Nat.le_trans h.size k.size, fun b hb hn => by
    rw [k.block b (Nat.lt_of_lt_of_le hb h.size) (fun hx => (hL b hx).elim hn (fun h1 => by omega)), h.block b hb hn]⟩
theorem But.same (h : But L a w) (k : But L w w') : But L a w' := h.trans k fun _ hx => .inl hx
theorem But.mono (h : But L w w') (hL : ∀ x ∈ L, x ∈ L') : But L' w w' := ⟨h.os, h.tape, h.output, h.size, fun b hb hn => h.block b hb fun hx => hn (hL b hx)⟩
theorem But.of_below (h : Below w.heap.size w w') (L : List Nat) : But L w w' := ⟨h.os, h.tape, h.output, h.size, fun b hb _ => h.block b hb⟩
theorem But.below (h : But L w w') {B : Nat} (hB : B ≤ w.heap.size) (hL : ∀ x ∈ L, B ≤ x) : Below B w w' :=
  ⟨h.os, h.tape, h.output, h.size, fun b hb => h.block b (by omega) fun hx => by have := hL b hx; omega⟩
theorem But.alloc (h : But L a w) (o : Obj) : But L a (w.alloc o) := ⟨h.os, h.tape, h.output, Nat.le_trans h.size (by simp), fun b hb hn => by
  rw [Below.heap_alloc _ _ _ (Nat.lt_of_lt_of_le hb h.size), h.block b hb hn]⟩
theorem But.drew (h : But L a w) : But L a w.drew := ⟨h.os, h.tape, h.output, h.size, h.block⟩
theorem But.drewN (h : But L a w) (n : Nat) : But L a (w.drewN n) := ⟨h.os, h.tape, h.output, h.size, h.block⟩
theorem But.box (h : But L w w') {g : Nat} {t : TypeId} {cs : Array Value} (hx : Box w g t cs) (hg : g ∉ L) : Box w' g t cs := hx.same (h.block g hx.lt hg)
theorem But.store (h : But L a w) {g i : Nat} (hg : g ∈ L ∨ a.heap.size ≤ g) (u : Value) : But L a (w.setCell ⟨g, i, none⟩ u) :=
  h.trans (L' := [g]) ⟨rfl, rfl, rfl, by simp [World.setCell], fun b _ hc => Below.heap_setCell _ _ _ _ (by
    rintro rfl
    simp at hc)⟩ (fun x hx => by simp at hx; subst hx; exact hg)
theorem But.grown (h : But L a w) {row : Option Nat} (hg : w.grownBy w' row) (hr : ∀ k, row = some k → k ∈ L ∨ a.heap.size ≤ k) : But L a w' :=
  h.trans (L' := row.toList) ⟨hg.os, hg.tape, hg.output, hg.size, fun b hb hc => hg.block b hb (by
    intro e
    subst e
    simp at hc)⟩ (fun x hx => by
      cases row with
      | none => simp at hx
      | some k => simp at hx; subst hx; exact hr _ rfl)
theorem But.own {base : Nat} {e : TypeId} {size n : Nat} {v : Value} {xs : List Value} (k : But L w w') (h : w.ownsRow base e size v n xs) (hn : ∀ g, v.ownBlock = some g → g ∉ L) : w'.ownsRow base e size v n xs := by
  refine ⟨h.1, ?_⟩
  rcases h.2 with hn | ⟨g, cap, cur, rfl, hb, hgg, rest⟩
  · exact .inl hn
  · exact .inr ⟨g, cap, cur, rfl, hb, (k.box (t := e) hgg (hn g rfl)), rest⟩
theorem But.cell (h : But L w w') {p : Addr} (hb : p.block < w.heap.size) (hp : p.block ∉ L) : w'.cell? p = w.cell? p := by
  have := h.block p.block hb hp
  unfold World.cell?
  rw [this]
theorem But.lies (h : But L w w') {B : Nat} {A : Option Addr} {cs : List Value} (hl : Lies w B A cs) (hB : B ≤ w.heap.size) (hA : ∀ a, A = some a → a.block ∉ L) : Lies w' B A cs := fun hn => by
  obtain ⟨b, o, rfl, hb, hc⟩ := hl hn
  exact ⟨b, o, rfl, hb, fun j u hu => (h.cell (p := ⟨b, o + j, none⟩) (Nat.lt_of_lt_of_le hb hB) (hA ⟨b, o, none⟩ rfl)).trans (hc j u hu)⟩
end

end Go.Proofs.Ytdcohhfbifiemaa
