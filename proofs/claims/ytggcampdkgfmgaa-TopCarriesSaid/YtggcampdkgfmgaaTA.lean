import Derived.Test.YtggcampdkgfmgaaJL
namespace Go.Proofs.Ytggcampdkgfmgaa
open Go.RowKit

/-! Layer 17: a terminal, and what each call makes of it. -/
structure Sz where
  a : Nat
  b : Nat
  c : Nat
  e : Nat
deriving DecidableEq
def Sz.cl (z : Sz) : List Value := [.int .u32 (z.a : Int), .int .u32 (z.b : Int), .int .u32 (z.c : Int), .int .u32 (z.e : Int)]
structure Ps where
  d : Ds
  z : Sz
  ss : Int
  gp : Int
  sl : Int
  hu : Bool
def psC (p : Nat) (P : Ps) : Array Value := #[.pointer (some ⟨p, 0, none⟩), .int .u32 (P.z.a : Int), .int .u32 (P.z.b : Int), .int .u32 (P.z.c : Int), .int .u32 (P.z.e : Int), .int .i64 P.ss, .int .i64 P.gp, .int .i64 P.sl, .bool P.hu]
/-- What a terminal is in memory: block g, its discipline at p with blocks S. -/
structure PAt (w : World) (g p : Nat) (S : Nat → Prop) (P : Ps) : Prop where
  box : Box w g 62 (psC p P)
  at_ : DAt w p S P.d
  ng : ¬ S g
/-- On the way. -/
structure Py (w0 : World) (g p : Nat) (S0 : Nat → Prop) (w : World) (S : Nat → Prop) (P : Ps) : Prop where
  at_ : PAt w g p S P
  new : ∀ x, S x → S0 x ∨ w0.heap.size ≤ x
  but : ButP (fun x => S0 x ∨ x = g) w0 w
def POut (w0 : World) (g p : Nat) (S0 : Nat → Prop) (P : Ps) (w : World) : Prop := ∃ S, Hid (Py w0 g p S0 w S P)
theorem bel_vt {u W W' : World} (k : Hid (Below W.heap.size W W')) (hW : Below u.heap.size u W) : Below u.heap.size u W' := hW.trans (k.out.mono hW.size)
section
variable {w0 w w' : World} {g p : Nat} {S0 S : Nat → Prop} {P P' : Ps} {D' : Ds}
theorem PAt.bel (H : PAt w g p S P) (k : Below w.heap.size w w') : PAt w' g p S P := ⟨box_below H.box k, H.at_.bel k, H.ng⟩
theorem PAt.lt (H : PAt w g p S P) : g < w.heap.size := H.box.lt
theorem PAt.start (H : PAt w g p S P) : Py w g p S w S P := ⟨H, fun _ h => .inl h, ButP.refl _ w⟩
theorem Py.of (H : Hid (PAt w g p S P)) : Hid (Py w g p S w S P) := hid H.out.start
theorem Py.bel (H : Hid (Py w0 g p S0 w S P)) (k : Below w.heap.size w w') : Hid (Py w0 g p S0 w' S P) := hid ⟨H.out.at_.bel k, H.out.new, H.out.but.bel k⟩
theorem Py.done (H : Hid (Py w0 g p S0 w S P)) : POut w0 g p S0 P w := ⟨S, H⟩
theorem Py.self (H : Hid (Py w0 g p S0 w S P)) : Hid (PAt w g p S P) := hid H.out.at_
theorem Py.dat (H : Hid (Py w0 g p S0 w S P)) : Hid (DAt w p S P.d) := hid H.out.at_.at_
theorem Py.next (H : Hid (Py w0 g p S0 w S P)) (O : DOut w p S D' w') : ∃ S', Hid (Py w0 g p S0 w' S' { P with d := D' }) ∧ Hid (∀ x, S' x → S x ∨ w.heap.size ≤ x) ∧ Hid (ButP S w w') := by
  obtain ⟨S', h1, h2, h3⟩ := O
  have hg := H.out.at_.lt
  refine ⟨S', hid ⟨⟨h3.out.box H.out.at_.box H.out.at_.ng, h1.out, fun h => ?_⟩, fun x hx => ?_, H.out.but.trans h3.out fun x hx => ?_⟩, h2, h3⟩
  · rcases h2.out _ h with h | h
    · exact H.out.at_.ng h
    · omega
  · rcases h2.out x hx with h | h
    · exact H.out.new x h
    · exact .inr (Nat.le_trans H.out.but.size h)
  · rcases H.out.new x hx with h | h
    · exact .inl (.inl h)
    · exact .inr h
theorem Py.cell (H : Hid (Py w0 g p S0 w S P)) (j : Nat) {v : Value} (hj : (psC p P)[j]? = some v) : w.cell? ⟨g, j, none⟩ = some v := (Box.cell H.out.at_.box j).trans hj
theorem Py.cellW (H : Hid (Py w0 g p S0 w S P)) (j : Nat) {v : Value} (hj : (psC p P)[j]? = some v) (W : World) (k : Below w.heap.size w W) : W.cell? ⟨g, j, none⟩ = some v := (Box.cell (H.out.at_.bel k).box j).trans hj
theorem Py.fz (H : Hid (Py w0 g p S0 w S P)) (j : Nat) : w.frozen? ⟨g, j, none⟩ = false := Box.frozen H.out.at_.box j
theorem Py.store (H : Hid (Py w0 g p S0 w S P)) (j : Nat) (v : Value) (hd : P'.d = P.d) (hv : (psC p P).setIfInBounds j v = psC p P') : Hid (Py w0 g p S0 (w.setCell ⟨g, j, none⟩ v) S P') := by
  refine hid ⟨⟨?_, ?_, H.out.at_.ng⟩, H.out.new, H.out.but.store (.inl (.inr rfl)) v⟩
  · rw [← hv]; exact H.out.at_.box.store j v
  · rw [hd]
    exact H.out.at_.at_.keep (T := fun x => x = g) ((ButP.refl (fun x => x = g) w).store (.inl rfl) v) (fun x hx e => H.out.at_.ng (e ▸ hx))
theorem Py.size (H : Hid (Py w0 g p S0 w S P)) : w0.heap.size ≤ w.heap.size := H.out.but.size
/-- The blocks of a terminal: its discipline's, and its own. -/
def GS (g : Nat) (S : Nat → Prop) (x : Nat) : Prop := S x ∨ x = g
theorem PAt.keep {T : Nat → Prop} (H : PAt w g p S P) (k : ButP T w w') (hT : ∀ x, GS g S x → ¬ T x) : PAt w' g p S P := ⟨k.box H.box (hT _ (.inr rfl)), H.at_.keep k fun x hx => hT x (.inl hx), H.ng⟩
end
end Go.Proofs.Ytggcampdkgfmgaa
