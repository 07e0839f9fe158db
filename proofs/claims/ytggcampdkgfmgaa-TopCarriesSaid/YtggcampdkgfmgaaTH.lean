import Derived.Test.YtggcampdkgfmgaaJY
import Derived.Test.YtggcampdkgfmgaaTG
namespace Go.Proofs.Ytggcampdkgfmgaa
open Go.RowKit

/-! Layer 17: New; terminals that were made behind a world; the document's examples. -/
def newPt (t : Tm) (z : Sz) : Ps := ⟨newD t, z, 0, 0, 0, false⟩
theorem PAt.made {w : World} {p : Nat} {S : Nat → Prop} {P : Ps} (A : DAt w p S P.d) : PAt (w.alloc (.cells (psC p P) 62)) w.heap.size p S P :=
  ⟨Box.new w _ _, A.bel ((Below.refl _ w).alloc (Nat.le_refl _) _), fun h => by have := A.top _ h; omega⟩
/-- A terminal that was made behind a world. -/
structure AlP (w0 w : World) (g p : Nat) (S : Nat → Prop) (P : Ps) : Prop where
  at_ : PAt w g p S P
  new : ∀ x, GS g S x → w0.heap.size ≤ x
  bel : Below w0.heap.size w0 w
section
variable {w0 w w' : World} {g p : Nat} {S : Nat → Prop} {P P' : Ps}
theorem AlP.next {S' : Nat → Prop} (H : AlP w0 w g p S P) (h : Hid (Py w g p S w' S' P')) : AlP w0 w' g p S' P' := by
  refine ⟨h.out.at_, fun x hx => ?_, H.bel.trans (h.out.but.below H.bel.size H.new)⟩
  rcases hx with hx | rfl
  · rcases h.out.new _ hx with h | h
    · exact H.new x (.inl h)
    · exact Nat.le_trans H.bel.size h
  · exact H.new _ (.inr rfl)
theorem AlP.nextO (H : AlP w0 w g p S P) (h : POut w g p S P' w') : ∃ S', Hid (AlP w0 w' g p S' P') ∧ Hid (Py w g p S w' S' P') := by
  obtain ⟨S', h⟩ := h
  exact ⟨S', hid (H.next h), h⟩
theorem AlP.grow (H : AlP w0 w g p S P) (k : Below w.heap.size w w') : AlP w0 w' g p S P := ⟨H.at_.bel k, H.new, H.bel.trans (k.mono H.bel.size)⟩
theorem AlP.py (H : Hid (AlP w0 w g p S P)) : Hid (Py w g p S w S P) := Py.of (hid H.out.at_)
theorem AlP.fr (H : Hid (AlP w0 w g p S P)) {b : List UInt8} {A : Option Addr} (h : Hid (b ≠ [] → ∀ a, A = some a → a.block < w0.heap.size)) : Hid (b ≠ [] → ∀ a, A = some a → ¬ S a.block) := hid fun hb a ha hS => by
  have h1 := h.out hb a ha
  have h2 := H.out.new _ (.inl hS)
  omega
end
attribute [local go_sem ↓] wp_ldR ex_ldR
set_option maxRecDepth 100000 in
set_option maxHeartbeats 4000000 in
theorem newpt_any (w : World) (t : Tm) (ht : t.Ok) (z : Sz) : Calls Try.prog 13 #[.agg t.cs, .agg z.cs] w fun e w' => ∃ g p S, e = .returned (.pointer (some ⟨g, 0, none⟩)) ∧ Hid (AlP w w' g p S (newPt t z)) := by
  have hs := cs_size ht.len
  obtain ⟨za, zb, zc, ze⟩ := z
  simp only [Sz.cs]
  obtain ⟨w1, hw1⟩ : ∃ w1, w1 = (w.alloc (.cells t.cs 26)).alloc (.cells #[.int .u32 (za : Int), .int .u32 (zb : Int), .int .u32 (zc : Int), .int .u32 (ze : Int)] 56) := ⟨_, rfl⟩
  have b1 : Below w.heap.size w (w.alloc (.cells t.cs 26)) := (Below.refl _ w).alloc (Nat.le_refl _) _
  have K1 : Below w.heap.size w w1 := by rw [hw1]; exact b1.alloc b1.size _
  have X1 : Hid (Box w1 (w.heap.size + 1) 56 #[.int .u32 (za : Int), .int .u32 (zb : Int), .int .u32 (zc : Int), .int .u32 (ze : Int)]) := hid (by
    rw [hw1]
    have := Box.new (w.alloc (.cells t.cs 26)) 56 #[.int .u32 (za : Int), .int .u32 (zb : Int), .int .u32 (zc : Int), .int .u32 (ze : Int)]
    rwa [World.size_alloc] at this)
  have Y1 : Hid (Box w1 w.heap.size 26 t.cs) := hid (by rw [hw1]; exact box_al (box_nw rfl))
  have bz : ∀ W, Below w1.heap.size w1 W → isR W (.pointer (some ⟨w.heap.size, 0, none⟩)) = true ∧ csR W (.pointer (some ⟨w.heap.size, 0, none⟩)) = t.cs ∧ W.cell? ⟨w.heap.size + 1, 0, none⟩ = some (.int .u32 (za : Int)) ∧ W.cell? ⟨w.heap.size + 1, 1, none⟩ = some (.int .u32 (zb : Int)) ∧ W.cell? ⟨w.heap.size + 1, 2, none⟩ = some (.int .u32 (zc : Int)) ∧ W.cell? ⟨w.heap.size + 1, 3, none⟩ = some (.int .u32 (ze : Int)) := fun W k => by
    have h1 := front_R (W := W) ht.len (box_below Y1.out k) (fun j v hj => by simpa [Tm.cs] using hj)
    have h5 := box_below X1.out k
    exact ⟨h1.1, h1.2, h5.cell 0, h5.cell 1, h5.cell 2, h5.cell 3⟩
  clear b1
  go_enter Try.func13, Try.ntmps13
  go_upto_region 1 with (first
    | (refine bx26 (by rfl) _ (by rfl) _ (by rfl) hs ?_
       intro G0))
  rw [← hw1]
  clear hw1 G0
  go_region_held3 (fun W => isR W (.pointer (some ⟨w.heap.size, 0, none⟩)) = true ∧ csR W (.pointer (some ⟨w.heap.size, 0, none⟩)) = t.cs ∧ W.cell? ⟨w.heap.size + 1, 0, none⟩ = some (.int .u32 (za : Int)) ∧ W.cell? ⟨w.heap.size + 1, 1, none⟩ = some (.int .u32 (zb : Int)) ∧ W.cell? ⟨w.heap.size + 1, 2, none⟩ = some (.int .u32 (zc : Int)) ∧ W.cell? ⟨w.heap.size + 1, 3, none⟩ = some (.int .u32 (ze : Int))) (exact bz _ (by repeat (first | exact Below.refl _ _ | exact b2 | with_reducible apply bel_dr | with_reducible apply bel_al))) ((first
    | (go_at_call 29
       (with_reducible refine (newp_any _ t ht).mono ?_)
       rintro e w2 ⟨p, S0, rfl, A2, N2, k2⟩
       have b2 : Below w1.heap.size w1 w2 := bel_vt k2 (by repeat (first | exact Below.refl _ _ | with_reducible apply bel_dr | with_reducible apply bel_al))
       have z2 : w1.heap.size ≤ w2.heap.size := b2.size
       have N3 : ∀ x, S0 x → w1.heap.size ≤ x := fun x hx => N2.out x hx)))
  all_goals
    go_wp2_with fail
    go_ret
    exact ⟨_, p, S0, rfl, hid ⟨PAt.made (P := newPt t ⟨za, zb, zc, ze⟩) A2.out, fun x hx => by
      have hz := K1.size
      rcases hx with h | rfl
      · exact Nat.le_trans hz (N3 x h)
      · exact Nat.le_trans hz z2, (K1.trans (b2.mono K1.size)).alloc (Nat.le_trans K1.size z2) _⟩⟩
end Go.Proofs.Ytggcampdkgfmgaa
