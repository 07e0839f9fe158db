import Derived.Test.YtggcampdkgfmgaaGreatUC
namespace Go.Proofs.YtggcampdkgfmgaaGreat
open Go.RowKit

/-! TopTyped: the walk. -/
theorem lit_none : True := trivial
theorem GS.lt2 {w0 w : World} {g p : Nat} {S : Nat → Prop} {P : Ps} (H : AlP w0 w g p S P) {x : Nat} (h : GS g S x) : x < w.heap.size := by
  rcases h with h | rfl
  · exact H.at_.at_.top _ h
  · exact H.at_.lt
theorem GS.new2 {w w' : World} {g p : Nat} {S S' : Nat → Prop} {P' : Ps} (h : Py w g p S w' S' P') {x : Nat} (hx : GS g S' x) : GS g S x ∨ w.heap.size ≤ x := by
  rcases hx with hx | rfl
  · rcases h.new _ hx with h | h
    · exact .inl (.inl h)
    · exact .inr h
  · exact .inl (.inr rfl)
def tT (t : Tm) : Tm := setT (tP t) 53 true
theorem tT_T {t : Tm} (ht : t.Ok) : (tT t).Ok ∧ hasN (tT t).f 53 = true ∧ hasN (tT t).f 51 = true ∧ hasN (tT t).f 33 = false ∧ hasN (tT t).f 37 = false ∧ hasN (tT t).f 31 = false ∧ hasN (tT t).f 34 = false ∧ hasN (tT t).f 39 = false := by
  obtain ⟨k0, h1, h2, h3, h4, h5, h6⟩ := tP_T ht
  unfold tT
  exact ⟨setT_ok k0 53 true, set_has k0 53 true (by decide), (set_keeps k0 true (by decide) (by decide) (by decide)).trans h1, (set_keeps k0 true (by decide) (by decide) (by decide)).trans h2, (set_keeps k0 true (by decide) (by decide) (by decide)).trans h3, (set_keeps k0 true (by decide) (by decide) (by decide)).trans h4, (set_keeps k0 true (by decide) (by decide) (by decide)).trans h5, (set_keeps k0 true (by decide) (by decide) (by decide)).trans h6⟩
theorem TT.e {t : Tm} {bs : List UInt8} (h : TT t bs) : ∀ y ∈ bs, y = 10 ∨ (PlainC t y ∧ 32 ≤ y.toNat ∧ y.toNat ≤ 126) := fun y hy => by
  have h1 := h.2 y (by simp [hy])
  rcases h1.plain with h2 | h2
  · exact .inl h2
  · rcases h1.1 with h3 | h3
    · exact .inl h3
    · exact .inr ⟨h2, h3⟩
theorem mw_al2 {w0 w : World} {g p : Nat} {S : Nat → Prop} {t : Tm} {D : Ds} (H : Hid (AlP w0 w g p S { newPt t ⟨0, 0, 0, 0⟩ with sl := 1, d := D })) (hI : Hid (Inv D)) (A : Option Addr) (n c : Nat) (b : List UInt8) (hb : Hid (SlB w w.heap.size A c b)) (hn : Hid (b.length = n)) (hm : n ≤ 20000) (hA : Hid (b ≠ [] → ∀ a, A = some a → ¬ S a.block)) {D' : Ds} (hD : Hid (inAll D b = D')) :
    Calls Tryz.prog 41 #[.pointer (some ⟨g, 0, none⟩), .slice A n c] w fun e w' => ∃ A' c' S', e = .returned (.tuple #[.int .i64 (n : Int), .slice A' 0 c']) ∧ Hid (AlP w0 w' g p S' { newPt t ⟨0, 0, 0, 0⟩ with sl := 1, d := D' }) := by
  have hr : Hid (mwP { newPt t ⟨0, 0, 0, 0⟩ with sl := 1, d := D } b = ({ newPt t ⟨0, 0, 0, 0⟩ with sl := 1, d := D' }, n, [])) := hid (by
    unfold mwP newPt
    rw [if_neg (by show ¬ false = true; decide)]
    show (_, _, _) = _
    rw [(typeM_inv b hI.out).1, (typeM_inv b hI.out).2, hD.out, hn.out]
    rfl)
  refine (mwrite_any Inv (hid (fun D h => h.fit)) (hid (fun D x h => h.input x)) (AlP.py H) hI A n c b hb hn hm hA hr).mono ?_
  rintro e w' ⟨A', n', c', S', rfl, hl, _, h1, _⟩
  obtain rfl : 0 = n' := hl.out
  exact ⟨A', c', S', rfl, hid (H.out.next h1)⟩
theorem rd_al2 {w0 w : World} {g p : Nat} {S : Nat → Prop} {t : Tm} {D D' : Ds} {b : List UInt8} {er : Int} (H : Hid (AlP w0 w g p S { newPt t ⟨0, 0, 0, 0⟩ with sl := 1, d := D })) (hI : Hid (Inv D)) (hr : Hid (rdP { newPt t ⟨0, 0, 0, 0⟩ with sl := 1, d := D } 99 0 = ({ newPt t ⟨0, 0, 0, 0⟩ with sl := 1, d := D' }, b, er))) :
    Calls Tryz.prog 43 #[.pointer (some ⟨g, 0, none⟩), .int .i64 99, .int .i64 0] w fun e w' => ∃ A n c S', e = .returned (.tuple #[.slice A n c, .int .i64 er]) ∧ Hid (b.length = n) ∧ Hid (SlB w' w'.heap.size A c b) ∧ Hid (AlP w0 w' g p S' { newPt t ⟨0, 0, 0, 0⟩ with sl := 1, d := D' }) ∧ Hid (Py w g p S w' S' { newPt t ⟨0, 0, 0, 0⟩ with sl := 1, d := D' }) := by
  refine (sread_any (AlP.py H) (hid hI.out.fit) 99 0 (by unfold i64ok; omega) (by unfold i64ok; omega) hr).mono ?_
  rintro e w' ⟨A, n, c, S', rfl, hn, hs, h1, _⟩
  exact ⟨A, n, c, S', rfl, hn, hs, hid (H.out.next h1), h1⟩
theorem mr_al2 {w0 w : World} {g p : Nat} {S : Nat → Prop} {t : Tm} {D : Ds} (H : Hid (AlP w0 w g p S { newPt t ⟨0, 0, 0, 0⟩ with sl := 1, d := D })) (hI : Hid (Inv D)) (hs : D.s = false) (hl : D.out.length ≤ 600) {b : List UInt8} (hb : Hid (D.out = b)) {er : Int} (he : Hid ((if b = [] then (10 : Int) else 0) = er)) :
    Calls Tryz.prog 44 #[.pointer (some ⟨g, 0, none⟩), .int .i64 5000] w fun e w' => ∃ A n c S' P', e = .returned (.tuple #[.slice A n c, .int .i64 er]) ∧ Hid (b.length = n) ∧ Hid (SlB w' w'.heap.size A c b) ∧ Hid (AlP w0 w' g p S' P') ∧ Hid (Py w g p S w' S' P') := by
  have hoN : outN16 D 5000 = D.out.length := by
    unfold outN16
    rw [if_neg (by rw [hs]; decide)]
    omega
  have hr : Hid (mrP { newPt t ⟨0, 0, 0, 0⟩ with sl := 1, d := D } 5000 = ({ newPt t ⟨0, 0, 0, 0⟩ with sl := 1, d := outputD D 5000 }, b, er)) := hid (by
    unfold mrP tkP newPt
    rw [if_neg (by show ¬ false = true; decide)]
    have h1 : outputB D 5000 = b := by unfold outputB; rw [hoN, List.take_length, hb.out]
    show (_, outputB D 5000, if outputB D 5000 ≠ [] then (0 : Int) else if (1 : Int) ≤ 0 ∧ (outputD D 5000).out = [] then 11 else if (0 : Int) < 5000 then 10 else 0) = _
    rw [h1, ← he.out]
    by_cases h0 : b = []
    · rw [if_neg (fun h => h h0), if_neg (fun h => by have := h.1; omega), if_pos (by omega), if_pos h0]
    · rw [if_pos h0, if_neg h0])
  refine (mread_any (AlP.py H) (hid hI.out.fit) 5000 (by unfold i64ok; omega) hr).mono ?_
  rintro e w' ⟨A, n, c, S', rfl, hn, hs, h1, _⟩
  exact ⟨A, n, c, S', _, rfl, hn, hs, hid (H.out.next h1), h1⟩
end Go.Proofs.YtggcampdkgfmgaaGreat
