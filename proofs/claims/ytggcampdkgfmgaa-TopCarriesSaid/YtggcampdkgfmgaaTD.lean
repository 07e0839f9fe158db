import Derived.Test.YtggcampdkgfmgaaJT
import Derived.Test.YtggcampdkgfmgaaJL
import Derived.Test.YtggcampdkgfmgaaTC
namespace Go.Proofs.Ytggcampdkgfmgaa
open Go.RowKit

/-! Layer 17: bytes that are typed. -/
/-- What typing makes of a discipline, as long as not too many wait: how many were typed, the signals. -/
def typeM (D : Ds) : List UInt8 → Ds × Nat × List Int
  | [] => (D, 0, [])
  | c :: r => if 4096 ≤ usedD D then (D, 0, []) else ((typeM (inputD D c).1 r).1, (typeM (inputD D c).1 r).2.1 + 1, (inputD D c).2 ++ (typeM (inputD D c).1 r).2.2)
/-- A row of one's own that is nobody's. -/
def FreeR (w0 w : World) (S : Nat → Prop) (A : Option Addr) : Prop := ∀ x, A = some x → w0.heap.size ≤ x.block ∧ ¬ S x.block ∧ x.block < w.heap.size
theorem row_rel {w0 w u u2 : World} {p : Nat} {S0 S1 S2 : Nat → Prop} {D : Ds} {A : Option Addr} (R : Hid (Rel w0 u p S0 S2 D)) (F : Hid (FreeR w0 w S1 A)) (N : Hid (∀ x, S2 x → S1 x ∨ w.heap.size ≤ x)) (B : Hid (ButP (fun b => ∃ q, A = some q ∧ q.block = b) u u2)) : Hid (Rel w0 u2 p S0 S2 D) :=
  hid (R.out.keep B.out (fun x hx => by
    rintro ⟨a, ha, rfl⟩
    have h1 := F.out a ha
    rcases N.out _ hx with h | h
    · exact h1.2.1 h
    · omega) (fun x hx => by obtain ⟨a, ha, rfl⟩ := hx; exact .inr (F.out a ha).1))
theorem row_free {w0 w u u2 : World} {S1 S2 : Nat → Prop} {A A' : Option Addr} {n c : Nat} {xs : List Value} (F : Hid (FreeR w0 w S1 A)) (N : Hid (∀ x, S2 x → S1 x ∨ w.heap.size ≤ x)) (F2 : Hid (∀ q, A' = some q → (∃ r, A = some r ∧ r.block = q.block) ∨ u.heap.size ≤ q.block)) (P : Hid (u2.ownsRow 0 3 1 (.slice A' n c) n xs)) (h0 : w0.heap.size ≤ w.heap.size) (h1 : w.heap.size ≤ u.heap.size) (hS : ∀ x, S2 x → x < u.heap.size) : Hid (FreeR w0 u2 S2 A') := hid fun x hx => by
  subst hx
  have hlt := own_ltI P
  rcases F2.out x rfl with ⟨r, hr, e⟩ | h
  · have k := F.out r hr
    rw [e] at k
    refine ⟨k.1, fun hs => ?_, hlt⟩
    rcases N.out _ hs with h | h
    · exact k.2.1 h
    · omega
  · exact ⟨by omega, fun hs => by have := hS _ hs; omega, hlt⟩
theorem row_sli {w : World} {A : Option Addr} {n c : Nat} {l : List Int} (hn : Hid (l.length = n)) (h : Hid (w.ownsRow 0 3 1 (.slice A n c) n (iv16 l))) : Hid (SlI w w.heap.size A c l) := hid (by
  refine ⟨?_, ?_, ?_, Lies.own h.out⟩
  · rcases h.out.2 with ⟨hv, h0⟩ | ⟨g, cap, cur, hv, _, _, hnc, hcm, _⟩
    · injection hv with _ _ e
      have := hn.out
      omega
    · injection hv with _ _ e
      have := hn.out
      omega
  · rcases h.out.2 with ⟨hv, h0⟩ | ⟨g, cap, cur, hv, _, _, hnc, hcm, _⟩
    · injection hv with _ _ e
      subst e
      exact Nat.zero_le _
    · injection hv with _ _ e
      subst e
      exact hcm
  · intro e
    subst e
    rcases h.out.2 with ⟨hv, h0⟩ | ⟨g, cap, cur, hv, _⟩
    · injection hv with _ _ e
    · injection hv with e1
      cases e1)
theorem typeM_step {D D1 : Ds} {b : List UInt8} {k : Nat} {y : UInt8} {xs : List Int} (h : typeM D b = ((typeM D1 (b.drop k)).1, k + (typeM D1 (b.drop k)).2.1, xs ++ (typeM D1 (b.drop k)).2.2)) (hy : b[k]? = some y) (hu : ¬ 4096 ≤ usedD D1) :
    typeM D b = ((typeM (inputD D1 y).1 (b.drop (k + 1))).1, (k + 1) + (typeM (inputD D1 y).1 (b.drop (k + 1))).2.1, (xs ++ (inputD D1 y).2) ++ (typeM (inputD D1 y).1 (b.drop (k + 1))).2.2) := by
  obtain ⟨h1, h2⟩ := List.getElem?_eq_some_iff.1 hy
  rw [h, List.drop_eq_getElem_cons h1, h2, typeM, if_neg hu, List.append_assoc]
  simp only [Prod.mk.injEq, true_and]
  exact ⟨by omega, trivial⟩
/-- What typing has answered, and left. -/
def RetTy (w : World) (p : Nat) (S : Nat → Prop) (r : Ds × Nat × List Int) (e : Ending) (w' : World) : Prop := ∃ A n c, e = .returned (.tuple #[.int .i64 (r.2.1 : Int), .slice A n c]) ∧ Hid (r.2.2.length = n) ∧ Hid (SlI w' w'.heap.size A c r.2.2) ∧ DOut w p S r.1 w' ∧ n ≤ 20000
end Go.Proofs.Ytggcampdkgfmgaa
