import Derived.Test.YtoedhblihodgdaaDoorYF
import Derived.Deep.RegionLaw
namespace Go.Proofs.YtoedhblihodgdaaDoor
open Go.RowKit

theorem copy_n (W : World) (A : Option Addr) (c n : Nat) (l : List Fd) (hl : Hid (FdsV W W.heap.size A l)) (hs : Hid (Sized l)) (hn : l.length = n) (h1 : n ≤ 1000) :
    Calls Tryd.prog 10 #[.slice A n c] W fun e w2 => ∃ A1 c1, e = .returned (.slice A1 n c1) ∧ Hid (FdsV w2 w2.heap.size A1 l) ∧ Hid (Below W.heap.size W w2) ∧ (n ≤ c1 ∧ c1 ≤ maxLen) := by
  subst hn
  have hwf := fds_wf hl.out
  refine (copy_any W A c l hl.out hs.out h1).mono ?_
  rintro e w2 ⟨A1, c1, cs, rfl, ho, hf, hb⟩
  exact ⟨A1, c1, rfl, flat_fds ho hf hwf, hb, own_caps ho⟩
theorem write_o (W : World) (A : Option Addr) (c n : Nat) (l : List Fd) (er : Int) (bs : List UInt8) (hX : Hid (writeF l = (er, bs))) (hn : l.length = n) (hF : Hid (FdsV W W.heap.size A l)) (hc : n ≤ c) (hc2 : c ≤ maxLen) (m : Nat) (hm : bs.length = m) :
    Calls Tryd.prog 11 #[.slice A n c] W fun e w2 => ∃ A1 c1, e = .returned (.tuple #[.slice A1 m c1, .int .i64 er]) ∧ Hid (w2.ownsRow W.heap.size 5 1 (.slice A1 m c1) m (bv bs)) ∧ Hid (Below W.heap.size W w2) := by
  subst hn; subst hm
  refine (write_any W A c l hF.out hc hc2).mono ?_
  rw [hX.out]
  rintro e w2 ⟨A1, c1, rfl, ho, hb⟩
  exact ⟨A1, c1, rfl, ho, hb⟩
theorem rwrite_o (W : World) (A : Option Addr) (c n : Nat) (l : List Fd) (er : Int) (bs : List UInt8) (hX : Hid (writeF l = (er, bs))) (hn : l.length = n) (hF : Hid (FdsV W W.heap.size A l)) (h1 : n ≤ 1000) (m : Nat) (hm : bs.length = m) :
    Calls Tryd.prog 12 #[.slice A n c] W fun e w2 => ∃ A1 c1, e = .returned (.tuple #[.slice A1 m c1, .int .i64 er]) ∧ Hid (w2.ownsRow W.heap.size 5 1 (.slice A1 m c1) m (bv bs)) ∧ Hid (Below W.heap.size W w2) := by
  subst hn; subst hm
  refine (rwrite_any W A c l hF.out h1).mono ?_
  rw [hX.out]
  rintro e w2 ⟨A1, c1, rfl, ho, hb⟩
  exact ⟨A1, c1, rfl, ho, hb⟩
theorem bytes_t (W : World) (A A2 : Option Addr) (c c2 n : Nat) (bs : List UInt8) (h1 : Hid (Lies W W.heap.size A (bv bs))) (h2 : Hid (Lies W W.heap.size A2 (bv bs))) (hn : bs.length = n) (hl : n ≤ 100000) :
    Calls Tryd.prog 13 #[.slice A n c, .slice A2 n c2] W fun e w' => e = .returned (.bool true) ∧ Hid (Below W.heap.size W w') := by
  subst hn
  refine (bytes_any W _ _ A A2 c c2 bs bs h1.out h2.out (by unfold maxLen; omega) (by unfold maxLen; omega)).mono ?_
  rintro e w2 ⟨rfl, n, rfl⟩
  exact ⟨by simp, bel_drewN (Below.refl _ _) n⟩
theorem size_r (W : World) (B : Nat) (v : Value) (f : Fd) (n : Nat) (hv : Hid (FdV W B v f)) (hB : B ≤ W.heap.size) (hn : rsz f = n) :
    Calls Tryd.prog 15 #[v] W fun e w' => e = .returned (.int .i64 n) ∧ Hid (Below W.heap.size W w') := by
  subst hn
  refine (size_any W B v f hv.out hB (writeF [f]).1 (writeF [f]).2 (hid rfl)).mono ?_
  rw [writeF_rsz]
  exact fun e w' h => h
theorem rsize_r (W : World) (B : Nat) (v : Value) (f : Fd) (n : Nat) (hv : Hid (FdV W B v f)) (hB : B ≤ W.heap.size) (hn : rsz f = n) :
    Calls Tryd.prog 16 #[v] W fun e w' => e = .returned (.int .i64 n) ∧ Hid (Below W.heap.size W w') := by
  subst hn
  exact rsize_any W B v f hv.out hB
end Go.Proofs.YtoedhblihodgdaaDoor
