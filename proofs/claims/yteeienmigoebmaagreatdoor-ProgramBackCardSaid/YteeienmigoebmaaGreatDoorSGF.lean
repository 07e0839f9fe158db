import Derived.Test.YteeienmigoebmaaGreatDoorSGE
namespace Go.Proofs.YteeienmigoebmaaGreatDoor.L18
open Go.RowKit

/-! Layer 18: the document's sets. -/
theorem div_has (f k : Nat) : decide ((f / 2 ^ k % 2 : Nat) = 1) = f.testBit k := by
  rw [Bool.eq_iff_iff, decide_eq_true_eq]
  exact has_div f k
theorem div_v {s p k : Nat} (hs : U64 s) (hp : Hid (2 ^ k = p)) : ((IntKind.u64.wrap ((s : Int) / p)).tmod 2 == 1) = s.testBit k := by
  have hs : s < 18446744073709551616 := hs
  have h1 : ((s : Int) / p) = ((s / p : Nat) : Int) := by omega
  have h2 : s / p ≤ s := Nat.div_le_self _ _
  rw [h1, IntKind.wrap_u64, ← div_has, hp.out]
  generalize s / p = z at h2 ⊢
  have h3 : ((z : Int) % 18446744073709551616) = z := by omega
  rw [h3, Int.tmod_eq_emod_of_nonneg (by omega), Bool.eq_iff_iff]
  simp
  omega
theorem bel_t {w a b : World} (h : Hid (Below w.heap.size w a)) (k : Below a.heap.size a b) : Hid (Below w.heap.size w b) := hid (h.out.trans (k.mono h.out.size))
theorem bel_al {u W : World} {o : Obj} (h : Hid (Below u.heap.size u W)) : Hid (Below u.heap.size u (W.alloc o)) := hid (h.out.alloc h.out.size o)
section
variable {w : World}
set_option maxRecDepth 100000 in
set_option maxHeartbeats 2000000 in
theorem rname_any (w : World) {g : Int} {n : ByteArray} {b : Bool} (hn : Hid (nmS g = n)) (hb : Hid (known g = b)) : Calls Tryz.prog 86 #[.int .i64 g] w fun e w' => e = .returned (.tuple #[.string n, .bool b]) ∧ Hid (Below w.heap.size w w') := by
  go_enter Tryz.func86, Tryz.ntmps86
  go_wp2_with (first
    | (go_at_call 98
       (with_reducible refine (ofr_any _ g).mono ?_)
       rintro e w1 ⟨rfl, B1⟩
       have B2 := fun o => bel_al (o := o) B1))
  go_ret2
  rw [hn.out, hb.out]
  exact ⟨rfl, B2 _⟩
/-- What is left of a set's list from a row on. -/
def restR (s k : Nat) : List Int := (sigL.drop k).filter (hasS s)
theorem restR_step (s : Nat) {k : Nat} {x : Int} (h : sigL[k]? = some x) : restR s k = if hasS s x = true then x :: restR s (k + 1) else restR s (k + 1) := by
  unfold restR
  obtain ⟨h1, rfl⟩ := List.getElem?_eq_some_iff.1 h
  rw [List.drop_eq_getElem_cons h1]
  split
  · rename_i hq
    rw [List.filter_cons_of_pos hq]
  · rename_i hq
    rw [List.filter_cons_of_neg hq]
end
end Go.Proofs.YteeienmigoebmaaGreatDoor.L18
