import Derived.Test.YtggcampdkgfmgaaJB
import Derived.Test.YtggcampdkgfmgaaJL
namespace Go.Proofs.Ytggcampdkgfmgaa
open Go.RowKit Go.Shelf
attribute [local go_sem] Oper.semAt_some

/-! Layer 16: whether a setting is right (layer 8). -/
def vals (l : List Fl) : List Int := l.map (·.1)
theorem vals_snoc (l : List Fl) (x : Fl) : vals (l ++ [x]) = vals l ++ [x.1] := by simp [vals]
theorem vals_flags (l : List Fl) : ∀ y ∈ vals l, flagB y = true := fun y hy => by obtain ⟨z, _, rfl⟩ := List.mem_map.1 hy; exact z.2
theorem or_bits (l : List Fl) (x : Fl) : bits .or .u64 ((maskL (vals l) : Nat) : Int) (bitV x.1) = ((maskL (vals (l ++ [x])) : Nat) : Int) := by
  unfold bitV
  rw [u64_or_nat _ _ (maskL_lt _ (vals_flags l)) (pow_lt (kb_lt x.2)), vals_snoc, maskL_snoc]

def fitsB (x : Int) : Bool := decide (0 ≤ x) && decide (x ≤ 255)
def rightB (t : Tm) : Bool := decide (okF t.f) && decide (t.c.getD 0 0 = 0) && fitsB t.m && fitsB t.s
theorem okF_v {f : Nat} (hf : f < 18446744073709551616) : ((bits .andNot .u64 (f : Int) ((mask : Nat) : Int) == 0) : Bool) = decide (okF f) := by
  rw [u64_andNot_nat _ _ hf mask_lt]
  rw [show decide (okF f) = decide (f &&& (18446744073709551615 - mask) = 0) from decide_eq_decide.2 Iff.rfl]
  generalize f &&& (18446744073709551615 - mask) = z
  by_cases h : z = 0
  · subst h; rfl
  · simp [h]
theorem c0_v {t : Tm} (h : t.c.length = 19) : t.cs[0]? = some (.int .u8 ((t.c.getD 0 0).toNat : Int)) ∧ ((((t.c.getD 0 0).toNat : Int) == 0) : Bool) = decide (t.c.getD 0 0 = 0) := by
  constructor
  · have := cs_char h 0 (by omega)
    rw [this]
    simp [List.getD, h]
  · generalize t.c.getD 0 0 = x
    by_cases hx : x = 0
    · subst hx; rfl
    · have : x.toNat ≠ 0 := fun e => hx (UInt8.toNat_inj.1 (by simpa using e))
      simp [hx]
      exact this
end Go.Proofs.Ytggcampdkgfmgaa
