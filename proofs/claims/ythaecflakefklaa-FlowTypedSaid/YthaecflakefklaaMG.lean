import Derived.Test.YthaecflakefklaaMF
namespace Go.Proofs.Ythaecflakefklaa
open Go.RowKit

theorem flagr_b (w : World) {op : Int} {b : Bool} (hg : flagB op = b) : Calls Try.prog 31 #[.int .i64 op] w fun e w' => e = .returned (.bool b) ∧ w' = w := by
  subst hg
  exact flagr_any w op
theorem hasr_b (w : World) (t : Tm) (ht : t.Ok) (op : Int) {b : Bool} (hb : hasN t.f op = b) : Calls Try.prog 20 #[.agg t.cs, .int .i64 op] w fun e w' => e = .returned (.bool b) ∧ Hid (Below w.heap.size w w') := by
  subst hb
  exact hasr_any w t ht op
theorem add_v {f : Nat} (hf : f < 18446744073709551616) {op : Int} (hg : flagB op = true) (h : hasN f op = false) : IntKind.u64.wrap ((f : Int) + bitV op) = ((setN f op true : Nat) : Int) := by
  obtain ⟨h1, h2⟩ := setN_add hf hg h
  rw [← h1, IntKind.wrap_u64]
  unfold bitV
  omega
theorem sub_v {f : Nat} (hf : f < 18446744073709551616) {op : Int} (hg : flagB op = true) (h : hasN f op = true) : IntKind.u64.wrap ((f : Int) - bitV op) = ((setN f op false : Nat) : Int) := by
  obtain ⟨h1, h2⟩ := setN_sub hf hg h
  unfold bitV
  rw [← h1, IntKind.wrap_u64]
  clear h1
  generalize 2 ^ kb op = z at h2 ⊢
  omega
theorem setT_same {t : Tm} (ht : t.Ok) {op : Int} {on : Bool} (h : hasN t.f op = on) : setT t op on = t := by simp [setT, setN_same ht.f h]
end Go.Proofs.Ythaecflakefklaa
