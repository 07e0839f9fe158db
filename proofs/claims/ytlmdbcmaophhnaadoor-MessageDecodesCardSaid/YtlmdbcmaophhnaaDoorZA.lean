import Derived.Test.YtlmdbcmaophhnaaDoorYF
namespace Go.Proofs.YtlmdbcmaophhnaaDoor
open Go.RowKit

theorem ret_u32 {x : Int} {n : Nat} (h : x = n) : Ending.returned (.int .u32 x) = .returned (.int .u32 n) := by rw [h]

set_option maxHeartbeats 1000000 in
set_option maxRecDepth 100000 in
theorem number_r (w : World) (B : Nat) (A : Option Addr) (c : Nat) (left : List UInt8) (hb : Lies w B A (bv left)) (h : 4 ≤ left.length) (hl : left.length ≤ 1000000) :
    Calls Tryd.prog 64 #[.slice A left.length c] w fun e w' => e = .returned (.int .u32 (num4 left)) ∧ Quiet w w' := by
  match left, h with
  | a :: b :: x :: d :: r, _ =>
    obtain ⟨bk, o, rfl, hbk, hcells⟩ := hb (by simp [bv])
    have c0 : w.cell? ⟨bk, o, none⟩ = some (.int .u8 a.toNat) := hcells 0 _ rfl
    have c1 : w.cell? ⟨bk, o + 1, none⟩ = some (.int .u8 b.toNat) := hcells 1 _ rfl
    have c2 : w.cell? ⟨bk, o + 2, none⟩ = some (.int .u8 x.toNat) := hcells 2 _ rfl
    have c3 : w.cell? ⟨bk, o + 3, none⟩ = some (.int .u8 d.toNat) := hcells 3 _ rfl
    clear hcells hb
    have h0 := a.toNat_lt
    have h1 := b.toNat_lt
    have h2 := x.toNat_lt
    have h3 := d.toNat_lt
    have hlen : (a :: b :: x :: d :: r).length = r.length + 4 := rfl
    rw [hlen] at hl ⊢
    have l0 : (0 : Int) < (r.length : Int) + 4 := by omega
    have l1 : (1 : Int) < (r.length : Int) + 4 := by omega
    have l2 : (2 : Int) < (r.length : Int) + 4 := by omega
    have l3 : (3 : Int) < (r.length : Int) + 4 := by omega
    go_enter Tryd.func64, Tryd.ntmps64
    go_wp2
    go_quiet (fail)
    go_wp2
    go_ret
    refine ⟨ret_u32 ?_, _, rfl⟩
    simp only [num4, List.getD, List.getElem?_cons_zero, List.getElem?_cons_succ, Option.getD_some]
    omega
end Go.Proofs.YtlmdbcmaophhnaaDoor
