import Derived.Test.YtggcampdkgfmgaaOA
namespace Go.Proofs.Ytggcampdkgfmgaa.F2
open Go.RowKit

/-- How many bytes the packet at the front takes, and the error. -/
def nextF (s : List UInt8) : Nat × Int :=
  if s.length < 4 then (0, 3) else if num4 s < 1 ∨ 33792 < num4 s then (0, 5) else if s.length < 4 + num4 s then (0, 3) else (4 + num4 s, 0)

theorem ret_next {a b : Int} {n : Nat} {e : Int} (h : a = n) (k : b = e) : Ending.returned (.tuple #[.int .i64 a, .int .i64 b]) = .returned (.tuple #[.int .i64 n, .int .i64 e]) := by rw [h, k]

set_option maxHeartbeats 1000000 in
set_option maxRecDepth 100000 in
theorem next_any (w : World) (B : Nat) (A : Option Addr) (c : Nat) (s : List UInt8) (hb : Lies w B A (bv s)) (hl : s.length ≤ 1000000) :
    Calls Try.prog 27 #[.slice A s.length c] w fun e w' => e = .returned (.tuple #[.int .i64 (nextF s).1, .int .i64 (nextF s).2]) ∧ Quiet w w' := by
  by_cases h4 : s.length < 4
  · have e : nextF s = (0, 3) := by unfold nextF; rw [if_pos h4]
    rw [e]
    clear hb
    go_enter Try.func27, Try.ntmps27
    go_wp2
    go_ret2
    exact ⟨rfl, Quiet.refl _⟩
  · have h4' : 4 ≤ s.length := by omega
    match s, h4' with
    | a :: b :: x :: d :: r, _ =>
      obtain ⟨bk, o, rfl, hbk, hcells⟩ := hb (by simp [bv])
      have c0 : w.cell? ⟨bk, o, none⟩ = some (.int .u8 a.toNat) := hcells 0 _ rfl
      have c1 : w.cell? ⟨bk, o + 1, none⟩ = some (.int .u8 b.toNat) := hcells 1 _ rfl
      have c2 : w.cell? ⟨bk, o + 2, none⟩ = some (.int .u8 x.toNat) := hcells 2 _ rfl
      have c3 : w.cell? ⟨bk, o + 3, none⟩ = some (.int .u8 d.toNat) := hcells 3 _ rfl
      clear hcells hb
      have h0 := a.toNat_lt
      have h1 := b.toNat_lt
      have h2 := x.toNat_lt
      have h3 := d.toNat_lt
      have hor := or4 a b x d
      obtain ⟨N, HN⟩ : ∃ N : Nat, Hid (num4 (a :: b :: x :: d :: r) = N) := ⟨_, hid rfl⟩
      have hN : a.toNat * 16777216 + b.toNat * 65536 + x.toNat * 256 + d.toNat = N := HN.out
      rw [hN] at hor
      have hNb : N < 4294967296 := by omega
      clear hN
      have hlen : (a :: b :: x :: d :: r).length = r.length + 4 := rfl
      have he : nextF (a :: b :: x :: d :: r) = if N < 1 ∨ 33792 < N then (0, 5) else if r.length + 4 < 4 + N then (0, 3) else (4 + N, 0) := by
        unfold nextF
        rw [HN.out, hlen, if_neg (by omega)]
      have HE := hid he
      clear he
      rw [hlen] at hl ⊢
      have l0 : (0 : Int) < (r.length : Int) + 4 := by omega
      have l1 : (1 : Int) < (r.length : Int) + 4 := by omega
      have l2 : (2 : Int) < (r.length : Int) + 4 := by omega
      have l3 : (3 : Int) < (r.length : Int) + 4 := by omega
      clear h0 h1 h2 h3 HN
      by_cases g1 : N < 1
      · rw [HE.out, if_pos (.inl g1)]
        have hN0 : N = 0 := by omega
        subst hN0
        go_enter Try.func27, Try.ntmps27
        go_wp2
        go_quiet (fail)
        go_wp2
        go_ret2
        exact ⟨rfl, _, rfl⟩
      · by_cases g2 : 33792 < N
        · rw [HE.out, if_pos (.inr g2)]
          have t1 : ¬ ((N : Int) < 1) := by omega
          have t2 : (33792 : Int) < N := by omega
          go_enter Try.func27, Try.ntmps27
          go_wp2
          go_quiet (fail)
          go_wp2
          go_ret2
          exact ⟨rfl, _, rfl⟩
        · rw [HE.out, if_neg (by omega)]
          have t1 : ¬ ((N : Int) < 1) := by omega
          have t2 : ¬ ((33792 : Int) < N) := by omega
          by_cases g3 : r.length + 4 < 4 + N
          · rw [if_pos g3]
            have t3 : (r.length : Int) + 4 < 4 + N := by omega
            go_enter Try.func27, Try.ntmps27
            go_wp2
            go_quiet (fail)
            go_wp2
            go_ret2
            exact ⟨rfl, _, rfl⟩
          · rw [if_neg g3]
            have t3 : ¬ ((r.length : Int) + 4 < 4 + N) := by omega
            go_enter Try.func27, Try.ntmps27
            go_wp2
            go_quiet (fail)
            go_wp2
            go_ret2
            exact ⟨ret_next (by omega) rfl, _, rfl⟩
end Go.Proofs.Ytggcampdkgfmgaa.F2
