import Derived.Test.YtjncahcigbdbgaaPA
import Derived.Test.YtjncahcigbdbgaaMH
namespace Go.Proofs.Ytjncahcigbdbgaa
open Go.RowKit

/-! Layer 12, the document's: the column, and what moves it. -/
set_option maxRecDepth 100000 in
theorem columnr_any (w : World) (col : Int) : Calls Try.prog 20 #[.int .i64 col] w fun e w' => e = .returned (.int .i64 (nrm col : Int)) ∧ w' = w := by
  by_cases h1 : col < 0
  · have hq : ((nrm col : Nat) : Int) = 0 := by unfold nrm; rw [if_pos (Or.inl h1)]; rfl
    rw [hq]
    go_enter Try.func20, Try.ntmps20
    go_wp2
    go_ret
    exact ⟨rfl, rfl⟩
  · by_cases h2 : 65535 < col
    · have hq : ((nrm col : Nat) : Int) = 0 := by unfold nrm; rw [if_pos (Or.inr h2)]; rfl
      rw [hq]
      go_enter Try.func20, Try.ntmps20
      go_wp2
      go_ret
      exact ⟨rfl, rfl⟩
    · have hq : ((nrm col : Nat) : Int) = col := by unfold nrm; rw [if_neg (by omega)]; omega
      rw [hq]
      go_enter Try.func20, Try.ntmps20
      go_wp2
      go_ret
      exact ⟨rfl, rfl⟩
theorem columnr_n (w : World) (n : Nat) (x : Int) (hx : x = (n : Int)) : Calls Try.prog 20 #[.int .i64 x] w fun e w' => e = .returned (.int .i64 (clampN n : Int)) ∧ w' = w := by
  subst hx
  have := columnr_any w (n : Int)
  rwa [nrm_clamp] at this
section
variable {u : Bool} {N : Nat} {c : UInt8}
theorem movedN_9 (h : c.toNat = 9) : movedN u N c = clampN ((N / 8 + 1) * 8) := by simp [movedN, h]
theorem movedN_8 (h : c.toNat = 8) : movedN u N c = N - 1 := by simp [movedN, h]
theorem movedN_13 (h : c.toNat = 13) : movedN u N c = 0 := by simp [movedN, h]
theorem movedN_ctl (h9 : c.toNat ≠ 9) (h8 : c.toNat ≠ 8) (h13 : c.toNat ≠ 13) (hc : c.toNat < 32 ∨ c.toNat = 127) : movedN u N c = N := by simp [movedN, h9, h8, h13, hc]
theorem movedN_cont (hc : ¬ (c.toNat < 32 ∨ c.toNat = 127)) (h1 : 128 ≤ c.toNat) (h2 : c.toNat ≤ 191) : movedN true N c = N := by
  unfold movedN
  rw [if_neg (by omega), if_neg (by omega), if_neg (by omega), if_neg hc, if_pos ⟨rfl, h1, h2⟩]
theorem movedN_one (hc : ¬ (c.toNat < 32 ∨ c.toNat = 127)) (hk : ¬ (u = true ∧ 128 ≤ c.toNat ∧ c.toNat ≤ 191)) : movedN u N c = clampN (N + 1) := by
  unfold movedN
  rw [if_neg (by omega), if_neg (by omega), if_neg (by omega), if_neg hc, if_neg hk]
end
theorem u8_eq (c : UInt8) {n : Nat} (h : c.toNat = n) : (c.toNat : Int) = (n : Int) := by rw [h]
set_option maxRecDepth 100000 in
set_option maxHeartbeats 4000000 in
theorem movedr_any (w : World) {t : Tm} (ht : t.Ok) (N : Nat) (hN : N ≤ 65535) (c : UInt8) {v : Bool} (hs42 : hasN t.f 42 = v) :
    Calls Try.prog 22 #[.agg t.cs, .int .i64 (N : Int), .int .u8 (c.toNat : Int)] w fun e w' => e = .returned (.int .i64 ((movedN v N c : Nat) : Int)) ∧ Hid (Below w.heap.size w w') := by
  have hs := cs_size ht.len
  have K0 := old26 w t
  by_cases h9 : c.toNat = 9
  · have e9 : (c.toNat : Int) = 9 := by omega
    rw [movedN_9 h9, e9]
    go_enter Try.func22, Try.ntmps22
    go_wp2_with (first
      | (refine bx26 (by rfl) _ (by rfl) _ (by rfl) hs ?_
         intro G0)
      | (go_at_call 20
         (with_reducible refine (columnr_n _ ((N / 8 + 1) * 8) _ (by omega)).mono ?_)
         rintro e u1 ⟨rfl, rfl⟩))
    go_ret
    exact ⟨rfl, K0⟩
  · by_cases h8 : c.toNat = 8
    · have e8 : (c.toNat : Int) = 8 := by omega
      rw [movedN_8 h8, e8]
      by_cases h0 : N = 0
      · subst h0
        go_enter Try.func22, Try.ntmps22
        go_wp2_with (first
          | (refine bx26 (by rfl) _ (by rfl) _ (by rfl) hs ?_
             intro G0))
        go_ret
        exact ⟨rfl, K0⟩
      · have hmx : max (0 : Int) ((N : Int) - 1) = (N : Int) - 1 := by omega
        have h01 : ¬ (N : Int) - 1 < 0 := by omega
        go_enter Try.func22, Try.ntmps22
        go_wp2_with (first
          | (refine bx26 (by rfl) _ (by rfl) _ (by rfl) hs ?_
             intro G0))
        all_goals
          go_ret
          exact ⟨ret_i64 (by omega), K0⟩
    · by_cases h13 : c.toNat = 13
      · have e13 : (c.toNat : Int) = 13 := by omega
        rw [movedN_13 h13, e13]
        go_enter Try.func22, Try.ntmps22
        go_wp2_with (first
          | (refine bx26 (by rfl) _ (by rfl) _ (by rfl) hs ?_
             intro G0))
        go_ret
        exact ⟨rfl, K0⟩
      · have k9 : (((c.toNat : Int)) == 9) = false := beq_eq_false_iff_ne.2 (by omega)
        have k8 : (((c.toNat : Int)) == 8) = false := beq_eq_false_iff_ne.2 (by omega)
        have k13 : (((c.toNat : Int)) == 13) = false := beq_eq_false_iff_ne.2 (by omega)
        by_cases h3 : c.toNat < 32
        · have d1 : (c.toNat : Int) < 32 := by omega
          rw [movedN_ctl h9 h8 h13 (Or.inl h3)]
          go_enter Try.func22, Try.ntmps22
          go_wp2_with (first
            | (refine bx26 (by rfl) _ (by rfl) _ (by rfl) hs ?_
               intro G0))
          go_ret
          exact ⟨rfl, K0⟩
        · have d1 : ¬ (c.toNat : Int) < 32 := by omega
          by_cases h7 : c.toNat = 127
          · have e7 : (c.toNat : Int) = 127 := by omega
            rw [movedN_ctl h9 h8 h13 (Or.inr h7), e7]
            clear k9 k8 k13 d1
            go_enter Try.func22, Try.ntmps22
            go_wp2_with (first
              | (refine bx26 (by rfl) _ (by rfl) _ (by rfl) hs ?_
                 intro G0))
            go_ret
            exact ⟨rfl, K0⟩
          · have d2 : (((c.toNat : Int)) == 127) = false := beq_eq_false_iff_ne.2 (by omega)
            have hc : ¬ (c.toNat < 32 ∨ c.toNat = 127) := by omega
            have hq : Hid ((movedN v N c = N ∧ v = true ∧ 128 ≤ c.toNat ∧ c.toNat ≤ 191) ∨ (movedN v N c = clampN (N + 1) ∧ ¬ (v = true ∧ 128 ≤ c.toNat ∧ c.toNat ≤ 191))) := by
              by_cases h : v = true ∧ 128 ≤ c.toNat ∧ c.toNat ≤ 191
              · exact Or.inl ⟨by rw [h.1]; exact movedN_cont hc h.2.1 h.2.2, h⟩
              · exact Or.inr ⟨movedN_one hc h, h⟩
            clear hc
            rcases hq.out with ⟨he, rfl, hx1, hx2⟩ | ⟨he, hn⟩
            · have e1 : (128 : Int) ≤ (c.toNat : Int) := by omega
              have e2 : (c.toNat : Int) ≤ 191 := by omega
              rw [he]
              clear he hq
              go_enter Try.func22, Try.ntmps22
              go_wp2_with (first
                | (refine bx26 (by rfl) _ (by rfl) _ (by rfl) hs ?_
                   intro G0)
                | (refine ld26 (by rfl) _ (by rfl) _ (by rfl) t.cs G0.out hs ?_)
                | (go_at_call 21
                   (with_reducible refine (hasr_b _ _ ht _ hs42).mono ?_)
                   rintro e u4 ⟨rfl, k4⟩
                   have K4 := bel_t K0 k4.out))
              go_ret
              exact ⟨rfl, K4⟩
            · rw [he]
              clear he hq
              have HNn := hid hn
              clear hn
              cases v
              · go_enter Try.func22, Try.ntmps22
                go_wp2_with (first
                  | (refine bx26 (by rfl) _ (by rfl) _ (by rfl) hs ?_
                     intro G0)
                  | (refine ld26 (by rfl) _ (by rfl) _ (by rfl) t.cs G0.out hs ?_)
                  | (go_at_call 21
                     (with_reducible refine (hasr_b _ _ ht _ hs42).mono ?_)
                     rintro e u4 ⟨rfl, k4⟩
                     have K4 := bel_t K0 k4.out)
                  | (go_at_call 20
                     (with_reducible refine (columnr_n _ (N + 1) _ (by omega)).mono ?_)
                     rintro e u1 ⟨rfl, rfl⟩))
                go_ret
                exact ⟨rfl, K4⟩
              · by_cases hx1 : 128 ≤ c.toNat
                · have e1 : (128 : Int) ≤ (c.toNat : Int) := by omega
                  have e2 : ¬ (c.toNat : Int) ≤ 191 := by intro h; exact HNn.out ⟨rfl, hx1, by omega⟩
                  go_enter Try.func22, Try.ntmps22
                  go_wp2_with (first
                    | (refine bx26 (by rfl) _ (by rfl) _ (by rfl) hs ?_
                       intro G0)
                    | (refine ld26 (by rfl) _ (by rfl) _ (by rfl) t.cs G0.out hs ?_)
                    | (go_at_call 21
                       (with_reducible refine (hasr_b _ _ ht _ hs42).mono ?_)
                       rintro e u4 ⟨rfl, k4⟩
                       have K4 := bel_t K0 k4.out)
                    | (go_at_call 20
                       (with_reducible refine (columnr_n _ (N + 1) _ (by omega)).mono ?_)
                       rintro e u1 ⟨rfl, rfl⟩))
                  go_ret
                  exact ⟨rfl, K4⟩
                · have e1 : ¬ (128 : Int) ≤ (c.toNat : Int) := by omega
                  go_enter Try.func22, Try.ntmps22
                  go_wp2_with (first
                    | (refine bx26 (by rfl) _ (by rfl) _ (by rfl) hs ?_
                       intro G0)
                    | (refine ld26 (by rfl) _ (by rfl) _ (by rfl) t.cs G0.out hs ?_)
                    | (go_at_call 21
                       (with_reducible refine (hasr_b _ _ ht _ hs42).mono ?_)
                       rintro e u4 ⟨rfl, k4⟩
                       have K4 := bel_t K0 k4.out)
                    | (go_at_call 20
                       (with_reducible refine (columnr_n _ (N + 1) _ (by omega)).mono ?_)
                       rintro e u1 ⟨rfl, rfl⟩))
                  go_ret
                  exact ⟨rfl, K4⟩
end Go.Proofs.Ytjncahcigbdbgaa
