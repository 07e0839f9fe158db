import Derived.Test.YtnodlpbmlfdijaaFA
namespace Go.Proofs.Ytnodlpbmlfdijaa
open Go.RowKit

theorem bytes_n (w : World) (B B2 : Nat) (A A2 : Option Addr) (c c2 n n2 : Nat) (xs ys : List UInt8) (b : Bool) (hx : Hid (Lies w B A (bv xs))) (hy : Hid (Lies w B2 A2 (bv ys))) (hn : Hid (xs.length = n)) (hn2 : Hid (ys.length = n2)) (hl : n ≤ maxLen) (hl2 : n2 ≤ maxLen) (hb : Hid (decide (xs = ys) = b)) :
    Calls Try.prog 15 #[.slice A n c, .slice A2 n2 c2] w fun e w' => ∃ d, e = .returned (.bool b) ∧ w' = w.drewN d := by
  have h1 := hn.out
  have h2 := hn2.out
  subst h1; subst h2
  rw [← hb.out]
  refine (bytes_any w B B2 A A2 c c2 xs ys hx.out hy.out hl hl2).mono ?_
  rintro e w' ⟨rfl, d, rfl⟩
  exact ⟨d, rfl, rfl⟩

set_option maxHeartbeats 1000000 in
set_option maxRecDepth 100000 in
theorem lists_any (w : World) (B B2 : Nat) (A A2 : Option Addr) (c c2 : Nat) (ls ms : List (List UInt8)) (hx : LisV w B A ls) (hy : LisV w B2 A2 ms) (hl : ls.length ≤ maxLen) (_hl2 : ms.length ≤ maxLen) (hs : ∀ b ∈ ls, b.length ≤ maxLen) (hs2 : ∀ b ∈ ms, b.length ≤ maxLen) :
    Calls Try.prog 16 #[.slice A ls.length c, .slice A2 ms.length c2] w fun e w' => e = .returned (.bool (decide (ls = ms))) ∧ Quiet w w' := by
  unfold maxLen at hl _hl2
  have HX := hid hx
  have HY := hid hy
  have HS := hid hs
  have HS2 := hid hs2
  clear hx hy hs hs2
  by_cases hlen : ls.length = ms.length
  · have ht : ((ls.length : Int) == ms.length) = true := by simp [hlen]
    have ht2 : ((ls.length : Int) != ms.length) = false := by simp [hlen]
    have HL := hid hlen
    clear hlen
    go_enter Try.func16, Try.ntmps16
    go_wp2
    go_loopw [13] (fun i wr => ∃ k d : Nat, k ≤ ls.length ∧ i = .int .i64 k ∧ wr = w.drewN d ∧ Hid (ls.take k = ms.take k)) (fun i _ => ls.length - (intOf i).toNat)
    case atStart => exact ⟨0, 0, Nat.zero_le _, rfl, rfl, rfl⟩
    case round =>
      obtain ⟨k, d, hk, rfl, rfl, HT⟩ := hrel
      by_cases hlt : k < ls.length
      · have hlt2 : k < ms.length := by have := HL.out; omega
        obtain ⟨b, o, rfl, _, hc1⟩ := HX.out (by intro e; rw [e] at hlt; simp at hlt)
        obtain ⟨b2, o2, rfl, _, hc2⟩ := HY.out (by intro e; rw [e] at hlt2; simp at hlt2)
        obtain ⟨A1, c1, g1, s1⟩ := hc1 k hlt
        obtain ⟨A2, c2, g2, s2⟩ := hc2 k hlt2
        have m1 := HS.out ls[k] (List.getElem_mem hlt)
        have m2 := HS2.out ms[k] (List.getElem_mem hlt2)
        have i1 : (k : Int) < ls.length := by omega
        have i2 : (k : Int) < ms.length := by omega
        have HS1 : Hid (∀ d, Lies (w.drewN d) B A1 (bv ls[k])) := fun d => s1.2.2.2
        have HS2' : Hid (∀ d, Lies (w.drewN d) B2 A2 (bv ms[k])) := fun d => s2.2.2.2
        clear hc1 hc2 s1 s2
        obtain ⟨x, Hx⟩ : ∃ x, Hid (ls[k].length = x) := ⟨_, hid rfl⟩
        obtain ⟨y, Hy⟩ : ∃ y, Hid (ms[k].length = y) := ⟨_, hid rfl⟩
        rw [Hx.out] at g1 m1
        rw [Hy.out] at g2 m2
        by_cases he : ls[k] = ms[k]
        · have HD : Hid (decide (ls[k] = ms[k]) = true) := by show _ = _; simp [he]
          have HT2 : Hid (ls.take (k + 1) = ms.take (k + 1)) := by
            show _ = _
            rw [take_snoc _ _ hlt, take_snoc _ _ hlt2, HT.out, he]
          clear he
          go_wp2
          go_region_law (first
            | (go_simp
               go_at_call 15
               ((with_reducible refine (bytes_n _ B B2 A1 A2 c1 c2 x y ls[k] ms[k] true (hid (HS1.out _)) (hid (HS2'.out _)) Hx Hy m1 m2 HD).mono ?_); rintro e w2 ⟨d2, rfl, rfl⟩)))
          all_goals
            go_wp2
            go_roundw
            case rel => exact ⟨k + 1, _, by omega, by go_num, rfl, HT2.out⟩
            case measure => simp [intOf]; omega
        · have HD : Hid (decide (ls[k] = ms[k]) = false) := by show _ = _; simp [he]
          have hF : Hid (decide (ls = ms) = false) := by
            show _ = _
            simp
            exact list_ne k hlt hlt2 he
          clear he
          go_wp2
          go_region_law (first
            | (go_simp
               go_at_call 15
               ((with_reducible refine (bytes_n _ B B2 A1 A2 c1 c2 x y ls[k] ms[k] false (hid (HS1.out _)) (hid (HS2'.out _)) Hx Hy m1 m2 HD).mono ?_); rintro e w2 ⟨d2, rfl, rfl⟩)))
          all_goals
            go_wp2
            go_ret
            rw [hF.out]
            exact ⟨rfl, _, rfl⟩
      · have hF : Hid (decide (ls = ms) = true) := by
          show _ = _
          have h := HT.out
          rw [List.take_of_length_le (by omega), List.take_of_length_le (by have := HL.out; omega)] at h
          simp [h]
        go_wp2
        go_ret
        rw [hF.out]
        exact ⟨rfl, _, rfl⟩
  · have hF : Hid (decide (ls = ms) = false) := by
      show _ = _
      simp
      intro e
      exact hlen (by rw [e])
    have ht : ((ls.length : Int) == ms.length) = false := by simp; omega
    have ht2 : ((ls.length : Int) != ms.length) = true := by simp; omega
    clear hlen
    go_enter Try.func16, Try.ntmps16
    go_wp2
    go_ret
    rw [hF.out]
    exact ⟨rfl, Quiet.refl _⟩
end Go.Proofs.Ytnodlpbmlfdijaa
