import Derived.Test.YtjbmoiblkehbmaaDoorSGC
import Derived.BigQuiet
import Derived.Deep.QuietTactic
namespace Go.Proofs.YtjbmoiblkehbmaaDoor
namespace L18
open Go.RowKit

/-! Numbers compared, as layer 7's document compares them. -/
/-- Nothing but draws. -/
def Quiet (w w' : World) : Prop := ∃ n, w' = w.drewN n
theorem Quiet.refl (w : World) : Quiet w w := ⟨0, rfl⟩
theorem quiet2 (w : World) (a b : Nat) : Quiet w ((w.drewN a).drewN b) := ⟨a + b, World.drewN_drewN w a b⟩
theorem Quiet.below {w w' : World} (h : Quiet w w') : Hid (Below w.heap.size w w') := by
  obtain ⟨n, rfl⟩ := h
  have h := Below.refl w.heap.size w
  exact hid ⟨h.os, h.tape, h.output, h.size, h.block⟩
theorem list_ne {α : Type} {a b : List α} (k : Nat) (ha : k < a.length) (hb : k < b.length) (h : a[k] ≠ b[k]) : a ≠ b := by
  rintro rfl
  exact h rfl
theorem take_snc {α : Type} (l : List α) (k : Nat) (h : k < l.length) : l.take (k + 1) = l.take k ++ [l[k]] := by
  rw [List.take_succ_eq_append_getElem h]
set_option maxHeartbeats 1000000 in
set_option maxRecDepth 100000 in
theorem ints_any (w : World) (B B2 : Nat) (A A2 : Option Addr) (c c2 : Nat) (xs ys : List Int) (hx : Lies w B A (iv xs)) (hy : Lies w B2 A2 (iv ys)) (hl : xs.length ≤ maxLen) (hl2 : ys.length ≤ maxLen) :
    Calls Tryd.prog 21 #[.slice A xs.length c, .slice A2 ys.length c2] w fun e w' => e = .returned (.bool (decide (xs = ys))) ∧ Quiet w w' := by
  unfold maxLen at hl hl2
  have HX := hid hx
  have HY := hid hy
  clear hx hy
  by_cases hlen : xs.length = ys.length
  · have ht : ((xs.length : Int) == ys.length) = true := by simp [hlen]
    have ht2 : ((xs.length : Int) != ys.length) = false := by simp [hlen]
    have HL := hid hlen
    clear hlen
    go_enter Tryd.func21, Tryd.ntmps21
    go_wp2
    go_loopw [13] (fun i wr => ∃ k d : Nat, k ≤ xs.length ∧ i = .int .i64 k ∧ wr = w.drewN d ∧ Hid (xs.take k = ys.take k)) (fun i _ => xs.length - (intOf i).toNat)
    case atStart => exact ⟨0, 0, Nat.zero_le _, rfl, rfl, rfl⟩
    case round =>
      obtain ⟨k, d, hk, rfl, rfl, HT⟩ := hrel
      by_cases hlt : k < xs.length
      · have hlt2 : k < ys.length := by have := HL.out; omega
        obtain ⟨b, o, rfl, _, hc1⟩ := HX.out (by intro e; have := congrArg List.length e; simp [iv] at this; subst this; simp at hlt)
        obtain ⟨b2, o2, rfl, _, hc2⟩ := HY.out (by intro e; have := congrArg List.length e; simp [iv] at this; subst this; simp at hlt2)
        have c1 : w.cell? ⟨b, o + k, none⟩ = some (.int .i64 xs[k]) := hc1 k _ (by simp [iv, hlt])
        have c2 : w.cell? ⟨b2, o2 + k, none⟩ = some (.int .i64 ys[k]) := hc2 k _ (by simp [iv, hlt2])
        clear hc1 hc2
        have hi1 : (k : Int) < xs.length := by omega
        have hi2 : (k : Int) < ys.length := by omega
        by_cases he : xs[k] = ys[k]
        · have t1 : ((xs[k] : Int) == ys[k]) = true := by simp [he]
          have t2 : ((xs[k] : Int) != ys[k]) = false := by simp [he]
          have HS : Hid (xs.take (k + 1) = ys.take (k + 1)) := by
            show _ = _
            rw [take_snc _ _ hlt, take_snc _ _ hlt2, HT.out, he]
          clear he
          go_wp2
          go_quiet (fail)
          go_wp2
          go_roundw
          case rel => exact ⟨k + 1, _, by omega, by go_num, rfl, HS.out⟩
          case measure => simp [intOf]; omega
        · have t1 : ((xs[k] : Int) == ys[k]) = false := by simp; exact he
          have t2 : ((xs[k] : Int) != ys[k]) = true := by simp; exact he
          have hF : Hid (decide (xs = ys) = false) := by
            show _ = _
            simp
            exact list_ne k hlt hlt2 he
          clear he
          go_wp2
          go_quiet (fail)
          go_wp2
          go_ret
          rw [hF.out]
          exact ⟨rfl, quiet2 _ _ _⟩
      · have hF : Hid (decide (xs = ys) = true) := by
          show _ = _
          have h := HT.out
          rw [List.take_of_length_le (by omega), List.take_of_length_le (by have := HL.out; omega)] at h
          simp [h]
        go_wp2
        go_ret
        rw [hF.out]
        exact ⟨rfl, _, rfl⟩
  · have hF : Hid (decide (xs = ys) = false) := by
      show _ = _
      simp
      intro e
      exact hlen (by rw [e])
    have ht : ((xs.length : Int) == ys.length) = false := by simp; omega
    have ht2 : ((xs.length : Int) != ys.length) = true := by simp; omega
    clear hlen
    go_enter Tryd.func21, Tryd.ntmps21
    go_wp2
    go_ret
    rw [hF.out]
    exact ⟨rfl, Quiet.refl _⟩
theorem ints_b (w : World) {n n2 c c2 : Nat} {A A2 : Option Addr} {xs ys : List Int} {b : Bool} (hx : Hid (SlI w w.heap.size A c xs)) (hn : Hid (xs.length = n)) (hy : Hid (SlI w w.heap.size A2 c2 ys)) (hn2 : Hid (ys.length = n2)) (hb : Hid (decide (xs = ys) = b)) :
    Calls Tryd.prog 21 #[.slice A n c, .slice A2 n2 c2] w fun e w' => e = .returned (.bool b) ∧ Hid (Below w.heap.size w w') := by
  have h1 := hn.out
  have h2 := hn2.out
  subst h1; subst h2
  refine (ints_any w _ _ A A2 c c2 xs ys hx.out.2.2.2 hy.out.2.2.2 (Nat.le_trans hx.out.1 hx.out.2.1) (Nat.le_trans hy.out.1 hy.out.2.1)).mono ?_
  rintro e w' ⟨rfl, hq⟩
  rw [hb.out]
  exact ⟨rfl, hq.below⟩
theorem ints_same (w : World) {n n2 c c2 : Nat} {A A2 : Option Addr} {xs : List Int} (hx : Hid (SlI w w.heap.size A c xs)) (hn : Hid (xs.length = n)) (hy : Hid (SlI w w.heap.size A2 c2 xs)) (hn2 : Hid (xs.length = n2)) :
    Calls Tryd.prog 21 #[.slice A n c, .slice A2 n2 c2] w fun e w' => e = .returned (.bool true) ∧ Hid (Below w.heap.size w w') := ints_b w hx hn hy hn2 (hid (by simp))
end L18
end Go.Proofs.YtjbmoiblkehbmaaDoor
