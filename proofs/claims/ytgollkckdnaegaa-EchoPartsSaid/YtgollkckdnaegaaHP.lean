import Derived.Test.YtgollkckdnaegaaHM
import Derived.BigQuiet
import Derived.Deep.QuietTactic
namespace Go.Proofs.Ytgollkckdnaegaa
open Go.RowKit

def nearB (col n : Int) : Bool := decide (n ≤ 2000) && (decide (col < 0) || decide (65535 < col) || decide (col < 30000))
theorem near_true {col n : Int} (h : nearB col n = true) : n ≤ 2000 ∧ nrm col < 30000 := by
  simp only [nearB, Bool.and_eq_true, Bool.or_eq_true, decide_eq_true_eq] at h
  exact ⟨h.1, nrm_near (by omega)⟩
set_option maxRecDepth 100000 in
theorem near_b (w : World) (col n : Int) {b : Bool} (h : nearB col n = b) : Calls Try.prog 14 #[.int .i64 col, .int .i64 n] w fun e w' => e = .returned (.bool b) ∧ w' = w := by
  subst h
  unfold nearB
  by_cases h1 : n ≤ 2000
  · by_cases h2 : col < 0
    · simp only [h1, h2, decide_true, Bool.true_or, Bool.and_self]
      go_enter Try.func14, Try.ntmps14
      go_wp2
      go_ret
      exact ⟨rfl, rfl⟩
    · by_cases h3 : 65535 < col
      · simp only [h1, h2, h3, decide_true, decide_false, Bool.true_or, Bool.false_or, Bool.and_self]
        go_enter Try.func14, Try.ntmps14
        go_wp2
        go_ret
        exact ⟨rfl, rfl⟩
      · by_cases h4 : col < 30000
        · simp only [h1, h2, h3, h4, decide_true, decide_false, Bool.false_or, Bool.and_self]
          go_enter Try.func14, Try.ntmps14
          go_wp2
          go_ret
          exact ⟨rfl, rfl⟩
        · simp only [h1, h2, h3, h4, decide_true, decide_false, Bool.false_or, Bool.and_false]
          go_enter Try.func14, Try.ntmps14
          go_wp2
          go_ret
          exact ⟨rfl, rfl⟩
  · simp only [h1, decide_false, Bool.false_and]
    go_enter Try.func14, Try.ntmps14
    go_wp2
    go_ret
    exact ⟨rfl, rfl⟩
section
variable {u0 : World} {z : Gr u0} {t : Tm} {s v : Bool} {M : Nat}
theorem q15 (ht : t.Ok) {col : Int} {c : UInt8} (hs60 : Hid (hasN t.f 60 = s)) (hs42 : Hid (hasN t.f 42 = v)) (hM : Hid (stepN s v (nrm col) c = M)) : Calls Try.prog 15 #[.agg t.cs, .int .i64 col, .int .u8 (c.toNat : Int)] (grw z) fun e w'' => e = .returned (.int .i64 (M : Int)) ∧ ∃ z' : Gr u0, w'' = grw z' := by
  rw [← hM.out]
  exact gr_call (step_any _ ht col c hs60 hs42)
theorem q16 (ht : t.Ok) {col : Int} {c : UInt8} (hs60 : Hid (hasN t.f 60 = s)) (hs42 : Hid (hasN t.f 42 = v)) (hM : Hid (stepN s v (nrm col) c = M)) : Calls Try.prog 16 #[.agg t.cs, .int .i64 col, .int .u8 (c.toNat : Int)] (grw z) fun e w'' => e = .returned (.int .i64 (M : Int)) ∧ ∃ z' : Gr u0, w'' = grw z' := by
  rw [← hM.out]
  exact gr_call (stepr_any _ ht col c hs60 hs42)
theorem q17 (ht : t.Ok) {col : Int} {A : Option Addr} {n c : Nat} {bs : List UInt8} (hs60 : Hid (hasN t.f 60 = s)) (hs42 : Hid (hasN t.f 42 = v)) (hb : Hid (SlB u0 u0.heap.size A c bs)) (hn : Hid (bs.length = n)) (hm : n ≤ 1000000) (hM : Hid (colsN s v (nrm col) bs = M)) : Calls Try.prog 17 #[.agg t.cs, .int .i64 col, .slice A n c] (grw z) fun e w'' => e = .returned (.int .i64 (M : Int)) ∧ ∃ z' : Gr u0, w'' = grw z' := by
  rw [← hM.out]
  exact gr_call (cols_any _ ht col A n c bs hs60 hs42 (slb_up hb z.b) hn.out hm)
theorem q18 (ht : t.Ok) {col : Int} {A : Option Addr} {n c : Nat} {bs : List UInt8} (hs60 : Hid (hasN t.f 60 = s)) (hs42 : Hid (hasN t.f 42 = v)) (hb : Hid (SlB u0 u0.heap.size A c bs)) (hn : Hid (bs.length = n)) (hm : Hid (nrm col + 8 * n ≤ 65535)) (hM : Hid (colsN s v (nrm col) bs = M)) : Calls Try.prog 18 #[.agg t.cs, .int .i64 col, .slice A n c] (grw z) fun e w'' => e = .returned (.int .i64 (M : Int)) ∧ ∃ z' : Gr u0, w'' = grw z' := by
  rw [← hM.out]
  exact gr_call (colsr_any _ ht col A n c bs hs60 hs42 (slb_up hb z.b) hn.out hm.out)
end
attribute [local go_sem ↓] wq_ld26
attribute [local go_sem] isP_v blkV_v aggV_v
set_option maxRecDepth 100000 in
set_option maxHeartbeats 8000000 in
theorem colsw_walk (w : World) (t : Tm) (ht : t.Ok) (col : Int) (A : Option Addr) (c n : Nat) (bs : List UInt8) (hb : Hid (SlB w w.heap.size A c bs)) (hn : bs.length = n) :
    Calls Try.prog 4 #[.agg t.cs, .int .i64 col, .slice A n c] w fun e w' => e = .returned (.bool true) ∧ Hid (Below w.heap.size w w') := by
  have hs := cs_size ht.len
  have K0 := old26 w t
  have L0 := slb_at hb K0
  have HN := hid hn
  cases hnb : nearB col (n : Int)
  · have HNB := hid hnb
    clear hnb
    go_enter Try.func4, Try.ntmps4
    go_wp2_with (first
      | (refine bx26 (by rfl) _ (by rfl) _ (by rfl) hs ?_
         intro G0)
      | (go_at_call 8
         (with_reducible refine (call_alive K0).mono ?_)
         rintro e u1 ⟨rfl, k, K1⟩)
      | (go_at_call 14
         (with_reducible refine (near_b _ col (n : Int) HNB.out).mono ?_)
         rintro e u2 ⟨rfl, rfl⟩))
    go_ret
    exact ⟨rfl, K1⟩
  · have hnr := near_true hnb
    have HNB := hid hnb
    clear hnb
    have hn2 : n ≤ 1000000 := by omega
    have hnr2 : Hid (nrm col + 8 * n ≤ 65535) := hid (by omega)
    clear hnr
    obtain ⟨s, hs60⟩ : ∃ s, Hid (hasN t.f 60 = s) := ⟨_, hid rfl⟩
    obtain ⟨v, hs42⟩ : ∃ v, Hid (hasN t.f 42 = v) := ⟨_, hid rfl⟩
    obtain ⟨M, hM⟩ : ∃ M, Hid (colsN s v (nrm col) bs = M) := ⟨_, hid rfl⟩
    go_enter Try.func4, Try.ntmps4
    go_wp2_with (first
      | (refine bx26 (by rfl) _ (by rfl) _ (by rfl) hs ?_
         intro G0)
      | (go_at_call 8
         (with_reducible refine (call_alive K0).mono ?_)
         rintro e u1 ⟨rfl, k, K1⟩
         have G1 := hid (box_below G0.out k.out)
         have L1 := slb_at L0 k
         clear k G0)
      | (go_at_call 14
         (with_reducible refine (near_b _ col (n : Int) HNB.out).mono ?_)
         rintro e u2 ⟨rfl, rfl⟩))
    go_loopw [18] (fun i wr => ∃ k : Nat, k ≤ n ∧ i = .int .i64 k ∧ Hid (SlB wr wr.heap.size A c bs) ∧ Hid (Below w.heap.size w wr) ∧ Hid (Box wr w.heap.size 26 t.cs)) (fun i _ => n - (intOf i).toNat)
    case atStart => exact ⟨0, Nat.zero_le _, rfl, L1, K1, G1⟩
    case round =>
      obtain ⟨k, hk, rfl, HL, HB, HG⟩ := hrel
      obtain ⟨q1, q2⟩ := box_isB HG.out ht.len
      by_cases hlt : k < n
      · obtain ⟨b, o, y, rfl, hy, cy⟩ := slb_cell HL.out hn hlt
        obtain ⟨m, hm⟩ : ∃ m, Hid (stepN s v (nrm col) y = m) := ⟨_, hid rfl⟩
        clear hy
        go_wp2
        refine wp_region_grown (by kernel_rfl) (by kernel_rfl) ?_
        repeat (go_big_quiet_step (first | (go_at_call 15; with_reducible exact q15 ht hs60 hs42 hm) | (go_at_call 16; with_reducible exact q16 ht hs60 hs42 hm)))
        refine wpQuiet_nil ?_
        intro z
        have B6 := bel_t HB z.b
        have G6 := hid (gr_box z HG.out)
        have L6 := slb_up HL z.b
        clear q1 q2
        go_wp2
        go_roundw
        case rel => exact ⟨k + 1, by omega, by go_num, L6, B6, G6⟩
        case measure => simp [intOf] <;> omega
      · go_wp2
        refine wp_region_grown (by kernel_rfl) (by kernel_rfl) ?_
        repeat (go_big_quiet_step (first | (go_at_call 17; with_reducible exact q17 ht hs60 hs42 HL HN hn2 hM) | (go_at_call 18; with_reducible exact q18 ht hs60 hs42 HL HN hnr2 hM)))
        refine wpQuiet_nil ?_
        intro z
        have B6 := bel_t HB z.b
        clear q1 q2
        go_wp2
        go_ret
        exact ⟨rfl, B6⟩
end Go.Proofs.Ytgollkckdnaegaa
