import Derived.Test.YtgollkckdnaegaaHM
namespace Go.Proofs.Ytgollkckdnaegaa
open Go.RowKit

theorem set_has {t : Tm} (ht : t.Ok) (op : Int) (on : Bool) (hg : flagB op = true) : hasN (setT t op on).f op = on := by
  show hasN (setN t.f op on) op = on
  rw [setN_has ht.f, if_pos ⟨hg, rfl⟩]
set_option maxRecDepth 100000 in
set_option maxHeartbeats 8000000 in
theorem signs_walk (w : World) (t : Tm) (ht : t.Ok) (A : Option Addr) (c n : Nat) (bs : List UInt8) (hb : Hid (SlB w w.heap.size A c bs)) (hn : bs.length = n) :
    Calls Try.prog 6 #[.agg t.cs, .slice A n c] w fun e w' => e = .returned (.bool true) ∧ Hid (Below w.heap.size w w') := by
  have hs := cs_size ht.len
  have K0 := old26 w t
  have L0 := slb_at hb K0
  by_cases h1 : 2000 < n
  · have k1 : (2000 : Int) < (n : Int) := by omega
    go_enter Try.func6, Try.ntmps6
    go_wp2_with (first
      | (refine bx26 (by rfl) _ (by rfl) _ (by rfl) hs ?_
         intro G0)
      | (go_at_call 8
         (with_reducible refine (call_alive K0).mono ?_)
         rintro e u1 ⟨rfl, k, K1⟩))
    go_ret
    exact ⟨rfl, K1⟩
  · have k1 : ¬ (2000 : Int) < (n : Int) := by omega
    have hm : n ≤ 400000 := by omega
    obtain ⟨t1, hq1⟩ : ∃ t1, setT t 60 true = t1 := ⟨_, rfl⟩
    obtain ⟨t2, hq2⟩ : ∃ t2, setT t 60 false = t2 := ⟨_, rfl⟩
    have ht1 : t1.Ok := by rw [← hq1]; exact setT_ok ht _ _
    have ht2 : t2.Ok := by rw [← hq2]; exact setT_ok ht _ _
    have hf1 : Hid (hasN t1.f 60 = true) := by rw [← hq1]; exact hid (set_has ht 60 true (by decide))
    have hf2 : Hid (hasN t2.f 60 = false) := by rw [← hq2]; exact hid (set_has ht 60 false (by decide))
    have HQ1 := hid hq1
    have HQ2 := hid hq2
    clear hq1 hq2
    obtain ⟨ls, hls⟩ : ∃ ls, lineB true bs = ls := ⟨_, rfl⟩
    have hsh : Hid (∀ d ∈ ls, Shown d) := by rw [← hls]; exact hid (lineB_shown bs)
    have hll : Hid (ls.length ≤ 4000) := by rw [← hls]; have := (lineB_len true bs).2; exact hid (by omega)
    have HLS := hid hls
    clear hls
    go_enter Try.func6, Try.ntmps6
    go_wp2_with (first
      | (refine bx26 (by rfl) _ (by rfl) _ (by rfl) hs ?_
         intro G0)
      | (refine ld26 (by rfl) _ (by rfl) _ (by rfl) t.cs G1.out hs ?_)
      | (go_at_call 8
         (with_reducible refine (call_alive K0).mono ?_)
         rintro e u1 ⟨rfl, k, K1⟩
         have G1 := hid (box_below G0.out k.out)
         have L1 := slb_at L0 k
         clear k G0)
      | (go_at_call 21
         (with_reducible refine (set_b _ ht HQ1.out).mono ?_)
         rintro e u2 ⟨rfl, k⟩
         have K2 := bel_t K1 k.out
         have G2 := hid (box_below G1.out k.out)
         have L2 := slb_at L1 k
         clear k G1 K1 L1)
      | (go_at_call 12
         (with_reducible refine (line_any _ ht1 A n c bs hf1 L2 hn hm).mono ?_)
         rw [HLS.out]
         rintro e u3 ⟨A3, n3, c3, rfl, hn3, o3, k3⟩
         have K3 := bel_t K2 k3.out
         have G3 := hid (box_below G2.out k3.out)
         have L3 := slb_at L2 k3
         have S3 := slb_own hn3 o3
         clear k3 G2 K2 L2 o3))
    have hn3b : n3 ≤ 4000 := by have := hll.out; have := hn3.out; omega
    go_loopw [17] (fun i wr => ∃ k : Nat, k ≤ n3 ∧ i = .int .i64 k ∧ Hid (SlB wr wr.heap.size A3 c3 ls) ∧ Hid (SlB wr wr.heap.size A c bs) ∧ Hid (Below w.heap.size w wr) ∧ Hid (Box wr w.heap.size 26 t.cs)) (fun i _ => n3 - (intOf i).toNat)
    case atStart => exact ⟨0, Nat.zero_le _, rfl, S3, L3, K3, G3⟩
    case round =>
      obtain ⟨k, hk, rfl, HS, HL, HB, HG⟩ := hrel
      by_cases hlt : k < n3
      · obtain ⟨b, o, y, rfl, hy, cy⟩ := slb_cell HS.out hn3.out hlt
        have hyS := hsh.out y (List.mem_of_getElem? hy)
        clear hy
        obtain ⟨hy1, hy2⟩ := hyS
        by_cases h32 : y.toNat < 32
        · rcases hy1 h32 with h9 | h10
          · have e9 : (y.toNat : Int) = 9 := by omega
            rw [e9] at cy
            clear e9 h9 hy1 hy2 h32
            go_wp2
            go_roundw
            case rel => exact ⟨k + 1, by omega, by go_num, HS, HL, HB, HG⟩
            case measure => simp [intOf] <;> omega
          · have e10 : (y.toNat : Int) = 10 := by omega
            rw [e10] at cy
            clear e10 h10 hy1 hy2 h32
            go_wp2
            go_roundw
            case rel => exact ⟨k + 1, by omega, by go_num, HS, HL, HB, HG⟩
            case measure => simp [intOf] <;> omega
        · have d1 : ¬ (y.toNat : Int) < 32 := by omega
          have d2 : (((y.toNat : Int)) == 127) = false := beq_eq_false_iff_ne.2 (by omega)
          clear hy1 hy2 h32
          go_wp2
          go_roundw
          case rel => exact ⟨k + 1, by omega, by go_num, HS, HL, HB, HG⟩
          case measure => simp [intOf] <;> omega
      · obtain rfl : k = n3 := by omega
        go_wp2_with (first
          | (refine ld26 (by rfl) _ (by rfl) _ (by rfl) t.cs HG.out hs ?_)
          | (go_at_call 21
             (with_reducible refine (set_b _ ht HQ2.out).mono ?_)
             rintro e u4 ⟨rfl, k4⟩
             have K4 := bel_t HB k4.out
             have L4 := slb_at HL k4
             clear k4)
          | (go_at_call 12
             (with_reducible refine (line_any _ ht2 A n c bs hf2 L4 hn hm).mono ?_)
             rw [lineB_off]
             rintro e u5 ⟨A5, n5, c5, rfl, hn5, o5, k5⟩
             have K5 := bel_t K4 k5.out
             have L5 := slb_at L4 k5
             have S5 := slb_own hn5 o5
             clear k5 o5)
          | (go_at_call 9
             (with_reducible refine (bytes_two _ A5 A c5 c n5 n bs bs hn5.out hn (Eq.refl bs) S5 L5 (by have := hn5.out; unfold maxLen; omega)).mono ?_)
             rintro e u6 ⟨rfl, k6⟩
             have K6 := bel_t K5 k6.out))
        go_ret
        exact ⟨rfl, K6⟩
end Go.Proofs.Ytgollkckdnaegaa
