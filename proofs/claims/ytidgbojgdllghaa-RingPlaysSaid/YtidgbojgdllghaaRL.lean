import Derived.Test.YtidgbojgdllghaaRK
import Derived.Test.YtidgbojgdllghaaRJ
namespace Go.Proofs.Ytidgbojgdllghaa
open Go.RowKit

theorem write_q (w : World) {g h size c : Nat} {q b q' : List UInt8} {A : Option Addr} (n m : Nat) (hn : Hid (b.length = n)) (hm : Hid (min b.length (size - q.length) = m)) (hq : Hid (q ++ b.take m = q')) (hr : Hid (Rg w g h size q)) (hb : Hid (SlB w w.heap.size A c b)) (hA : Hid (b ≠ [] → ∀ a, A = some a → a.block ≠ h)) :
    Calls Try.prog 18 #[.pointer (some ⟨g, 0, none⟩), .slice A n c] w fun e w' => e = .returned (.int .i64 m) ∧ Hid (Rg w' g h size q') ∧ Hid (But [g, h] w w') := by
  have := hn.out
  subst this
  have := hq.out
  subst this
  exact write_any w m hm.out.symm hr hb hA.out
theorem read_q (w : World) {g h size : Nat} {q t q' : List UInt8} (n : Int) (k : Nat) (hk : Hid (had n q.length = k)) (ht : Hid (q.take k = t)) (hq : Hid (q.drop k = q')) (hr : Hid (Rg w g h size q)) :
    Calls Try.prog 19 #[.pointer (some ⟨g, 0, none⟩), .int .i64 n] w fun e w' => ∃ A c, e = .returned (.slice A k c) ∧ Hid (w'.ownsRow w.heap.size 5 1 (.slice A k c) k (bv t)) ∧ Hid (Rg w' g h size q') ∧ Hid (But [g] w w') :=
  read_n w n k hk.out ht.out hq.out hr
theorem slb_far {w : World} {B h c : Nat} {A : Option Addr} {b : List UInt8} (hs : Hid (SlB w B A c b)) (hB : B ≤ h) : Hid (b ≠ [] → ∀ a, A = some a → a.block ≠ h) := fun hn a e => by
  obtain ⟨bk, o, e2, hlt, _⟩ := hs.out.2.2.2 (by
    intro e3
    apply hn
    simpa [bv] using e3)
  subst e
  injection e2 with e2
  subst e2
  intro e4
  simp at e4
  omega
theorem bytes_q (w : World) (A A2 : Option Addr) (c c2 n n2 : Nat) (xs ys : List UInt8) (d : Bool) (hx : Hid (Lies w w.heap.size A (bv xs))) (hy : Hid (Lies w w.heap.size A2 (bv ys))) (hn : Hid (xs.length = n)) (hn2 : Hid (ys.length = n2)) (hl : n ≤ maxLen) (hl2 : n2 ≤ maxLen) (hd : Hid (decide (xs = ys) = d)) :
    Calls Try.prog 13 #[.slice A n c, .slice A2 n2 c2] w fun e w' => ∃ k, e = .returned (.bool d) ∧ w' = w.drewN k := by
  have h1 := hn.out
  have h2 := hn2.out
  subst h1; subst h2
  have h3 := hd.out
  subst h3
  refine (bytes_any w w.heap.size w.heap.size A A2 c c2 xs ys hx.out hy.out hl hl2).mono ?_
  rintro e w' ⟨rfl, k, rfl⟩
  exact ⟨k, rfl, rfl⟩

/-- The sums of RingParts. -/
theorem parts_math (b : List UInt8) (size at_ n k m y z k1 k2 k3 : Nat) (ha : at_ ≤ b.length) (hm : min b.length size = m) (hy : min at_ size = y) (hz : min (b.length - at_) (size - y) = z) (h1 : min n m = k1) (h2 : min k (m - k1) = k2) (h3 : min (n + k) m = k3) :
    m = y + z ∧ b.take y ++ (b.drop at_).take z = b.take m ∧ k3 = k1 + k2 ∧ (b.take m).take k1 ++ ((b.take m).drop k1).take k2 = (b.take m).take k3 := by
  have e1 : m = y + z := by omega
  have e3 : k3 = k1 + k2 := by omega
  refine ⟨e1, ?_, e3, ?_⟩
  · by_cases h : at_ ≤ size
    · have hy2 : y = at_ := by omega
      rw [e1, hy2, ← List.take_add]
    · have hz0 : z = 0 := by omega
      rw [e1, hz0]
      simp
  · rw [e3, ← List.take_add]
theorem had_nat (n l : Nat) : had (n : Int) l = min n l := by unfold had; omega

theorem grown_but {w w' : World} {row : Option Nat} (hg : w.grownBy w' row) : But row.toList w w' := (But.refl _ _).grown hg (fun k e => by subst e; simp)
theorem bel_al {w w' : World} {o : Obj} (h : Hid (Below (w.alloc o).heap.size (w.alloc o) w')) : Below w.heap.size w w' := ((Below.refl _ _).alloc (Nat.le_refl _) o).trans (h.out.mono (by simp))

set_option maxHeartbeats 4000000 in
set_option maxRecDepth 100000 in
theorem parts_bad (w : World) (size : Int) (A : Option Addr) (c n0 cut n k : Nat) (b : List UInt8) (_hn0 : Hid (b.length = n0)) (_hb : Hid (SlB w w.heap.size A c b)) (hs : size < 1 ∨ 65536 < size) :
    Calls Try.prog 6 #[.agg #[.int .i64 size, .slice A n0 c, .int .u16 cut, .int .u16 n, .int .u16 k]] w fun e w' => e = .returned (.bool true) ∧ Hid (Below w.heap.size w w') := by
  by_cases hbig : (100000 : Int) < n0
  · go_enter Try.func6, Try.ntmps6
    go_wp2_with (first
      | (go_at_call 7
         ((with_reducible refine (alive_any _).mono ?_); rintro e w1 ⟨rfl, HB1⟩)
         have hx1 := box_below (Box.new w 49 _) HB1.out
         have c0 := hx1.cell 0
         have c1 := hx1.cell 1
         have c2 := hx1.cell 2
         have c3 := hx1.cell 3
         have c4 := hx1.cell 4
         clear hx1))
    go_quiet (fail)
    go_wp2
    go_ret
    exact ⟨rfl, bel_drewN (bel_al HB1) _⟩
  · go_enter Try.func6, Try.ntmps6
    go_wp2_with (first
      | (go_at_call 7
         ((with_reducible refine (alive_any _).mono ?_); rintro e w1 ⟨rfl, HB1⟩)
         have hx1 := box_below (Box.new w 49 _) HB1.out
         have c0 := hx1.cell 0
         have c1 := hx1.cell 1
         have c2 := hx1.cell 2
         have c3 := hx1.cell 3
         have c4 := hx1.cell 4
         clear hx1))
    go_quiet (fail)
    go_wp2_with (first
      | (go_at_call 9
         ((with_reducible refine (new_bad _ size hs).mono ?_); rintro e w2 ⟨rfl, rfl⟩))
      | (go_at_call 9
         ((with_reducible refine (new_bad _ size hs).mono ?_); rintro e w3 ⟨rfl, rfl⟩)))
    go_ret
    exact ⟨rfl, bel_drewN (bel_al HB1) _⟩

set_option maxHeartbeats 4000000 in
set_option maxRecDepth 100000 in
theorem parts_big (w : World) (size : Int) (A : Option Addr) (c n0 cut n k : Nat) (hbig : (100000 : Int) < n0) :
    Calls Try.prog 6 #[.agg #[.int .i64 size, .slice A n0 c, .int .u16 cut, .int .u16 n, .int .u16 k]] w fun e w' => e = .returned (.bool true) ∧ Hid (Below w.heap.size w w') := by
  go_enter Try.func6, Try.ntmps6
  go_wp2_with (first
    | (go_at_call 7
       ((with_reducible refine (alive_any _).mono ?_); rintro e w1 ⟨rfl, HB1⟩)
       have hx1 := box_below (Box.new w 49 _) HB1.out
       have c0 := hx1.cell 0
       have c1 := hx1.cell 1
       have c2 := hx1.cell 2
       have c3 := hx1.cell 3
       have c4 := hx1.cell 4
       clear hx1))
  go_quiet (fail)
  go_wp2
  go_ret
  exact ⟨rfl, bel_drewN (bel_al HB1) _⟩

set_option maxHeartbeats 4000000 in
set_option maxRecDepth 100000 in
/-- The walk of RingParts, where there are rings: the two slices of b are given. -/
theorem parts_walk (w : World) (size : Nat) (A : Option Addr) (c n0 cut n k at_ : Nat) (b : List UInt8) (hn0 : Hid (b.length = n0)) (hb : Hid (SlB w w.heap.size A c b)) (hs1 : 1 ≤ size) (hs2 : size ≤ 65536) (hsmall : n0 ≤ 100000)
    (hcut : cut < 65536) (hn : n < 65536) (hk : k < 65536) (hat : (cut : Int) % ((n0 : Int) + 1) = at_) (hat2 : (cut : Int).tmod ((n0 : Int) + 1) = at_) (hat1 : at_ ≤ n0) (hc : n0 ≤ c) (hc2 : c ≤ 9223372036854775807)
    (hcase : (A = none ∧ n0 = 0 ∧ c = 0 ∧ at_ = 0) ∨ (∃ a, A = some a ∧ at_ = c ∧ at_ = n0) ∨ (∃ a, A = some a ∧ ¬ (c = at_))) :
    Calls Try.prog 6 #[.agg #[.int .i64 size, .slice A n0 c, .int .u16 cut, .int .u16 n, .int .u16 k]] w fun e w' => e = .returned (.bool true) ∧ Hid (Below w.heap.size w w') := by
  obtain ⟨i0, hi0, hz0, hz1, hz2⟩ := info_parts Try.info5
  obtain ⟨m, HM⟩ : ∃ x, Hid (min n0 size = x) := ⟨_, hid rfl⟩
  obtain ⟨y, HY⟩ : ∃ x, Hid (min at_ size = x) := ⟨_, hid rfl⟩
  obtain ⟨z, HZ⟩ : ∃ x, Hid (min (n0 - at_) (size - y) = x) := ⟨_, hid rfl⟩
  obtain ⟨k1, HK1⟩ : ∃ x, Hid (min n m = x) := ⟨_, hid rfl⟩
  obtain ⟨k2, HK2⟩ : ∃ x, Hid (min k (m - k1) = x) := ⟨_, hid rfl⟩
  obtain ⟨k3, HK3⟩ : ∃ x, Hid (min (n + k) m = x) := ⟨_, hid rfl⟩
  obtain ⟨pm1, pm2, pm3, pm4⟩ := parts_math b size at_ n k m y z k1 k2 k3 (by rw [hn0.out]; exact hat1) (by rw [hn0.out]; exact HM.out) HY.out (by rw [hn0.out]; exact HZ.out) HK1.out HK2.out HK3.out
  have hmn : m ≤ n0 := by have := HM.out; omega
  have hms : m ≤ size := by have := HM.out; omega
  obtain ⟨q, HQ⟩ : ∃ x, Hid (b.take m = x) := ⟨_, hid rfl⟩
  obtain ⟨q1, HQ1⟩ : ∃ x, Hid (b.take y = x) := ⟨_, hid rfl⟩
  obtain ⟨t1, HT1⟩ : ∃ x, Hid (q.take k1 = x) := ⟨_, hid rfl⟩
  obtain ⟨r1, HR1⟩ : ∃ x, Hid (q.drop k1 = x) := ⟨_, hid rfl⟩
  obtain ⟨t2, HT2⟩ : ∃ x, Hid (r1.take k2 = x) := ⟨_, hid rfl⟩
  obtain ⟨r2, HR2⟩ : ∃ x, Hid (r1.drop k2 = x) := ⟨_, hid rfl⟩
  obtain ⟨t3, HT3⟩ : ∃ x, Hid (q.take k3 = x) := ⟨_, hid rfl⟩
  obtain ⟨r3, HR3⟩ : ∃ x, Hid (q.drop k3 = x) := ⟨_, hid rfl⟩
  obtain ⟨rl, HRL⟩ : ∃ x : Nat, Hid (r2.length = x) := ⟨_, hid rfl⟩
  have lq : q.length = m := by rw [← HQ.out, List.length_take, hn0.out]; omega
  have lr1 : r1.length = m - k1 := by rw [← HR1.out, List.length_drop, lq]
  have lr3 : r3.length = rl := by
    have h1 := HRL.out
    rw [← HR2.out, List.length_drop, lr1] at h1
    rw [← HR3.out, List.length_drop, lq]
    omega
  have lt1 : t1.length = k1 := by rw [← HT1.out, List.length_take, lq]; have := HK1.out; omega
  have lt2 : t2.length = k2 := by rw [← HT2.out, List.length_take, lr1]; have := HK2.out; omega
  have lt3 : t3.length = k3 := by rw [← HT3.out, List.length_take, lq]; have := HK3.out; omega
  have HEQ : Hid (t1 ++ t2 = t3) := by
    show _ = _
    rw [← HT1.out, ← HT2.out, ← HR1.out, ← HT3.out, ← HQ.out]
    exact pm4
  have W1m : Hid (min b.length (size - ([] : List UInt8).length) = m) := by show _ = _; rw [hn0.out]; exact HM.out
  have W1q : Hid (([] : List UInt8) ++ b.take m = q) := by show _ = _; rw [List.nil_append]; exact HQ.out
  have lta : (b.take at_).length = at_ := by rw [List.length_take, hn0.out]; omega
  have lda : (b.drop at_).length = n0 - at_ := by rw [List.length_drop, hn0.out]
  have hya : y ≤ at_ := by have := HY.out; omega
  have hys : y ≤ size := by have := HY.out; omega
  have W2m : Hid (min (b.take at_).length (size - ([] : List UInt8).length) = y) := by show _ = _; rw [lta]; exact HY.out
  have W2q : Hid (([] : List UInt8) ++ (b.take at_).take y = q1) := by show _ = _; rw [List.nil_append, List.take_take, Nat.min_eq_left hya]; exact HQ1.out
  have lq1 : q1.length = y := by rw [← HQ1.out, List.length_take, hn0.out]; omega
  have W3m : Hid (min (b.drop at_).length (size - q1.length) = z) := by show _ = _; rw [lda, lq1]; exact HZ.out
  have W3q : Hid (q1 ++ (b.drop at_).take z = q) := by show _ = _; rw [← HQ1.out, pm2]; exact HQ.out
  have N2 : Hid ((b.take at_).length = at_) := lta
  have N3 : Hid ((b.drop at_).length = n0 - at_) := lda
  have D1k : Hid (had (n : Int) q.length = k1) := by show _ = _; rw [had_nat, lq]; exact HK1.out
  have D2k : Hid (had (k : Int) r1.length = k2) := by show _ = _; rw [had_nat, lr1]; exact HK2.out
  have D3k : Hid (had ((n : Int) + k) q.length = k3) := by show _ = _; rw [← Int.natCast_add, had_nat, lq]; exact HK3.out
  have L12 : Hid ((t1 ++ t2).length = k1 + k2) := by show _ = _; rw [List.length_append, lt1, lt2]
  have L3 : Hid (t3.length = k3) := lt3
  have LR2 : Hid (r2.length = rl) := HRL
  have LR3 : Hid (r3.length = rl) := lr3
  have DEQ : Hid (decide (t1 ++ t2 = t3) = true) := by show _ = _; rw [HEQ.out]; simp
  have LT1 : Hid (t1.length = k1) := lt1
  have LT2 : Hid (t2.length = k2) := lt2
  have hk1m : k1 ≤ 65536 := by have := HK1.out; omega
  have hk2m : k2 ≤ 65536 := by have := HK2.out; omega
  have hk3m : k3 ≤ 131072 := by omega
  have xe : ((y : Int) + z) = m := by omega
  have hbig : ¬ ((100000 : Int) < n0) := by omega
  have hn1 : ¬ ((n0 : Int) + 1 = 0) := by omega
  clear pm1 pm2 pm3 pm4 lq lr1 lr3 lt1 lt2 lt3 lta lda lq1
  go_enter Try.func6, Try.ntmps6
  go_wp2_with (first
    | (go_at_call 7
       ((with_reducible refine (alive_any _).mono ?_); rintro e w1 ⟨rfl, HB1⟩)
       have hx1 := box_below (Box.new w 49 _) HB1.out
       have c0 := hx1.cell 0
       have c1 := hx1.cell 1
       have c2 := hx1.cell 2
       have c3 := hx1.cell 3
       have c4 := hx1.cell 4
       clear hx1))
  go_quiet (fail)
  have HBw : Hid (Below w.heap.size w (w1.drewN nq)) := bel_drewN (bel_al HB1) _
  clear c0 c1 c2 c3 c4
  go_wp2_with (first
    | (go_at_call 9
       ((with_reducible refine (new_any _ size hs1 hs2).mono ?_); rintro e w2 ⟨g1, rfl, h1, HRa, hg1, hh1, HB2⟩)
       have HBw2 := bel_trans HBw HB2
       have hsz2 := HBw.out.size)
    | (go_at_call 9
       ((with_reducible refine (new_any _ size hs1 hs2).mono ?_); rintro e w3 ⟨g2, rfl, h2, HRb, hg2, hh2, HB3⟩)
       have HBw3 := bel_trans HBw2 HB3
       have hsz3 := HBw2.out.size
       have hra := HRa.out.lt
       have HRa3 : Hid (Rg w3 g1 h1 size []) := HRa.out.keep (But.of_below HB3.out []) (by simp) (by simp)))
  have HAf1 : Hid (b ≠ [] → ∀ a, A = some a → a.block ≠ h1) := slb_far hb (by omega)
  have HAf2 : Hid (b ≠ [] → ∀ a, A = some a → a.block ≠ h2) := slb_far hb (by omega)
  have hb1 : Hid (SlB w w.heap.size A c (b.take at_)) := hb.out.take at_
  have HAf3 : Hid (b.take at_ ≠ [] → ∀ a, A = some a → a.block ≠ h2) := slb_far hb1 (by omega)
  rcases hcase with ⟨rfl, rfl, rfl, rfl⟩ | ⟨a, rfl, rfl, rfl⟩ | ⟨a, rfl, hca⟩
  · have hb2 : Hid (SlB w w.heap.size none 0 (b.drop 0)) := ⟨by rw [List.drop_zero, hn0.out]; exact Nat.le_refl _, Nat.zero_le _, fun _ => rfl, by
      have e : b = [] := List.eq_nil_of_length_eq_zero hn0.out
      subst e
      exact Lies.nil_⟩
    have HAf4 : Hid (b.drop 0 ≠ [] → ∀ a', (none : Option Addr) = some a' → a'.block ≠ h2) := fun _ a' e => by cases e
    go_wp2_with (first
      | (go_at_call 18
         ((with_reducible refine (write_q _ 0 m hn0 W1m W1q HRa3 (slb_at hb HBw3) HAf1).mono ?_); rintro e w4 ⟨rfl, HRa4, HK4⟩)
         have HBw4 : Hid (Below w.heap.size w w4) := HBw3.out.trans (HK4.out.below HBw3.out.size (by simp; omega))
         have HRb4 : Hid (Rg w4 g2 h2 size []) := HRb.out.keep HK4.out (by simp; omega) (by simp; omega))
      | (go_at_call 18
         ((with_reducible refine (write_q _ 0 y N2 W2m W2q HRb4 (slb_at hb1 HBw4) HAf3).mono ?_); rintro e w5 ⟨rfl, HRb5, HK5⟩)
         have HBw5 : Hid (Below w.heap.size w w5) := HBw4.out.trans (HK5.out.below HBw4.out.size (by simp; omega))
         have HRa5 : Hid (Rg w5 g1 h1 size q) := HRa4.out.keep HK5.out (by simp; omega) (by simp; omega))
      | (go_at_call 18
         ((with_reducible refine (write_q _ 0 z N3 W3m W3q HRb5 (slb_at hb2 HBw5) HAf4).mono ?_); rintro e w6 ⟨rfl, HRb6, HK6⟩)
         have HBw6 : Hid (Below w.heap.size w w6) := HBw5.out.trans (HK6.out.below HBw5.out.size (by simp; omega))
         have HRa6 : Hid (Rg w6 g1 h1 size q) := HRa5.out.keep HK6.out (by simp; omega) (by simp; omega)
         have HRa6' := rg_al HRa6 (.cells #[] 5)
         have hlr := HRa6.out.lt
         have hls := HRb6.out.lt)
      | (go_at_call 19
         ((with_reducible refine (read_q _ n k1 D1k HT1 HR1 HRa6').mono ?_); rintro e w7 ⟨A7, c7, rfl, HO7, HRa7, HK7⟩)
         have HL7 : Hid (w7.ownsRow w6.heap.size 5 1 (.slice (some ⟨w6.heap.size, 0, none⟩) 0 0) 0 []) := HK7.out.own (lit_own (Nat.le_refl _) rfl) (fun x hx => by simp [Value.ownBlock] at hx; simp; omega)
         have hsz7 := HK7.out.size)
      | (at_builtin
         (refine wpList_app _ rfl (.tmp 71) (.tmp 75) 32 rfl w6.heap.size 5 i0 _ 1 1 Try.underlying32 hi0 hz0 hz1 hz2 rfl (by decide) (some ⟨w6.heap.size, 0, none⟩) 0 0 [] rfl HL7.out w7.heap.size A7 k1 c7 (bv t1) rfl (by rw [bv_length, LT1.out, Nat.mul_one]) (Lies.own HO7.out) (bv_one _) (by unfold maxLen; omega) (by omega) (by simp at hsz7; omega) ?_
          intro A8 c8 w8 ho8 hg8
          have HO8 : Hid (w8.ownsRow w6.heap.size 5 1 (.slice A8 k1 c8) k1 (bv t1)) := by
            show World.ownsRow _ _ _ _ _ _ _
            simpa using ho8
          have HK8 : Hid (But [w6.heap.size] w7 w8) := (But.refl _ _).grown hg8 (fun x hx => by simp [Value.ownBlock] at hx; simp; omega)
          have HRa8 : Hid (Rg w8 g1 h1 size r1) := HRa7.out.keep HK8.out (by simp; omega) (by simp; omega)
          clear ho8 hg8))
      | (go_at_call 19
         ((with_reducible refine (read_q _ k k2 D2k HT2 HR2 HRa8).mono ?_); rintro e w9 ⟨A9, c9, rfl, HO9, HRa9, HK9⟩)
         have HO8' : Hid (w9.ownsRow w6.heap.size 5 1 (.slice A8 k1 c8) k1 (bv t1)) := HK9.out.own HO8.out (fun x hx => by have := (HO8.out.lt x hx).1; simp; omega)
         have hsz8 := HK8.out.size
         have hsz9 := HK9.out.size)
      | (at_builtin
         (refine wpList_app _ rfl (.tmp 76) (.tmp 80) 32 rfl w6.heap.size 5 i0 _ 1 1 Try.underlying32 hi0 hz0 hz1 hz2 rfl (by decide) A8 k1 c8 (bv t1) rfl HO8'.out w9.heap.size A9 k2 c9 (bv t2) rfl (by rw [bv_length, LT2.out, Nat.mul_one]) (Lies.own HO9.out) (bv_one _) (by unfold maxLen; omega) (by omega) (by simp at hsz7; omega) ?_
          intro A10 c10 w10 ho10 hg10
          have HO10 : Hid (w10.ownsRow w6.heap.size 5 1 (.slice A10 (k1 + k2) c10) (k1 + k2) (bv (t1 ++ t2))) := by
            show World.ownsRow _ _ _ _ _ _ _
            rw [bv_append]
            exact ho10
          have hrow : ∀ x, (Value.slice A8 k1 c8).ownBlock = some x → w6.heap.size ≤ x := fun x hx => (HO8'.out.lt x hx).1
          have hgb := grown_but hg10
          have HK10 : Hid (But [g1] w6 w10) := (((((But.refl _ _).alloc _).same HK7.out).trans HK8.out (by simp)).same HK9.out).trans hgb (fun x hx => .inr (hrow x (by simpa using hx)))
          have HRa10 : Hid (Rg w10 g1 h1 size r2) := HRa9.out.keep hgb (fun hx => by have := hrow g1 (by simpa using hx); omega) (fun hx => by have := hrow h1 (by simpa using hx); omega)
          have HRb10 : Hid (Rg w10 g2 h2 size q) := HRb6.out.keep HK10.out (by simp; omega) (by simp; omega)
          have hsz10 := HK10.out.size
          clear hgb hrow
          clear ho10 hg10))
      | (go_at_call 19
         ((with_reducible refine (read_q _ ((n : Int) + k) k3 D3k HT3 HR3 HRb10).mono ?_); rintro e w11 ⟨A11, c11, rfl, HO11, HRb11, HK11⟩)
         have HO10' : Hid (w11.ownsRow w6.heap.size 5 1 (.slice A10 (k1 + k2) c10) (k1 + k2) (bv (t1 ++ t2))) := HK11.out.own HO10.out (fun x hx => by have := (HO10.out.lt x hx).1; simp; omega)
         have HRa11 : Hid (Rg w11 g1 h1 size r2) := HRa10.out.keep HK11.out (by simp; omega) (by simp; omega))
      | (go_at_call 13
         ((with_reducible refine (bytes_q _ A10 A11 c10 c11 (k1 + k2) k3 (t1 ++ t2) t3 true (hid (Lies.own HO10'.out)) (hid (Lies.own HO11.out)) L12 L3 (by unfold maxLen; omega) (by unfold maxLen; omega) DEQ).mono ?_); rintro e w12 ⟨d, rfl, rfl⟩)
         have HRa12 : Hid (Rg (w11.drewN d) g1 h1 size r2) := HRa11.out.keep ((But.refl [] w11).drewN d) (by simp) (by simp)
         have HRb12 : Hid (Rg (w11.drewN d) g2 h2 size r3) := HRb11.out.keep ((But.refl [] w11).drewN d) (by simp) (by simp))
      | (go_at_call 14
         ((with_reducible refine (len_n _ rl LR2.out HRa12).mono ?_); rintro e w13 ⟨rfl, rfl⟩))
      | (go_at_call 14
         ((with_reducible refine (len_n _ rl LR3.out HRb12).mono ?_); rintro e w14 ⟨rfl, rfl⟩)))
    go_ret
    have hbe : Below w.heap.size w6 w11 := (HK10.out.below HBw6.out.size (by simp; omega)).trans (HK11.out.below (Nat.le_trans HBw6.out.size hsz10) (by simp; omega))
    exact ⟨rfl, bel_drewN (HBw6.out.trans hbe) _⟩
  · have hb2 : Hid (SlB w w.heap.size (some a) 0 (b.drop at_)) := by
      have h := hb.out.drop at_ (by rw [hn0.out]; exact Nat.le_refl _)
      rw [if_pos rfl, Nat.sub_self] at h
      exact h
    have N3 : Hid ((b.drop at_).length = 0) := by show _ = _; rw [List.length_drop, hn0.out, Nat.sub_self]
    have HAf4 : Hid (b.drop at_ ≠ [] → ∀ a', some a = some a' → a'.block ≠ h2) := slb_far hb2 (by omega)
    go_wp2_with (first
      | (go_at_call 18
         ((with_reducible refine (write_q _ at_ m hn0 W1m W1q HRa3 (slb_at hb HBw3) HAf1).mono ?_); rintro e w4 ⟨rfl, HRa4, HK4⟩)
         have HBw4 : Hid (Below w.heap.size w w4) := HBw3.out.trans (HK4.out.below HBw3.out.size (by simp; omega))
         have HRb4 : Hid (Rg w4 g2 h2 size []) := HRb.out.keep HK4.out (by simp; omega) (by simp; omega))
      | (go_at_call 18
         ((with_reducible refine (write_q _ at_ y N2 W2m W2q HRb4 (slb_at hb1 HBw4) HAf3).mono ?_); rintro e w5 ⟨rfl, HRb5, HK5⟩)
         have HBw5 : Hid (Below w.heap.size w w5) := HBw4.out.trans (HK5.out.below HBw4.out.size (by simp; omega))
         have HRa5 : Hid (Rg w5 g1 h1 size q) := HRa4.out.keep HK5.out (by simp; omega) (by simp; omega))
      | (go_at_call 18
         ((with_reducible refine (write_q _ 0 z N3 W3m W3q HRb5 (slb_at hb2 HBw5) HAf4).mono ?_); rintro e w6 ⟨rfl, HRb6, HK6⟩)
         have HBw6 : Hid (Below w.heap.size w w6) := HBw5.out.trans (HK6.out.below HBw5.out.size (by simp; omega))
         have HRa6 : Hid (Rg w6 g1 h1 size q) := HRa5.out.keep HK6.out (by simp; omega) (by simp; omega)
         have HRa6' := rg_al HRa6 (.cells #[] 5)
         have hlr := HRa6.out.lt
         have hls := HRb6.out.lt)
      | (go_at_call 19
         ((with_reducible refine (read_q _ n k1 D1k HT1 HR1 HRa6').mono ?_); rintro e w7 ⟨A7, c7, rfl, HO7, HRa7, HK7⟩)
         have HL7 : Hid (w7.ownsRow w6.heap.size 5 1 (.slice (some ⟨w6.heap.size, 0, none⟩) 0 0) 0 []) := HK7.out.own (lit_own (Nat.le_refl _) rfl) (fun x hx => by simp [Value.ownBlock] at hx; simp; omega)
         have hsz7 := HK7.out.size)
      | (at_builtin
         (refine wpList_app _ rfl (.tmp 71) (.tmp 75) 32 rfl w6.heap.size 5 i0 _ 1 1 Try.underlying32 hi0 hz0 hz1 hz2 rfl (by decide) (some ⟨w6.heap.size, 0, none⟩) 0 0 [] rfl HL7.out w7.heap.size A7 k1 c7 (bv t1) rfl (by rw [bv_length, LT1.out, Nat.mul_one]) (Lies.own HO7.out) (bv_one _) (by unfold maxLen; omega) (by omega) (by simp at hsz7; omega) ?_
          intro A8 c8 w8 ho8 hg8
          have HO8 : Hid (w8.ownsRow w6.heap.size 5 1 (.slice A8 k1 c8) k1 (bv t1)) := by
            show World.ownsRow _ _ _ _ _ _ _
            simpa using ho8
          have HK8 : Hid (But [w6.heap.size] w7 w8) := (But.refl _ _).grown hg8 (fun x hx => by simp [Value.ownBlock] at hx; simp; omega)
          have HRa8 : Hid (Rg w8 g1 h1 size r1) := HRa7.out.keep HK8.out (by simp; omega) (by simp; omega)
          clear ho8 hg8))
      | (go_at_call 19
         ((with_reducible refine (read_q _ k k2 D2k HT2 HR2 HRa8).mono ?_); rintro e w9 ⟨A9, c9, rfl, HO9, HRa9, HK9⟩)
         have HO8' : Hid (w9.ownsRow w6.heap.size 5 1 (.slice A8 k1 c8) k1 (bv t1)) := HK9.out.own HO8.out (fun x hx => by have := (HO8.out.lt x hx).1; simp; omega)
         have hsz8 := HK8.out.size
         have hsz9 := HK9.out.size)
      | (at_builtin
         (refine wpList_app _ rfl (.tmp 76) (.tmp 80) 32 rfl w6.heap.size 5 i0 _ 1 1 Try.underlying32 hi0 hz0 hz1 hz2 rfl (by decide) A8 k1 c8 (bv t1) rfl HO8'.out w9.heap.size A9 k2 c9 (bv t2) rfl (by rw [bv_length, LT2.out, Nat.mul_one]) (Lies.own HO9.out) (bv_one _) (by unfold maxLen; omega) (by omega) (by simp at hsz7; omega) ?_
          intro A10 c10 w10 ho10 hg10
          have HO10 : Hid (w10.ownsRow w6.heap.size 5 1 (.slice A10 (k1 + k2) c10) (k1 + k2) (bv (t1 ++ t2))) := by
            show World.ownsRow _ _ _ _ _ _ _
            rw [bv_append]
            exact ho10
          have hrow : ∀ x, (Value.slice A8 k1 c8).ownBlock = some x → w6.heap.size ≤ x := fun x hx => (HO8'.out.lt x hx).1
          have hgb := grown_but hg10
          have HK10 : Hid (But [g1] w6 w10) := (((((But.refl _ _).alloc _).same HK7.out).trans HK8.out (by simp)).same HK9.out).trans hgb (fun x hx => .inr (hrow x (by simpa using hx)))
          have HRa10 : Hid (Rg w10 g1 h1 size r2) := HRa9.out.keep hgb (fun hx => by have := hrow g1 (by simpa using hx); omega) (fun hx => by have := hrow h1 (by simpa using hx); omega)
          have HRb10 : Hid (Rg w10 g2 h2 size q) := HRb6.out.keep HK10.out (by simp; omega) (by simp; omega)
          have hsz10 := HK10.out.size
          clear hgb hrow
          clear ho10 hg10))
      | (go_at_call 19
         ((with_reducible refine (read_q _ ((n : Int) + k) k3 D3k HT3 HR3 HRb10).mono ?_); rintro e w11 ⟨A11, c11, rfl, HO11, HRb11, HK11⟩)
         have HO10' : Hid (w11.ownsRow w6.heap.size 5 1 (.slice A10 (k1 + k2) c10) (k1 + k2) (bv (t1 ++ t2))) := HK11.out.own HO10.out (fun x hx => by have := (HO10.out.lt x hx).1; simp; omega)
         have HRa11 : Hid (Rg w11 g1 h1 size r2) := HRa10.out.keep HK11.out (by simp; omega) (by simp; omega))
      | (go_at_call 13
         ((with_reducible refine (bytes_q _ A10 A11 c10 c11 (k1 + k2) k3 (t1 ++ t2) t3 true (hid (Lies.own HO10'.out)) (hid (Lies.own HO11.out)) L12 L3 (by unfold maxLen; omega) (by unfold maxLen; omega) DEQ).mono ?_); rintro e w12 ⟨d, rfl, rfl⟩)
         have HRa12 : Hid (Rg (w11.drewN d) g1 h1 size r2) := HRa11.out.keep ((But.refl [] w11).drewN d) (by simp) (by simp)
         have HRb12 : Hid (Rg (w11.drewN d) g2 h2 size r3) := HRb11.out.keep ((But.refl [] w11).drewN d) (by simp) (by simp))
      | (go_at_call 14
         ((with_reducible refine (len_n _ rl LR2.out HRa12).mono ?_); rintro e w13 ⟨rfl, rfl⟩))
      | (go_at_call 14
         ((with_reducible refine (len_n _ rl LR3.out HRb12).mono ?_); rintro e w14 ⟨rfl, rfl⟩)))
    go_ret
    have hbe : Below w.heap.size w6 w11 := (HK10.out.below HBw6.out.size (by simp; omega)).trans (HK11.out.below (Nat.le_trans HBw6.out.size hsz10) (by simp; omega))
    exact ⟨rfl, bel_drewN (HBw6.out.trans hbe) _⟩
  · have hb2 : Hid (SlB w w.heap.size (some (a.add at_)) (c - at_) (b.drop at_)) := by
      have h := hb.out.drop at_ (by rw [hn0.out]; exact hat1)
      rw [if_neg hca] at h
      exact h
    have HAf4 : Hid (b.drop at_ ≠ [] → ∀ a', some (a.add at_) = some a' → a'.block ≠ h2) := slb_far hb2 (by omega)
    go_wp2_with (first
      | (go_at_call 18
         ((with_reducible refine (write_q _ n0 m hn0 W1m W1q HRa3 (slb_at hb HBw3) HAf1).mono ?_); rintro e w4 ⟨rfl, HRa4, HK4⟩)
         have HBw4 : Hid (Below w.heap.size w w4) := HBw3.out.trans (HK4.out.below HBw3.out.size (by simp; omega))
         have HRb4 : Hid (Rg w4 g2 h2 size []) := HRb.out.keep HK4.out (by simp; omega) (by simp; omega))
      | (go_at_call 18
         ((with_reducible refine (write_q _ at_ y N2 W2m W2q HRb4 (slb_at hb1 HBw4) HAf3).mono ?_); rintro e w5 ⟨rfl, HRb5, HK5⟩)
         have HBw5 : Hid (Below w.heap.size w w5) := HBw4.out.trans (HK5.out.below HBw4.out.size (by simp; omega))
         have HRa5 : Hid (Rg w5 g1 h1 size q) := HRa4.out.keep HK5.out (by simp; omega) (by simp; omega))
      | (go_at_call 18
         ((with_reducible refine (write_q _ (n0 - at_) z N3 W3m W3q HRb5 (slb_at hb2 HBw5) HAf4).mono ?_); rintro e w6 ⟨rfl, HRb6, HK6⟩)
         have HBw6 : Hid (Below w.heap.size w w6) := HBw5.out.trans (HK6.out.below HBw5.out.size (by simp; omega))
         have HRa6 : Hid (Rg w6 g1 h1 size q) := HRa5.out.keep HK6.out (by simp; omega) (by simp; omega)
         have HRa6' := rg_al HRa6 (.cells #[] 5)
         have hlr := HRa6.out.lt
         have hls := HRb6.out.lt)
      | (go_at_call 19
         ((with_reducible refine (read_q _ n k1 D1k HT1 HR1 HRa6').mono ?_); rintro e w7 ⟨A7, c7, rfl, HO7, HRa7, HK7⟩)
         have HL7 : Hid (w7.ownsRow w6.heap.size 5 1 (.slice (some ⟨w6.heap.size, 0, none⟩) 0 0) 0 []) := HK7.out.own (lit_own (Nat.le_refl _) rfl) (fun x hx => by simp [Value.ownBlock] at hx; simp; omega)
         have hsz7 := HK7.out.size)
      | (at_builtin
         (refine wpList_app _ rfl (.tmp 71) (.tmp 75) 32 rfl w6.heap.size 5 i0 _ 1 1 Try.underlying32 hi0 hz0 hz1 hz2 rfl (by decide) (some ⟨w6.heap.size, 0, none⟩) 0 0 [] rfl HL7.out w7.heap.size A7 k1 c7 (bv t1) rfl (by rw [bv_length, LT1.out, Nat.mul_one]) (Lies.own HO7.out) (bv_one _) (by unfold maxLen; omega) (by omega) (by simp at hsz7; omega) ?_
          intro A8 c8 w8 ho8 hg8
          have HO8 : Hid (w8.ownsRow w6.heap.size 5 1 (.slice A8 k1 c8) k1 (bv t1)) := by
            show World.ownsRow _ _ _ _ _ _ _
            simpa using ho8
          have HK8 : Hid (But [w6.heap.size] w7 w8) := (But.refl _ _).grown hg8 (fun x hx => by simp [Value.ownBlock] at hx; simp; omega)
          have HRa8 : Hid (Rg w8 g1 h1 size r1) := HRa7.out.keep HK8.out (by simp; omega) (by simp; omega)
          clear ho8 hg8))
      | (go_at_call 19
         ((with_reducible refine (read_q _ k k2 D2k HT2 HR2 HRa8).mono ?_); rintro e w9 ⟨A9, c9, rfl, HO9, HRa9, HK9⟩)
         have HO8' : Hid (w9.ownsRow w6.heap.size 5 1 (.slice A8 k1 c8) k1 (bv t1)) := HK9.out.own HO8.out (fun x hx => by have := (HO8.out.lt x hx).1; simp; omega)
         have hsz8 := HK8.out.size
         have hsz9 := HK9.out.size)
      | (at_builtin
         (refine wpList_app _ rfl (.tmp 76) (.tmp 80) 32 rfl w6.heap.size 5 i0 _ 1 1 Try.underlying32 hi0 hz0 hz1 hz2 rfl (by decide) A8 k1 c8 (bv t1) rfl HO8'.out w9.heap.size A9 k2 c9 (bv t2) rfl (by rw [bv_length, LT2.out, Nat.mul_one]) (Lies.own HO9.out) (bv_one _) (by unfold maxLen; omega) (by omega) (by simp at hsz7; omega) ?_
          intro A10 c10 w10 ho10 hg10
          have HO10 : Hid (w10.ownsRow w6.heap.size 5 1 (.slice A10 (k1 + k2) c10) (k1 + k2) (bv (t1 ++ t2))) := by
            show World.ownsRow _ _ _ _ _ _ _
            rw [bv_append]
            exact ho10
          have hrow : ∀ x, (Value.slice A8 k1 c8).ownBlock = some x → w6.heap.size ≤ x := fun x hx => (HO8'.out.lt x hx).1
          have hgb := grown_but hg10
          have HK10 : Hid (But [g1] w6 w10) := (((((But.refl _ _).alloc _).same HK7.out).trans HK8.out (by simp)).same HK9.out).trans hgb (fun x hx => .inr (hrow x (by simpa using hx)))
          have HRa10 : Hid (Rg w10 g1 h1 size r2) := HRa9.out.keep hgb (fun hx => by have := hrow g1 (by simpa using hx); omega) (fun hx => by have := hrow h1 (by simpa using hx); omega)
          have HRb10 : Hid (Rg w10 g2 h2 size q) := HRb6.out.keep HK10.out (by simp; omega) (by simp; omega)
          have hsz10 := HK10.out.size
          clear hgb hrow
          clear ho10 hg10))
      | (go_at_call 19
         ((with_reducible refine (read_q _ ((n : Int) + k) k3 D3k HT3 HR3 HRb10).mono ?_); rintro e w11 ⟨A11, c11, rfl, HO11, HRb11, HK11⟩)
         have HO10' : Hid (w11.ownsRow w6.heap.size 5 1 (.slice A10 (k1 + k2) c10) (k1 + k2) (bv (t1 ++ t2))) := HK11.out.own HO10.out (fun x hx => by have := (HO10.out.lt x hx).1; simp; omega)
         have HRa11 : Hid (Rg w11 g1 h1 size r2) := HRa10.out.keep HK11.out (by simp; omega) (by simp; omega))
      | (go_at_call 13
         ((with_reducible refine (bytes_q _ A10 A11 c10 c11 (k1 + k2) k3 (t1 ++ t2) t3 true (hid (Lies.own HO10'.out)) (hid (Lies.own HO11.out)) L12 L3 (by unfold maxLen; omega) (by unfold maxLen; omega) DEQ).mono ?_); rintro e w12 ⟨d, rfl, rfl⟩)
         have HRa12 : Hid (Rg (w11.drewN d) g1 h1 size r2) := HRa11.out.keep ((But.refl [] w11).drewN d) (by simp) (by simp)
         have HRb12 : Hid (Rg (w11.drewN d) g2 h2 size r3) := HRb11.out.keep ((But.refl [] w11).drewN d) (by simp) (by simp))
      | (go_at_call 14
         ((with_reducible refine (len_n _ rl LR2.out HRa12).mono ?_); rintro e w13 ⟨rfl, rfl⟩))
      | (go_at_call 14
         ((with_reducible refine (len_n _ rl LR3.out HRb12).mono ?_); rintro e w14 ⟨rfl, rfl⟩)))
    go_ret
    have hbe : Below w.heap.size w6 w11 := (HK10.out.below HBw6.out.size (by simp; omega)).trans (HK11.out.below (Nat.le_trans HBw6.out.size hsz10) (by simp; omega))
    exact ⟨rfl, bel_drewN (HBw6.out.trans hbe) _⟩
end Go.Proofs.Ytidgbojgdllghaa
