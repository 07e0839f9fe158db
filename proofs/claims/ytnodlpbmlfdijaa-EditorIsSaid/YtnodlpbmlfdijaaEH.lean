import Derived.Test.YtnodlpbmlfdijaaEG
import Derived.Deep.RegionHeld3
namespace Go.Proofs.Ytnodlpbmlfdijaa
open Go.RowKit

theorem one_of {xs : List UInt8} (h : xs.length = 1) : ∃ y, xs = [y] := by
  match xs, h with
  | [y], _ => exact ⟨y, rfl⟩
theorem blank_ext (y : UInt8) : blankU [y] = (y == 32 || y == 9) := by
  simp [blankU]
theorem blank_no {xs : List UInt8} (h : xs.length ≠ 1) : blankU xs = false := by
  unfold blankU
  simp
  constructor
  all_goals
    rintro rfl
    exact h rfl
theorem u8_eq (y : UInt8) (k : Nat) (hk : k < 256) : ((y.toNat : Int) == (k : Int)) = (y == UInt8.ofNat k) := by
  rw [Bool.eq_iff_iff]
  simp only [beq_iff_eq]
  constructor
  · intro h
    have : y.toNat = k := by omega
    subst this
    simp
  · rintro rfl
    simp
    omega
set_option maxRecDepth 100000 in
set_option maxHeartbeats 1000000 in
theorem isBlank_b (w : World) (A : Option Addr) (n c : Nat) (xs : List UInt8) (hb : Hid (SlB w w.heap.size A c xs)) (hn : Hid (xs.length = n)) {b : Bool} (h : blankU xs = b) : Calls Try.prog 29 #[.slice A n c] w fun e w' => e = .returned (.bool b) ∧ w' = w := by
  by_cases h1 : n = 1
  · subst h1
    obtain ⟨y, rfl⟩ := one_of hn.out
    obtain ⟨bl, o, z, rfl, hz, cz⟩ := slb_cell hb.out hn.out (show 0 < 1 by omega)
    obtain rfl : y = z := by simpa using hz
    rw [blank_ext] at h
    subst h
    simp only [Nat.add_zero] at cz
    have e1 := u8_eq y 32 (by omega)
    have e2 := u8_eq y 9 (by omega)
    cases q1 : (y == 32)
    · have f1 : ((y.toNat : Int) == 32) = false := e1.trans q1
      cases q2 : (y == 9)
      · have f2 : ((y.toNat : Int) == 9) = false := e2.trans q2
        clear e1 e2 q1 q2 hz
        go_enter Try.func29, Try.ntmps29
        go_wp2
        go_ret
        exact ⟨rfl, rfl⟩
      · have f2 : ((y.toNat : Int) == 9) = true := e2.trans q2
        clear e1 e2 q1 q2 hz
        go_enter Try.func29, Try.ntmps29
        go_wp2
        go_ret
        exact ⟨rfl, rfl⟩
    · have f1 : ((y.toNat : Int) == 32) = true := e1.trans q1
      clear e1 e2 q1 hz
      go_enter Try.func29, Try.ntmps29
      go_wp2
      go_ret
      exact ⟨rfl, rfl⟩
  · rw [blank_no (by rw [hn.out]; exact h1)] at h
    subst h
    have f1 : ((n : Int) == 1) = false := by simp; omega
    go_enter Try.func29, Try.ntmps29
    go_wp2
    go_ret
    exact ⟨rfl, rfl⟩
set_option maxRecDepth 100000 in
set_option maxHeartbeats 1000000 in
theorem blankr_b (w : World) (A : Option Addr) (n c : Nat) (xs : List UInt8) (hb : Hid (SlB w w.heap.size A c xs)) (hn : Hid (xs.length = n)) {b : Bool} (h : blankU xs = b) : Calls Try.prog 30 #[.slice A n c] w fun e w' => e = .returned (.bool b) ∧ w' = w := by
  by_cases h1 : n = 1
  · subst h1
    obtain ⟨y, rfl⟩ := one_of hn.out
    obtain ⟨bl, o, z, rfl, hz, cz⟩ := slb_cell hb.out hn.out (show 0 < 1 by omega)
    obtain rfl : y = z := by simpa using hz
    rw [blank_ext] at h
    subst h
    simp only [Nat.add_zero] at cz
    have e1 := u8_eq y 32 (by omega)
    have e2 := u8_eq y 9 (by omega)
    cases q1 : (y == 32)
    · have f1 : ((y.toNat : Int) == 32) = false := e1.trans q1
      cases q2 : (y == 9)
      · have f2 : ((y.toNat : Int) == 9) = false := e2.trans q2
        clear e1 e2 q1 q2 hz
        go_enter Try.func30, Try.ntmps30
        go_wp2
        go_ret
        exact ⟨rfl, rfl⟩
      · have f2 : ((y.toNat : Int) == 9) = true := e2.trans q2
        clear e1 e2 q1 q2 hz
        go_enter Try.func30, Try.ntmps30
        go_wp2
        go_ret
        exact ⟨rfl, rfl⟩
    · have f1 : ((y.toNat : Int) == 32) = true := e1.trans q1
      clear e1 e2 q1 hz
      go_enter Try.func30, Try.ntmps30
      go_wp2
      go_ret
      exact ⟨rfl, rfl⟩
  · rw [blank_no (by rw [hn.out]; exact h1)] at h
    subst h
    have f1 : ((n : Int) == 1) = false := by simp; omega
    go_enter Try.func30, Try.ntmps30
    go_wp2
    go_ret
    exact ⟨rfl, rfl⟩
/-- What is left to tell of a line whose last characters have been passed. -/
def wst (u : Bool) (b : Bool) (l : List UInt8) : List (List UInt8) := if b then (units u l).reverse.dropWhile (fun x => !blankU x) else wordR (units u l).reverse
theorem wst_start (u : Bool) (l : List UInt8) : wst u false l = wordR (units u l).reverse := rfl
theorem wst_nil (u b : Bool) : wst u b [] = [] := by
  cases b <;> rfl
section
variable {u : Bool} {l m x : List UInt8} (h : units u l = units u m ++ [x])
include h
theorem wst_on (b : Bool) (hx : blankU x = false) : wst u b l = wst u true m := by
  cases b
  · simp [wst, wordR, h, hx]
  · simp [wst, h, hx]
theorem wst_off (hx : blankU x = true) : wst u false l = wst u false m := by
  simp [wst, wordR, h, hx]
theorem wst_stop (hx : blankU x = true) : wst u true l = (units u l).reverse := by
  simp [wst, h, hx]
end
theorem rest_at {u : Bool} {bs : List UInt8} {n r : Nat} (hn : bs.length = n) (hr : r ≤ n) (h : wordR (units u bs).reverse = (units u (bs.take r)).reverse) : Hid (bs.take r = restL u bs) ∧ Hid (bs.drop r = goneL u bs) := by
  have e : restL u bs = bs.take r := by
    unfold restL restU
    rw [h, List.reverse_reverse, units_flat]
  refine ⟨hid e.symm, hid ?_⟩
  unfold goneL
  rw [e, List.length_take, Nat.min_eq_left (by omega)]
set_option maxRecDepth 100000 in
set_option maxHeartbeats 4000000 in
theorem word_any (w : World) (t : Tm) (ht : t.Ok) (A : Option Addr) (n c : Nat) (bs : List UInt8) {u : Bool} (hu : Hid (hasN t.f 42 = u)) (hb : Hid (SlB w w.heap.size A c bs)) (hn : bs.length = n) (hm : n ≤ 1000000) :
    Calls Try.prog 12 #[.agg t.cs, .slice A n c] w (Cut w (restL u bs) (goneL u bs)) := by
  have hs := cs_size ht.len
  have K0 := old26 w t
  obtain ⟨xs, hxs⟩ : ∃ xs, restL u bs = xs := ⟨_, rfl⟩
  obtain ⟨ys, hys⟩ : ∃ ys, goneL u bs = ys := ⟨_, rfl⟩
  have HX := hid hxs
  have HY := hid hys
  rw [hxs, hys]
  clear hxs hys
  obtain ⟨W0, hW0⟩ : ∃ x, Hid (wordR (units u bs).reverse = x) := ⟨_, hid rfl⟩
  go_enter Try.func12, Try.ntmps12
  go_wp2_with (first
    | (refine bx26 (by rfl) _ (by rfl) _ (by rfl) hs ?_
       intro G0))
  go_step3
  go_wp2_with (first
    | (refine ld26 (by rfl) _ (by rfl) _ (by rfl) t.cs G0.out hs ?_)
    | (go_at_call 26
       (with_reducible refine (longest_any _ t ht hu).mono ?_)
       rintro e u1 ⟨rfl, k1⟩
       have K1 := bel_t K0 k1.out
       have S1 := slb_at hb K1))
  go_step3
  go_wp2
  clear K0 G0 k1
  go_loop [6, 8] (fun z b => ∃ (r s : Nat) (f : Bool), r + s = n ∧ z = .int .i64 (s : Int) ∧ b = .bool f ∧ Hid (wst u f (bs.take r) = W0)) (fun z _ => n - (intOf z).toNat)
  case atStart => exact ⟨n, 0, false, rfl, rfl, rfl, hid (by rw [List.take_of_length_le (by omega)]; exact hW0.out)⟩
  case round =>
    obtain ⟨r, s, f, hrs, rfl, rfl, HW⟩ := hrel
    by_cases h0 : r = 0
    · subst h0
      have k1 : ¬ (s : Int) < (n : Int) := by omega
      have he : wordR (units u bs).reverse = (units u (bs.take 0)).reverse := by rw [hW0.out, ← HW.out, List.take_zero, wst_nil]; rfl
      obtain ⟨hx, hy⟩ := rest_at hn (Nat.zero_le _) he
      rw [HX.out] at hx
      rw [HY.out] at hy
      clear he
      go_wp2_with (first
        | (go_at_call 24
           (with_reducible refine (cut_x w _ K1 A n c 0 s bs xs ys S1 hn hm hrs hx hy).mono ?_)
           rintro e u3 ⟨A1, n1, c1, A2, n2, c2, rfl, h1, h2, h3, h4, h5⟩))
      try rw [Exit.noGoto_ret]
      go_ret2
      exact ⟨A1, n1, c1, A2, n2, c2, rfl, h1, h2, h3, h4, h5⟩
    · have k1 : (s : Int) < (n : Int) := by omega
      obtain ⟨q, p, hq, hpq, hq1, HU⟩ := last_take (u := u) hn (show r ≤ n by omega) (by omega)
      have e0 : (n : Int) - (s : Int) = (r : Int) := by omega
      have hf1 := run_front S1.out hn (show r ≤ n by omega)
      have S2 : Hid (SlB u1 u1.heap.size A c (bs.take r)) := hid (S1.out.take r)
      have hl : (bs.take r).length = r := by rw [List.length_take]; omega
      have hr2 : r ≤ 1000000 := by omega
      have e1 : (r : Int) - (q : Int) = (p : Int) := by omega
      have hp1 : p ≤ 1000000 := by omega
      have hq2 : q ≤ 1000000 := by omega
      obtain ⟨A5, c5, hrb, L5⟩ := run_back S2.out hl (show p ≤ r by omega)
      have e2 : r - p = q := by omega
      rw [e2] at hrb
      have hbl : Hid (((bs.take r).drop p).length = q) := hid (by rw [List.length_drop]; omega)
      clear e2
      cases hbk : blankU ((bs.take r).drop p)
      · have HN := hid ((wst_on HU.out f hbk).symm.trans HW.out)
        go_wp2_with (first
          | (go_at_call 25
             (with_reducible refine (last_any _ A r c (bs.take r) u S2 hl hr2 hq).mono ?_)
             rintro e u2 ⟨rfl, rfl⟩)
          | (go_at_call 29
             (with_reducible refine (isBlank_b _ A5 q c5 ((bs.take r).drop p) L5 hbl hbk).mono ?_)
             rintro e u3 ⟨rfl, rfl⟩))
        go_round
        case rel => exact ⟨p, s + q, true, by omega, by go_num, rfl, HN⟩
        case measure => simp [intOf]; omega
      · cases f
        · have HN := hid ((wst_off HU.out hbk).symm.trans HW.out)
          go_wp2_with (first
            | (go_at_call 25
               (with_reducible refine (last_any _ A r c (bs.take r) u S2 hl hr2 hq).mono ?_)
               rintro e u2 ⟨rfl, rfl⟩)
            | (go_at_call 29
               (with_reducible refine (isBlank_b _ A5 q c5 ((bs.take r).drop p) L5 hbl hbk).mono ?_)
               rintro e u3 ⟨rfl, rfl⟩))
          go_round
          case rel => exact ⟨p, s + q, false, by omega, by go_num, rfl, HN⟩
          case measure => simp [intOf]; omega
        · have he : wordR (units u bs).reverse = (units u (bs.take r)).reverse := by rw [hW0.out, ← HW.out, wst_stop HU.out hbk]
          obtain ⟨hx, hy⟩ := rest_at hn (show r ≤ n by omega) he
          rw [HX.out] at hx
          rw [HY.out] at hy
          clear he
          go_wp2_with (first
            | (go_at_call 25
               (with_reducible refine (last_any _ A r c (bs.take r) u S2 hl hr2 hq).mono ?_)
               rintro e u2 ⟨rfl, rfl⟩)
            | (go_at_call 29
               (with_reducible refine (isBlank_b _ A5 q c5 ((bs.take r).drop p) L5 hbl hbk).mono ?_)
               rintro e u3 ⟨rfl, rfl⟩)
            | (go_at_call 24
               (with_reducible refine (cut_x w _ K1 A n c r s bs xs ys S1 hn hm hrs hx hy).mono ?_)
               rintro e u4 ⟨A1, n1, c1, A2, n2, c2, rfl, h1, h2, h3, h4, h5⟩))
          try rw [Exit.noGoto_ret]
          go_ret2
          exact ⟨A1, n1, c1, A2, n2, c2, rfl, h1, h2, h3, h4, h5⟩
end Go.Proofs.Ytnodlpbmlfdijaa
