import Derived.Test.YtnodlpbmlfdijaaEC
import Derived.Deep.RegionHeld3
namespace Go.Proofs.Ytnodlpbmlfdijaa
open Go.RowKit

theorem old26 (w : World) (t : Tm) : Hid (Below w.heap.size w (w.alloc (.cells t.cs 26))) := hid ((Below.refl _ w).alloc (Nat.le_refl _) _)
set_option maxRecDepth 100000 in
theorem longest_any (w : World) (t : Tm) (ht : t.Ok) {u : Bool} (hu : Hid (hasN t.f 42 = u)) : Calls Try.prog 26 #[.agg t.cs] w fun e w' => e = .returned (.int .i64 (LU u)) ∧ Hid (Below w.heap.size w w') := by
  have hs := cs_size ht.len
  have K0 := old26 w t
  cases u
  all_goals
    go_enter Try.func26, Try.ntmps26
    go_wp2_with (first
      | (refine bx26 (by rfl) _ (by rfl) _ (by rfl) hs ?_
         intro G0)
      | (refine ld26 (by rfl) _ (by rfl) _ (by rfl) t.cs G0.out hs ?_)
      | (go_at_call 19
         (with_reducible refine (has_b _ ht hu.out).mono ?_)
         rintro e u1 ⟨rfl, k⟩
         have K1 := bel_t K0 k.out))
    go_ret
    exact ⟨rfl, K1⟩
theorem copied_own (u w : World) (hb : Below u.heap.size u w) (A : Option Addr) (n c : Nat) (bs : List UInt8) (hS : Hid (SlB u u.heap.size A c bs)) (hn : Hid (bs.length = n)) (hm : n ≤ 1000000) :
    Calls Try.prog 22 #[.slice A n c] w fun e w' => ∃ A2 c2, e = .returned (.slice A2 n c2) ∧ Hid (w'.ownsRow u.heap.size 5 1 (.slice A2 n c2) n (bv bs)) ∧ Below u.heap.size u w' ∧ Below w.heap.size w w' := by
  obtain rfl := hn.out
  refine (copied_any w w.heap.size A c bs (slb_at hS (hid hb)).out hm).mono ?_
  rintro e w' ⟨A2, c2, rfl, h1, h2⟩
  exact ⟨A2, c2, rfl, hid (own_mono h1 hb.size), hb.trans (h2.mono hb.size), h2⟩
/-- A line is cut in two: what a call answers. -/
def Cut (w : World) (xs ys : List UInt8) (e : Ending) (w' : World) : Prop := ∃ A1 n1 c1 A2 n2 c2, e = .returned (.tuple #[.slice A1 n1 c1, .slice A2 n2 c2]) ∧ Hid (xs.length = n1) ∧ Hid (ys.length = n2) ∧
  Hid (w'.ownsRow w.heap.size 5 1 (.slice A1 n1 c1) n1 (bv xs)) ∧ Hid (w'.ownsRow w.heap.size 5 1 (.slice A2 n2 c2) n2 (bv ys)) ∧ Hid (Below w.heap.size w w')
set_option maxRecDepth 100000 in
set_option maxHeartbeats 1000000 in
theorem cut_any (w : World) (A : Option Addr) (n c p k : Nat) (bs : List UInt8) (hb : Hid (SlB w w.heap.size A c bs)) (hn : bs.length = n) (hm : n ≤ 1000000) (hpk : p + k = n) :
    Calls Try.prog 24 #[.slice A n c, .int .i64 (k : Int)] w (Cut w (bs.take p) (bs.drop p)) := by
  have e1 : (n : Int) - (k : Int) = (p : Int) := by omega
  have hf := run_front hb.out hn (show p ≤ n by omega)
  obtain ⟨A5, c5, hr, L5⟩ := run_back hb.out hn (show p ≤ n by omega)
  have e2 : n - p = k := by omega
  rw [e2] at hr
  have LF : Hid (SlB w w.heap.size A c (bs.take p)) := hid (hb.out.take p)
  have hfl : Hid ((bs.take p).length = p) := hid (by rw [List.length_take]; omega)
  have hbl : Hid ((bs.drop p).length = k) := hid (by rw [List.length_drop]; omega)
  have hp : p ≤ 1000000 := by omega
  have hk : k ≤ 1000000 := by omega
  clear e2
  unfold Cut
  obtain ⟨xs, hx⟩ : ∃ xs, Hid (bs.take p = xs) := ⟨_, hid rfl⟩
  obtain ⟨ys, hy⟩ : ∃ ys, Hid (bs.drop p = ys) := ⟨_, hid rfl⟩
  rw [hx.out] at LF hfl ⊢
  rw [hy.out] at L5 hbl ⊢
  go_enter Try.func24, Try.ntmps24
  go_wp2
  go_region_law (first
    | (go_simp
       go_at_call 22
       (first
         | ((with_reducible refine (copied_own w _ ?b1 A p c xs LF hfl hp).mono ?_)
            case b1 => repeat (first | exact Below.refl _ _ | exact b2 | with_reducible apply bel_dr)
            rintro e u1 ⟨A1, c1, rfl, o1, b1, d1⟩)
         | ((with_reducible refine (copied_own w _ ?b2 A5 k c5 ys L5 hbl hk).mono ?_)
            case b2 => repeat (first | exact Below.refl _ _ | exact b1 | with_reducible apply bel_dr)
            rintro e u2 ⟨A2, c2, rfl, o2, b2, d2⟩))))
  all_goals
    go_wp2
    go_ret2
    exact ⟨A1, p, c1, A2, k, c2, rfl, hfl, hbl, hid (own_keep o1.out d2), o2, hid b2⟩
theorem cut_x (w u : World) (hu : Hid (Below w.heap.size w u)) (A : Option Addr) (n c p k : Nat) (bs xs ys : List UInt8) (hb : Hid (SlB u u.heap.size A c bs)) (hn : bs.length = n) (hm : n ≤ 1000000) (hpk : p + k = n) (hx : Hid (bs.take p = xs)) (hy : Hid (bs.drop p = ys)) :
    Calls Try.prog 24 #[.slice A n c, .int .i64 (k : Int)] u (Cut w xs ys) := by
  refine (cut_any u A n c p k bs hb hn hm hpk).mono ?_
  rw [hx.out, hy.out]
  rintro e w' ⟨A1, n1, c1, A2, n2, c2, rfl, h1, h2, h3, h4, h5⟩
  exact ⟨A1, n1, c1, A2, n2, c2, rfl, h1, h2, hid (own_mono h3.out hu.out.size), hid (own_mono h4.out hu.out.size), bel_trans hu h5⟩
set_option maxRecDepth 100000 in
set_option maxHeartbeats 1000000 in
theorem erase_any (w : World) (t : Tm) (ht : t.Ok) (A : Option Addr) (n c : Nat) (bs : List UInt8) {u : Bool} (hu : Hid (hasN t.f 42 = u)) (hb : Hid (SlB w w.heap.size A c bs)) (hn : bs.length = n) (hm : n ≤ 1000000) :
    Calls Try.prog 10 #[.agg t.cs, .slice A n c] w (Cut w (eraA u bs) (eraB u bs)) := by
  have hs := cs_size ht.len
  have K0 := old26 w t
  have S0 := slb_at hb K0
  obtain ⟨k, hk⟩ : ∃ k, Hid (lastN u bs = k) := ⟨_, hid rfl⟩
  have hkn : k ≤ n := by have := (lastN_le u bs).2; rw [hk.out] at this; omega
  obtain ⟨p, hp⟩ : ∃ p, p + k = n := ⟨n - k, by omega⟩
  have hx : Hid (bs.take p = eraA u bs) := hid (by unfold eraA; rw [hk.out]; congr 1; omega)
  have hy : Hid (bs.drop p = eraB u bs) := hid (by unfold eraB; rw [hk.out]; congr 1; omega)
  obtain ⟨xs, hxs⟩ : ∃ xs, eraA u bs = xs := ⟨_, rfl⟩
  obtain ⟨ys, hys⟩ : ∃ ys, eraB u bs = ys := ⟨_, rfl⟩
  rw [hxs] at hx ⊢
  rw [hys] at hy ⊢
  clear hxs hys
  go_enter Try.func10, Try.ntmps10
  go_wp2_with (first
    | (refine bx26 (by rfl) _ (by rfl) _ (by rfl) hs ?_
       intro G0)
    | (refine ld26 (by rfl) _ (by rfl) _ (by rfl) t.cs G0.out hs ?_)
    | (go_at_call 26
       (with_reducible refine (longest_any _ t ht hu).mono ?_)
       rintro e u1 ⟨rfl, k1⟩
       have K1 := bel_t K0 k1.out
       have S1 := slb_at S0 k1)
    | (go_at_call 25
       (with_reducible refine (last_any _ A n c bs u S1 hn hm hk).mono ?_)
       rintro e u2 ⟨rfl, rfl⟩)
    | (go_at_call 24
       (with_reducible refine (cut_x w _ K1 A n c p k bs xs ys S1 hn hm hp hx hy).mono ?_)
       rintro e u3 ⟨A1, n1, c1, A2, n2, c2, rfl, h1, h2, h3, h4, h5⟩))
  go_ret2
  exact ⟨A1, n1, c1, A2, n2, c2, rfl, h1, h2, h3, h4, h5⟩
end Go.Proofs.Ytnodlpbmlfdijaa
