import Derived.Test.YtnodlpbmlfdijaaEO
namespace Go.Proofs.Ytnodlpbmlfdijaa
open Go.RowKit

theorem cutr_x (w u : World) (hu : Hid (Below w.heap.size w u)) (A : Option Addr) (n c p k : Nat) (bs xs ys : List UInt8) (hb : Hid (SlB u u.heap.size A c bs)) (hn : bs.length = n) (hm : n ≤ 1000000) (hpk : p + k = n) (hx : Hid (bs.take p = xs)) (hy : Hid (bs.drop p = ys)) :
    Calls Try.prog 27 #[.slice A n c, .int .i64 (k : Int)] u (Cut w xs ys) := by
  refine (cutr_any u A n c p k bs hb hn hm hpk).mono ?_
  rw [hx.out, hy.out]
  rintro e w' ⟨A1, n1, c1, A2, n2, c2, rfl, h1, h2, h3, h4, h5⟩
  exact ⟨A1, n1, c1, A2, n2, c2, rfl, h1, h2, hid (own_mono h3.out hu.out.size), hid (own_mono h4.out hu.out.size), bel_trans hu h5⟩
set_option maxRecDepth 100000 in
set_option maxHeartbeats 1000000 in
theorem eraser_any (w : World) (t : Tm) (ht : t.Ok) (A : Option Addr) (n c : Nat) (bs : List UInt8) {u : Bool} (hu : Hid (hasN t.f 42 = u)) (hb : Hid (SlB w w.heap.size A c bs)) (hn : bs.length = n) (hm : n ≤ 1000000) :
    Calls Try.prog 11 #[.agg t.cs, .slice A n c] w (Cut w (eraA u bs) (eraB u bs)) := by
  have hs := cs_size ht.len
  have K0 := old26 w t
  have S0 := slb_at hb K0
  obtain ⟨k, hk⟩ : ∃ k, Hid (lastN u bs = k) := ⟨_, hid rfl⟩
  have hkn : k ≤ n := by have := (lastN_le u bs).2; rw [hk.out] at this; omega
  obtain ⟨p, hp⟩ : ∃ p, p + k = n := ⟨n - k, by omega⟩
  have hx : Hid (bs.take p = eraA u bs) := hid (by unfold eraA; rw [hk.out]; congr 1; omega)
  have hy : Hid (bs.drop p = eraB u bs) := hid (by unfold eraB; rw [hk.out]; congr 1; omega)
  obtain ⟨xs, hxs⟩ : ∃ xs, eraA u bs = xs := ⟨_, rfl⟩
  obtain ⟨ys, hys⟩ : ∃ ys, eraB u bs = ys := ⟨_, rfl⟩
  rw [hxs] at hx ⊢
  rw [hys] at hy ⊢
  clear hxs hys
  go_enter Try.func11, Try.ntmps11
  go_wp2_with (first
    | (refine bx26 (by rfl) _ (by rfl) _ (by rfl) hs ?_
       intro G0)
    | (refine ld26 (by rfl) _ (by rfl) _ (by rfl) t.cs G0.out hs ?_)
    | (go_at_call 28
       (with_reducible refine (lastr_any _ t ht A n c bs hu S0 hn hm hk).mono ?_)
       rintro e u1 ⟨rfl, k1⟩
       have K1 := bel_t K0 k1.out
       have S1 := slb_at S0 k1)
    | (go_at_call 27
       (with_reducible refine (cutr_x w _ K1 A n c p k bs xs ys S1 hn hm hp hx hy).mono ?_)
       rintro e u3 ⟨A1, n1, c1, A2, n2, c2, rfl, h1, h2, h3, h4, h5⟩))
  go_ret2
  exact ⟨A1, n1, c1, A2, n2, c2, rfl, h1, h2, h3, h4, h5⟩
set_option maxRecDepth 100000 in
set_option maxHeartbeats 2000000 in
theorem unitsr_all (t : Tm) (ht : t.Ok) {u : Bool} (hu : Hid (hasN t.f 42 = u)) : ∀ (N : Nat) (w : World) (A : Option Addr) (n c : Nat) (bs : List UInt8), bs.length = n → n ≤ N → n ≤ 1000000 → Hid (SlB w w.heap.size A c bs) →
    Calls Try.prog 17 #[.agg t.cs, .slice A n c] w (Uns w (units u bs)) := by
  have hs := cs_size ht.len
  intro N
  induction N with
  | zero =>
    intro w A n c bs hn hN hm hb
    obtain rfl : n = 0 := by omega
    have : bs = [] := List.eq_nil_of_length_eq_zero hn
    subst this
    have K0 := old26 w t
    go_enter Try.func17, Try.ntmps17
    go_wp2_with (refine bx26 (by rfl) _ (by rfl) _ (by rfl) hs ?_; intro G0)
    go_ret
    exact ⟨none, 0, 0, [], rfl, hid rfl, hid (World.ownsRow_nil _ _ _ _), hid (PL.nil_ _ _), K0⟩
  | succ N ih =>
    intro w A n c bs hn hN hm hb
    have K0 := old26 w t
    have S0 := slb_at hb K0
    by_cases h0 : n = 0
    · subst h0
      have : bs = [] := List.eq_nil_of_length_eq_zero hn
      subst this
      go_enter Try.func17, Try.ntmps17
      go_wp2_with (refine bx26 (by rfl) _ (by rfl) _ (by rfl) hs ?_; intro G0)
      go_ret
      exact ⟨none, 0, 0, [], rfl, hid rfl, hid (World.ownsRow_nil _ _ _ _), hid (PL.nil_ _ _), K0⟩
    · have hne : bs ≠ [] := by rintro rfl; exact h0 (by simpa using hn.symm)
      have k1 : ((n : Int) == 0) = false := by simp; omega
      have hlt := eraA_lt u hne
      rw [hn] at hlt
      have HU := hid (units_step u hne)
      obtain ⟨xs, hxs⟩ : ∃ xs, eraA u bs = xs := ⟨_, rfl⟩
      obtain ⟨ys, hys⟩ : ∃ ys, eraB u bs = ys := ⟨_, rfl⟩
      have HX := hid hxs
      have HY := hid hys
      rw [hxs] at hlt
      have HLT := hid hlt
      have hul := units_len u xs
      clear hxs hys hne hlt
      go_enter Try.func17, Try.ntmps17
      go_wp2_with (first
        | (refine bx26 (by rfl) _ (by rfl) _ (by rfl) hs ?_
           intro G0)
        | (refine ld26 (by rfl) _ (by rfl) _ (by rfl) t.cs G0.out hs ?_)
        | (refine ld26 (by rfl) _ (by rfl) _ (by rfl) t.cs G1.out hs ?_)
        | (go_at_call 11
           (with_reducible refine (eraser_any _ t ht A n c bs hu S0 hn hm).mono ?_)
           rw [HX.out, HY.out]
           rintro e u1 ⟨A1, n1, c1, A2, n2, c2, rfl, h1, h2, o1, o2, k1⟩
           have G1 := hid (box_below G0.out k1.out)
           have K1 := bel_t K0 k1.out
           have S1 := slb_own h1 o1
           have hlt1 : n1 < n := by have := HLT.out; rw [h1.out] at this; exact this)
        | (go_at_call 17
           (with_reducible refine (ih _ A1 n1 c1 xs h1.out (by omega) (by omega) S1).mono ?_)
           rintro e u2 ⟨LA, k, lc, cs, rfl, hk, o4, P4, k4⟩
           have K2 := bel_t K1 k4.out
           have o42 := hid (own_mono o4.out K1.out.size)
           have P42 := hid (P4.out.mono K1.out.size)
           have o24 := hid (own_mono (own_keep o2.out k4.out) (K0.out.size))
           have hk6 : k ≤ 1000000 := by have := units_len u xs; rw [hk.out, h1.out] at this; omega)
        | (at_builtin
           refine app_list u2 rfl _ _ rfl w.heap.size k lc LA cs (units u xs) rfl o42 P42 _ rfl rfl A2 n2 c2 ys o24 h2 K2.out.size hk6 ?_
           intro A5 c5 cs5 u5 HO5 HR5 K5
           have HB5 := hid (K2.out.trans (K5.out.below K2.out.size))))
      go_ret
      rw [HU.out, HX.out, HY.out]
      exact ⟨A5, k + 1, c5, cs5, rfl, hid (by rw [List.length_append, hk.out]; rfl), HO5, HR5, HB5⟩
theorem unitsr_any (w : World) (t : Tm) (ht : t.Ok) (A : Option Addr) (n c : Nat) (bs : List UInt8) {u : Bool} (hu : Hid (hasN t.f 42 = u)) (hb : Hid (SlB w w.heap.size A c bs)) (hn : bs.length = n) (hm : n ≤ 1000000) :
    Calls Try.prog 17 #[.agg t.cs, .slice A n c] w (Uns w (units u bs)) := unitsr_all t ht hu n w A n c bs hn (Nat.le_refl _) hm hb
end Go.Proofs.Ytnodlpbmlfdijaa
