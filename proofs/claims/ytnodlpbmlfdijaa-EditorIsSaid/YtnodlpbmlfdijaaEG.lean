import Derived.Test.YtnodlpbmlfdijaaEF
namespace Go.Proofs.Ytnodlpbmlfdijaa
open Go.RowKit

/-- A slice's length. -/
def lenOf : Value → Nat
  | .slice _ n _ => n
  | _ => 0
/-- A line whose last characters have been told. -/
structure UnS (w wr : World) (u : Bool) (bs : List UInt8) (r k lc : Nat) (LA : Option Addr) (cs : List Value) (done : List (List UInt8)) : Prop where
  all : units u bs = units u (bs.take r) ++ done.reverse
  len : done.length = k
  own : wr.ownsRow w.heap.size 27 1 (.slice LA k lc) k cs
  rows : PL wr w.heap.size done cs
  bel : Below w.heap.size w wr
theorem UnS.small {w wr : World} {u : Bool} {bs : List UInt8} {r k lc n : Nat} {LA : Option Addr} {cs : List Value} {done : List (List UInt8)} (h : UnS w wr u bs r k lc LA cs done) (hn : bs.length = n) : k ≤ n := by
  have h1 := congrArg List.length h.all
  rw [List.length_append, List.length_reverse, h.len] at h1
  have := units_len u bs
  omega
theorem pl_sl {w : World} {b : Nat} {ps : List (List UInt8)} {cs : List Value} (h : PL w b ps cs) {k : Nat} (hk : ps.length = k) : Hid (∀ x, x < k → ∃ A n c, cs[x]? = some (.slice A n c)) := hid fun x hx => by
  subst hk
  obtain ⟨A, c, h1, _⟩ := h.2 x hx
  exact ⟨A, _, c, h1⟩
theorem uns_fin {w wr w' : World} {u : Bool} {bs : List UInt8} {k lc : Nat} {LA : Option Addr} {cs : List Value} {done : List (List UInt8)} (h : UnS w wr u bs 0 k lc LA cs done) (ho : Hid (w'.ownsRow w.heap.size 27 1 (.slice LA k lc) k cs.reverse)) (hk : Hid (Kept w.heap.size [27] wr w')) :
    Uns w (units u bs) (.returned (.slice LA k lc)) w' := by
  have e : units u bs = done.reverse := by
    have := h.all
    rwa [List.take_zero, units_nil, List.nil_append] at this
  rw [e]
  exact ⟨LA, k, lc, cs.reverse, rfl, hid (by rw [List.length_reverse]; exact h.len), ho, hid (h.rows.kept hk.out (by decide)).rev, hid (h.bel.trans (hk.out.below h.bel.size))⟩
theorem last_take {u : Bool} {bs : List UInt8} {n r : Nat} (hn : bs.length = n) (hr : r ≤ n) (h0 : 1 ≤ r) : ∃ q p, Hid (lastN u (bs.take r) = q) ∧ p + q = r ∧ 1 ≤ q ∧ Hid (units u (bs.take r) = units u (bs.take p) ++ [(bs.take r).drop p]) := by
  have hl : (bs.take r).length = r := by rw [List.length_take]; omega
  have hne : bs.take r ≠ [] := by
    intro e
    rw [e] at hl
    simp at hl
    omega
  obtain ⟨q, hq⟩ : ∃ q, lastN u (bs.take r) = q := ⟨_, rfl⟩
  have h1 := lastN_pos u hne
  have h2 := lastN_le u (bs.take r)
  refine ⟨q, r - q, hid hq, by omega, by omega, hid ?_⟩
  rw [units_step u hne]
  unfold eraA eraB
  rw [hq, hl, List.take_take, Nat.min_eq_left (by omega)]
set_option maxRecDepth 100000 in
set_option maxHeartbeats 4000000 in
theorem units_any (w : World) (t : Tm) (ht : t.Ok) (A : Option Addr) (n c : Nat) (bs : List UInt8) {u : Bool} (hu : Hid (hasN t.f 42 = u)) (hb : Hid (SlB w w.heap.size A c bs)) (hn : bs.length = n) (hm : n ≤ 1000000) :
    Calls Try.prog 14 #[.agg t.cs, .slice A n c] w (Uns w (units u bs)) := by
  have hs := cs_size ht.len
  have K0 := old26 w t
  obtain ⟨xs, hxs⟩ : ∃ xs, units u bs = xs := ⟨_, rfl⟩
  have HX := hid hxs
  rw [hxs]
  clear hxs
  go_enter Try.func14, Try.ntmps14
  go_wp2_with (first
    | (refine bx26 (by rfl) _ (by rfl) _ (by rfl) hs ?_
       intro G0)
    | (refine ld26 (by rfl) _ (by rfl) _ (by rfl) t.cs G0.out hs ?_)
    | (go_at_call 26
       (with_reducible refine (longest_any _ t ht hu).mono ?_)
       rintro e u1 ⟨rfl, k1⟩
       have K1 := bel_t K0 k1.out))
  go_loopw [1, 6] (fun line l wr => ∃ r LA k lc cs done, r ≤ n ∧ line = .slice A r c ∧ l = .slice LA k lc ∧ Hid (UnS w wr u bs r k lc LA cs done)) (fun line _ _ => lenOf line)
  case atStart => exact ⟨n, none, 0, 0, [], [], Nat.le_refl _, rfl, rfl, hid ⟨by rw [List.take_of_length_le (by omega)]; simp, rfl, World.ownsRow_nil _ _ _ _, PL.nil_ _ _, K1.out⟩⟩
  case round =>
    obtain ⟨r, LA, k, lc, cs, done, hr, rfl, rfl, HS⟩ := hrel
    by_cases h0 : r = 0
    · subst h0
      have HO := hid HS.out.own
      have hv := pl_sl HS.out.rows HS.out.len
      have hk := HS.out.small hn
      go_wp2_with (first
        | (go_at_call 31
           (with_reducible refine (reverse_any _ w.heap.size k lc LA cs HO hv (by omega)).mono ?_)
           rintro e u2 ⟨rfl, o2, k2⟩))
      go_ret
      have := uns_fin HS.out o2 k2
      rwa [HX.out] at this
    · have r1 : (0 : Int) < (r : Int) := by omega
      obtain ⟨q, p, hq, hpq, hq1, HU⟩ := last_take (u := u) hn hr (by omega)
      have S1 := slb_at hb (hid HS.out.bel)
      have S2 : Hid (SlB wr wr.heap.size A c (bs.take r)) := hid (S1.out.take r)
      have hl : (bs.take r).length = r := by rw [List.length_take]; omega
      have hr2 : r ≤ 1000000 := by omega
      have e1 : (r : Int) - (q : Int) = (p : Int) := by omega
      have hp1 : p ≤ 1000000 := by omega
      have hq2 : q ≤ 1000000 := by omega
      have hf := run_front S2.out hl (show p ≤ r by omega)
      obtain ⟨A5, c5, hrb, L5⟩ := run_back S2.out hl (show p ≤ r by omega)
      have e2 : r - p = q := by omega
      rw [e2] at hrb
      have hbl : Hid (((bs.take r).drop p).length = q) := hid (by rw [List.length_drop]; omega)
      have hk := HS.out.small hn
      have HO := hid HS.out.own
      have HR := hid HS.out.rows
      have HBL := hid HS.out.bel
      clear e2
      go_wp2_with (first
        | (go_at_call 25
           (with_reducible refine (last_any _ A r c (bs.take r) u S2 hl hr2 hq).mono ?_)
           rintro e u2 ⟨rfl, rfl⟩)
        | (go_at_call 22
           (with_reducible refine (copied_own _ _ (Below.refl _ _) A5 q c5 ((bs.take r).drop p) L5 hbl hq2).mono ?_)
           rintro e u3 ⟨A3, c3, rfl, o3, b3, d3⟩
           have HO3 := hid (own_keep HO.out b3)
           have HR3 := hid (HR.out.below b3)
           have o33 := hid (own_mono o3.out HBL.out.size)
           have HB3 := bel_t HBL b3
           have hz3 := HB3.out.size)
        | (at_builtin
           refine app_list u3 rfl _ _ rfl w.heap.size k lc LA cs done rfl HO3 HR3 _ rfl rfl A3 q c3 ((bs.take r).drop p) o33 hbl hz3 (by omega) ?_
           intro A4 c4 cs4 u4 HO4 HR4 K4
           have HB4 := hid (HB3.out.trans (K4.out.below hz3))))
      go_roundw
      case rel =>
        exact ⟨p, A4, k + 1, c4, cs4, done ++ [(bs.take r).drop p], by omega, rfl, rfl, hid ⟨by rw [HS.out.all, HU.out]; simp, by simp [HS.out.len], HO4.out, HR4.out, HB4.out⟩⟩
      case measure => simp [lenOf]; omega
end Go.Proofs.Ytnodlpbmlfdijaa
