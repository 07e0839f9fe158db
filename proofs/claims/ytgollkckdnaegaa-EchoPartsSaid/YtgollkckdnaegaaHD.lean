import Derived.Test.YtgollkckdnaegaaHC
namespace Go.Proofs.Ytgollkckdnaegaa
open Go.RowKit

theorem lineB_at {e : Bool} {l : List UInt8} {k : Nat} {y : UInt8} (h : l[k]? = some y) : lineB e (l.take (k + 1)) = lineB e (l.take k) ++ showB e y := by
  obtain ⟨hk, rfl⟩ := List.getElem?_eq_some_iff.1 h
  exact lineB_take e l k hk
theorem old26 (w : World) (t : Tm) : Hid (Below w.heap.size w (w.alloc (.cells t.cs 26))) := hid ((Below.refl _ w).alloc (Nat.le_refl _) _)
theorem box_k {a b : World} {g : Nat} {cs : Array Value} {B : Nat} (h : Hid (Box a g 26 cs)) (k : Hid (Kept B [5] a b)) : Hid (Box b g 26 cs) := hid (k.out.box h.out (by decide))
theorem slb_own {w : World} {base n c : Nat} {A : Option Addr} {bs : List UInt8} (hn : Hid (bs.length = n)) (h : Hid (w.ownsRow base 5 1 (.slice A n c) n (bv bs))) : Hid (SlB w w.heap.size A c bs) := by
  obtain rfl := hn.out
  exact hid (own_slb (_n := 0) h.out)
set_option maxRecDepth 100000 in
set_option maxHeartbeats 2000000 in
theorem line_any (w : World) {t : Tm} (ht : t.Ok) (A : Option Addr) (n c : Nat) (bs : List UInt8) {s : Bool} (hs60 : Hid (hasN t.f 60 = s)) (hb : Hid (SlB w w.heap.size A c bs)) (hn : bs.length = n) (hm : n ≤ 400000) :
    Calls Try.prog 12 #[.agg t.cs, .slice A n c] w (Own w (lineB s bs)) := by
  have hs := cs_size ht.len
  have K0 := old26 w t
  have HN := hid hn
  go_enter Try.func12, Try.ntmps12
  go_wp2_with (first
    | (refine bx26 (by rfl) _ (by rfl) _ (by rfl) hs ?_
       intro G0))
  go_loopw [10, 5] (fun i sh wr => ∃ (k m : Nat) (A2 : Option Addr) (c2 : Nat), k ≤ n ∧ m ≤ 2 * k ∧ i = .int .i64 k ∧ sh = .slice A2 m c2 ∧ Hid ((lineB s (bs.take k)).length = m) ∧ Hid (wr.ownsRow w.heap.size 5 1 (.slice A2 m c2) m (bv (lineB s (bs.take k)))) ∧ Hid (Below w.heap.size w wr) ∧ Hid (Box wr w.heap.size 26 t.cs)) (fun i _ _ => n - (intOf i).toNat)
  case atStart => exact ⟨0, 0, none, 0, Nat.zero_le _, Nat.zero_le _, rfl, rfl, hid rfl, hid (World.ownsRow_nil _ _ _ _), K0, G0⟩
  case round =>
    obtain ⟨k, m, A2, c2, hk, hm2, rfl, rfl, HM, HO, HB, HG⟩ := hrel
    by_cases hlt : k < n
    · have L1 := slb_at hb HB
      obtain ⟨b, o, y, rfl, hy, cy⟩ := slb_cell L1.out hn hlt
      have HL := hid (lineB_at (e := s) hy)
      have hl2 := (showB_len s y).2
      have HL2 := hid hl2
      clear hl2 hy
      obtain ⟨xs, hxs⟩ : ∃ xs, lineB s (bs.take k) = xs := ⟨_, rfl⟩
      rw [hxs] at HM HO HL
      clear hxs
      go_wp2_with (first
        | (refine ld26 (by rfl) _ (by rfl) _ (by rfl) t.cs HG.out hs ?_)
        | (go_at_call 10
           (with_reducible refine (show_any _ ht y hs60).mono ?_)
           rintro e u1 ⟨A1, n1, c1, rfl, h1, o1, k1⟩
           have hn1 : n1 ≤ 2 := by have := h1.out; have := HL2.out; omega
           have B1 := bel_t HB k1.out
           have G1 := hid (box_below HG.out k1.out)
           have O1 := hid (own_keep HO.out k1.out)
           have S1 := slb_own h1 o1
           have hz1 := B1.out.size
           clear k1)
        | (at_builtin
           (refine app_own u1 (by rfl) (.tmp 14) (.tmp 17) rfl w.heap.size m c2 A2 xs rfl O1 hz1 A1 n1 c1 (showB s y) rfl S1 h1.out (by omega) ?_)
           intro A3 c3 u3 O3 k3
           have B3 := bel_k B1 k3
           have G3 := box_k G1 k3))
      go_roundw
      case rel =>
        refine ⟨k + 1, m + n1, A3, c3, by omega, by omega, by go_num, rfl, ?_, ?_, B3, G3⟩
        · exact hid (by rw [HL.out, List.length_append, HM.out, h1.out])
        · rw [HL.out]; exact O3
      case measure => simp [intOf] <;> omega
    · have hkn : k = n := by omega
      have e : bs.take k = bs := List.take_of_length_le (by have := HN.out; omega)
      rw [e] at HM HO
      go_wp2
      go_ret
      exact ⟨_, _, _, rfl, HM, HO, HB⟩
set_option maxRecDepth 100000 in
set_option maxHeartbeats 2000000 in
theorem liner_any (w : World) {t : Tm} (ht : t.Ok) (A : Option Addr) (n c : Nat) (bs : List UInt8) {s : Bool} (hs60 : Hid (hasN t.f 60 = s)) (hb : Hid (SlB w w.heap.size A c bs)) (hn : bs.length = n) (hm : n ≤ 400000) :
    Calls Try.prog 13 #[.agg t.cs, .slice A n c] w (Own w (lineB s bs)) := by
  have hs := cs_size ht.len
  have K0 := old26 w t
  have HN := hid hn
  go_enter Try.func13, Try.ntmps13
  go_wp2_with (first
    | (refine bx26 (by rfl) _ (by rfl) _ (by rfl) hs ?_
       intro G0))
  go_loopw [10, 5] (fun i sh wr => ∃ (k m : Nat) (A2 : Option Addr) (c2 : Nat), k ≤ n ∧ m ≤ 2 * k ∧ i = .int .i64 k ∧ sh = .slice A2 m c2 ∧ Hid ((lineB s (bs.take k)).length = m) ∧ Hid (wr.ownsRow w.heap.size 5 1 (.slice A2 m c2) m (bv (lineB s (bs.take k)))) ∧ Hid (Below w.heap.size w wr) ∧ Hid (Box wr w.heap.size 26 t.cs)) (fun i _ _ => n - (intOf i).toNat)
  case atStart => exact ⟨0, 0, none, 0, Nat.zero_le _, Nat.zero_le _, rfl, rfl, hid rfl, hid (World.ownsRow_nil _ _ _ _), K0, G0⟩
  case round =>
    obtain ⟨k, m, A2, c2, hk, hm2, rfl, rfl, HM, HO, HB, HG⟩ := hrel
    by_cases hlt : k < n
    · have L1 := slb_at hb HB
      obtain ⟨b, o, y, rfl, hy, cy⟩ := slb_cell L1.out hn hlt
      have HL := hid (lineB_at (e := s) hy)
      have hl2 := (showB_len s y).2
      have HL2 := hid hl2
      clear hl2 hy
      obtain ⟨xs, hxs⟩ : ∃ xs, lineB s (bs.take k) = xs := ⟨_, rfl⟩
      rw [hxs] at HM HO HL
      clear hxs
      go_wp2_with (first
        | (refine ld26 (by rfl) _ (by rfl) _ (by rfl) t.cs HG.out hs ?_)
        | (go_at_call 11
           (with_reducible refine (showr_any _ ht y hs60).mono ?_)
           rintro e u1 ⟨A1, n1, c1, rfl, h1, S1, k1⟩
           have hn1 : n1 ≤ 2 := by have := h1.out; have := HL2.out; omega
           have B1 := bel_t HB k1.out
           have G1 := hid (box_below HG.out k1.out)
           have O1 := hid (own_keep HO.out k1.out)
           have hz1 := B1.out.size
           clear k1)
        | (at_builtin
           (refine app_own u1 (by rfl) (.tmp 14) (.tmp 17) rfl w.heap.size m c2 A2 xs rfl O1 hz1 A1 n1 c1 (showB s y) rfl S1 h1.out (by omega) ?_)
           intro A3 c3 u3 O3 k3
           have B3 := bel_k B1 k3
           have G3 := box_k G1 k3))
      go_roundw
      case rel =>
        refine ⟨k + 1, m + n1, A3, c3, by omega, by omega, by go_num, rfl, ?_, ?_, B3, G3⟩
        · exact hid (by rw [HL.out, List.length_append, HM.out, h1.out])
        · rw [HL.out]; exact O3
      case measure => simp [intOf] <;> omega
    · have hkn : k = n := by omega
      have e : bs.take k = bs := List.take_of_length_le (by have := HN.out; omega)
      rw [e] at HM HO
      go_wp2
      go_ret
      exact ⟨_, _, _, rfl, HM, HO, HB⟩
end Go.Proofs.Ytgollkckdnaegaa
