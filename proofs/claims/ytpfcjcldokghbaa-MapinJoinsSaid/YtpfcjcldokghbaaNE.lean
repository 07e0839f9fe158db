import Derived.Test.YtpfcjcldokghbaaND
namespace Go.Proofs.Ytpfcjcldokghbaa
open Go.RowKit

theorem flat_snoc (f : UInt8 → List UInt8) (bs : List UInt8) (j : Nat) (x : UInt8) (h : bs[j]? = some x) : (bs.take (j + 1)).flatMap f = (bs.take j).flatMap f ++ f x := by
  rw [List.take_add_one, h, List.flatMap_append]
  simp
theorem flat_take {f : UInt8 → List UInt8} (hf : ∀ c, (f c).length ≤ 2) (bs : List UInt8) (j : Nat) : ((bs.take j).flatMap f).length ≤ 2 * bs.length := by
  have h := flat_len hf (bs.take j)
  have : (bs.take j).length ≤ bs.length := by rw [List.length_take]; omega
  omega
theorem slb_cell {w : World} {B n c : Nat} {A : Option Addr} {bs : List UInt8} (h : SlB w B A c bs) {j : Nat} (hn : bs.length = n) (hj : j < n) : ∃ b o y, A = some ⟨b, o, none⟩ ∧ bs[j]? = some y ∧ w.cell? ⟨b, o + j, none⟩ = some (.int .u8 (y.toNat : Int)) := by
  subst hn
  obtain ⟨b, o, rfl, hb, hc⟩ := h.2.2.2 (by
    intro e
    have : bs = [] := by simpa [bv] using e
    rw [this] at hj
    simp at hj)
  obtain ⟨y, hy⟩ : ∃ y, bs[j]? = some y := ⟨_, List.getElem?_eq_getElem hj⟩
  exact ⟨b, o, y, rfl, hy, hc j _ (by simp [bv, hy])⟩
theorem ret_own {w u : World} {bs : List UInt8} {n c : Nat} {A : Option Addr} (hn : bs.length = n) (ho : Hid (u.ownsRow w.heap.size 5 1 (.slice A n c) n (bv bs))) (hb : Hid (Below w.heap.size w u)) : Ret w bs (.returned (.slice A n c)) u := by
  subst hn
  exact ⟨A, _, c, rfl, hid rfl, hid (own_slb (_n := 0) ho.out), hb⟩
theorem bel_k {w a b : World} (h : Hid (Below w.heap.size w a)) (k : Hid (Kept w.heap.size [5] a b)) : Hid (Below w.heap.size w b) := hid (h.out.trans (k.out.below h.out.size))
set_option maxRecDepth 100000 in
set_option maxHeartbeats 2000000 in
theorem all22 (w : World) (t : Tm) (ht : t.Ok) (A : Option Addr) (n c : Nat) (bs : List UInt8) (hb : Hid (SlB w w.heap.size A c bs)) (hn : bs.length = n) (hm : n ≤ 100000) :
    Calls Try.prog 24 #[.func (.func 22) #[] #[], .agg t.cs, .slice A n c] w (Ret w (bs.flatMap (stripL t))) := by
  have hs := cs_size ht.len
  have K0 : Hid (Below w.heap.size w (w.alloc (.cells t.cs 26))) := hid ((Below.refl _ w).alloc (Nat.le_refl _) _)
  have HF := hid (flat_take (stripL_len t) bs)
  go_enter Try.func24, Try.ntmps24
  go_wp2_with (refine bx26 (by rfl) _ (by rfl) _ (by rfl) hs ?_; intro G0)
  go_loopw [7, 12] (fun l i wr => ∃ j B k d, j ≤ n ∧ i = .int .i64 (j : Int) ∧ l = .slice B k d ∧ Hid (((bs.take j).flatMap (stripL t)).length = k) ∧ Hid (wr.ownsRow w.heap.size 5 1 (.slice B k d) k (bv ((bs.take j).flatMap (stripL t)))) ∧ Hid (Below w.heap.size w wr) ∧ Hid (Box wr w.heap.size 26 t.cs)) (fun _ i _ => n - (intOf i).toNat)
  case atStart => exact ⟨0, none, 0, 0, Nat.zero_le _, rfl, rfl, hid rfl, hid (World.ownsRow_nil _ _ _ _), K0, G0⟩
  case round =>
    obtain ⟨j, B, k, d, hj, rfl, rfl, hk, ho, HK, HG⟩ := hrel
    by_cases hjn : j < n
    · have hj2 : (j : Int) < (n : Int) := by omega
      have S1 := slb_at hb HK
      obtain ⟨b, o, y, rfl, hy, cy⟩ := slb_cell S1.out hn hjn
      have HY := hid hy
      have hk2 : k ≤ 200000 := by have := HF.out j; rw [hk.out] at this; omega
      obtain ⟨Y, hY⟩ : ∃ Y, (y.toNat : Int) = Y := ⟨_, rfl⟩
      rw [hY] at cy
      clear hy
      go_wp2_with (first
        | (refine ld26 (by rfl) _ (by rfl) _ (by rfl) t.cs HG.out hs ?_)
        | (rw [← hY]
           go_at_call 22
           (with_reducible refine (stripped_any _ t ht y).mono ?_)
           rintro e u1 ⟨A1, n1, c1, rfl, hn1, S1, K1⟩
           have HK1 := bel_t HK K1.out
           have HG1 := hid (box_below HG.out K1.out)
           have ho1 := hid (own_keep ho.out K1.out))
        | (at_builtin
           (refine app_own u1 rfl (.tmp 16) (.tmp 20) rfl w.heap.size k d B ((bs.take j).flatMap (stripL t)) rfl ho1 HK1.out.size A1 n1 c1 (stripL t y) rfl S1 hn1.out (by have := stripL_len t y; rw [hn1.out] at this; omega) ?_)
           intro B2 d2 u2 ho2 hk2))
      go_roundw
      case rel => exact ⟨j + 1, B2, k + n1, d2, by omega, by go_num, rfl, hid (by rw [flat_snoc _ _ _ _ HY.out, List.length_append, hk.out, hn1.out]), hid (by rw [flat_snoc _ _ _ _ HY.out]; exact ho2.out), bel_k HK1 hk2, hid (hk2.out.box HG1.out (by decide))⟩
      case measure => simp [intOf]; omega
    · obtain rfl : j = n := by omega
      go_wp2
      go_ret
      rw [List.take_of_length_le (by omega)] at hk ho
      exact ret_own hk.out ho HK
set_option maxRecDepth 100000 in
set_option maxHeartbeats 2000000 in
theorem all23 (w : World) (t : Tm) (ht : t.Ok) (A : Option Addr) (n c : Nat) (bs : List UInt8) (hb : Hid (SlB w w.heap.size A c bs)) (hn : bs.length = n) (hm : n ≤ 100000) :
    Calls Try.prog 24 #[.func (.func 23) #[] #[], .agg t.cs, .slice A n c] w (Ret w (bs.flatMap (turnL t))) := by
  have hs := cs_size ht.len
  have K0 : Hid (Below w.heap.size w (w.alloc (.cells t.cs 26))) := hid ((Below.refl _ w).alloc (Nat.le_refl _) _)
  have HF := hid (flat_take (turnL_len t) bs)
  go_enter Try.func24, Try.ntmps24
  go_wp2_with (refine bx26 (by rfl) _ (by rfl) _ (by rfl) hs ?_; intro G0)
  go_loopw [7, 12] (fun l i wr => ∃ j B k d, j ≤ n ∧ i = .int .i64 (j : Int) ∧ l = .slice B k d ∧ Hid (((bs.take j).flatMap (turnL t)).length = k) ∧ Hid (wr.ownsRow w.heap.size 5 1 (.slice B k d) k (bv ((bs.take j).flatMap (turnL t)))) ∧ Hid (Below w.heap.size w wr) ∧ Hid (Box wr w.heap.size 26 t.cs)) (fun _ i _ => n - (intOf i).toNat)
  case atStart => exact ⟨0, none, 0, 0, Nat.zero_le _, rfl, rfl, hid rfl, hid (World.ownsRow_nil _ _ _ _), K0, G0⟩
  case round =>
    obtain ⟨j, B, k, d, hj, rfl, rfl, hk, ho, HK, HG⟩ := hrel
    by_cases hjn : j < n
    · have hj2 : (j : Int) < (n : Int) := by omega
      have S1 := slb_at hb HK
      obtain ⟨b, o, y, rfl, hy, cy⟩ := slb_cell S1.out hn hjn
      have HY := hid hy
      have hk2 : k ≤ 200000 := by have := HF.out j; rw [hk.out] at this; omega
      obtain ⟨Y, hY⟩ : ∃ Y, (y.toNat : Int) = Y := ⟨_, rfl⟩
      rw [hY] at cy
      clear hy
      go_wp2_with (first
        | (refine ld26 (by rfl) _ (by rfl) _ (by rfl) t.cs HG.out hs ?_)
        | (rw [← hY]
           go_at_call 23
           (with_reducible refine (turned_any _ t ht y).mono ?_)
           rintro e u1 ⟨A1, n1, c1, rfl, hn1, S1, K1⟩
           have HK1 := bel_t HK K1.out
           have HG1 := hid (box_below HG.out K1.out)
           have ho1 := hid (own_keep ho.out K1.out))
        | (at_builtin
           (refine app_own u1 rfl (.tmp 16) (.tmp 20) rfl w.heap.size k d B ((bs.take j).flatMap (turnL t)) rfl ho1 HK1.out.size A1 n1 c1 (turnL t y) rfl S1 hn1.out (by have := turnL_len t y; rw [hn1.out] at this; omega) ?_)
           intro B2 d2 u2 ho2 hk2))
      go_roundw
      case rel => exact ⟨j + 1, B2, k + n1, d2, by omega, by go_num, rfl, hid (by rw [flat_snoc _ _ _ _ HY.out, List.length_append, hk.out, hn1.out]), hid (by rw [flat_snoc _ _ _ _ HY.out]; exact ho2.out), bel_k HK1 hk2, hid (hk2.out.box HG1.out (by decide))⟩
      case measure => simp [intOf]; omega
    · obtain rfl : j = n := by omega
      go_wp2
      go_ret
      rw [List.take_of_length_le (by omega)] at hk ho
      exact ret_own hk.out ho HK
set_option maxRecDepth 100000 in
set_option maxHeartbeats 2000000 in
theorem all13 (w : World) (t : Tm) (ht : t.Ok) (A : Option Addr) (n c : Nat) (bs : List UInt8) (hb : Hid (SlB w w.heap.size A c bs)) (hn : bs.length = n) (hm : n ≤ 100000) :
    Calls Try.prog 24 #[.func (.func 13) #[] #[], .agg t.cs, .slice A n c] w (Ret w (bs.flatMap (markB t))) := by
  have hs := cs_size ht.len
  have K0 : Hid (Below w.heap.size w (w.alloc (.cells t.cs 26))) := hid ((Below.refl _ w).alloc (Nat.le_refl _) _)
  have HF := hid (flat_take (markB_len t) bs)
  go_enter Try.func24, Try.ntmps24
  go_wp2_with (refine bx26 (by rfl) _ (by rfl) _ (by rfl) hs ?_; intro G0)
  go_loopw [7, 12] (fun l i wr => ∃ j B k d, j ≤ n ∧ i = .int .i64 (j : Int) ∧ l = .slice B k d ∧ Hid (((bs.take j).flatMap (markB t)).length = k) ∧ Hid (wr.ownsRow w.heap.size 5 1 (.slice B k d) k (bv ((bs.take j).flatMap (markB t)))) ∧ Hid (Below w.heap.size w wr) ∧ Hid (Box wr w.heap.size 26 t.cs)) (fun _ i _ => n - (intOf i).toNat)
  case atStart => exact ⟨0, none, 0, 0, Nat.zero_le _, rfl, rfl, hid rfl, hid (World.ownsRow_nil _ _ _ _), K0, G0⟩
  case round =>
    obtain ⟨j, B, k, d, hj, rfl, rfl, hk, ho, HK, HG⟩ := hrel
    by_cases hjn : j < n
    · have hj2 : (j : Int) < (n : Int) := by omega
      have S1 := slb_at hb HK
      obtain ⟨b, o, y, rfl, hy, cy⟩ := slb_cell S1.out hn hjn
      have HY := hid hy
      have hk2 : k ≤ 200000 := by have := HF.out j; rw [hk.out] at this; omega
      obtain ⟨Y, hY⟩ : ∃ Y, (y.toNat : Int) = Y := ⟨_, rfl⟩
      rw [hY] at cy
      clear hy
      go_wp2_with (first
        | (refine ld26 (by rfl) _ (by rfl) _ (by rfl) t.cs HG.out hs ?_)
        | (rw [← hY]
           go_at_call 13
           (with_reducible refine (mark_any _ t ht y).mono ?_)
           rintro e u1 ⟨A1, n1, c1, rfl, hn1, S1, K1⟩
           have HK1 := bel_t HK K1.out
           have HG1 := hid (box_below HG.out K1.out)
           have ho1 := hid (own_keep ho.out K1.out))
        | (at_builtin
           (refine app_own u1 rfl (.tmp 16) (.tmp 20) rfl w.heap.size k d B ((bs.take j).flatMap (markB t)) rfl ho1 HK1.out.size A1 n1 c1 (markB t y) rfl S1 hn1.out (by have := markB_len t y; rw [hn1.out] at this; omega) ?_)
           intro B2 d2 u2 ho2 hk2))
      go_roundw
      case rel => exact ⟨j + 1, B2, k + n1, d2, by omega, by go_num, rfl, hid (by rw [flat_snoc _ _ _ _ HY.out, List.length_append, hk.out, hn1.out]), hid (by rw [flat_snoc _ _ _ _ HY.out]; exact ho2.out), bel_k HK1 hk2, hid (hk2.out.box HG1.out (by decide))⟩
      case measure => simp [intOf]; omega
    · obtain rfl : j = n := by omega
      go_wp2
      go_ret
      rw [List.take_of_length_le (by omega)] at hk ho
      exact ret_own hk.out ho HK
end Go.Proofs.Ytpfcjcldokghbaa
