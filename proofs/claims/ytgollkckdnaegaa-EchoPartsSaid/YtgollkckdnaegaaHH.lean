import Derived.Test.YtgollkckdnaegaaHG
namespace Go.Proofs.Ytgollkckdnaegaa
open Go.RowKit

/-! The column behind a line: the program's and the document's. -/
theorem colsN_at {e u : Bool} {col : Nat} {l : List UInt8} {k : Nat} {y : UInt8} (h : l[k]? = some y) : colsN e u col (l.take (k + 1)) = stepN e u (colsN e u col (l.take k)) y := by
  obtain ⟨hk, rfl⟩ := List.getElem?_eq_some_iff.1 h
  exact colsN_take e u col l k hk
theorem colsN_tk {e u : Bool} {col : Nat} {l : List UInt8} {k : Nat} : colsN e u col (l.take k) ≤ col + 8 * k := by
  have h := (colsN_le e u (l.take k) col).2
  have := List.length_take_le k l
  omega
theorem behind_h (w : World) {t : Tm} (ht : t.Ok) (N : Nat) (hN : N ≤ 1000000000) (c : UInt8) {s v : Bool} (hs60 : Hid (hasN t.f 60 = s)) (hs42 : Hid (hasN t.f 42 = v)) {M : Nat} (hM : Hid (M = stepN s v N c)) :
    Calls Try.prog 26 #[.agg t.cs, .int .i64 (N : Int), .int .u8 (c.toNat : Int)] w fun e w' => e = .returned (.int .i64 (M : Int)) ∧ Hid (Below w.heap.size w w') := by
  obtain rfl := hM.out
  exact behind_any w ht N hN c hs60.out hs42.out
theorem stepr_h (w : World) {t : Tm} (ht : t.Ok) (N : Nat) (hN : N ≤ 65535) (c : UInt8) {s v : Bool} (hs60 : Hid (hasN t.f 60 = s)) (hs42 : Hid (hasN t.f 42 = v)) {M : Nat} (hM : Hid (M = stepN s v N c)) :
    Calls Try.prog 16 #[.agg t.cs, .int .i64 (N : Int), .int .u8 (c.toNat : Int)] w fun e w' => e = .returned (.int .i64 (M : Int)) ∧ Hid (Below w.heap.size w w') := by
  obtain rfl := hM.out
  exact stepr_nat w ht N hN c hs60.out hs42.out
set_option maxRecDepth 100000 in
set_option maxHeartbeats 2000000 in
theorem cols_any (w : World) {t : Tm} (ht : t.Ok) (col : Int) (A : Option Addr) (n c : Nat) (bs : List UInt8) {s v : Bool} (hs60 : Hid (hasN t.f 60 = s)) (hs42 : Hid (hasN t.f 42 = v)) (hb : Hid (SlB w w.heap.size A c bs)) (hn : bs.length = n) (hm : n ≤ 1000000) :
    Calls Try.prog 17 #[.agg t.cs, .int .i64 col, .slice A n c] w fun e w' => e = .returned (.int .i64 ((colsN s v (nrm col) bs : Nat) : Int)) ∧ Hid (Below w.heap.size w w') := by
  have hs := cs_size ht.len
  have K0 := old26 w t
  have HN := hid hn
  have hN := nrm_le col
  obtain ⟨N, hq⟩ : ∃ N, Hid (nrm col = N) := ⟨_, hid rfl⟩
  have q2 := fun (w : World) => inside_any w col
  rw [hq.out] at hN q2 ⊢
  go_enter Try.func17, Try.ntmps17
  go_wp2_with (first
    | (refine bx26 (by rfl) _ (by rfl) _ (by rfl) hs ?_
       intro G0)
    | (go_at_call 27
       (with_reducible refine (q2 _).mono ?_)
       rintro e u0 ⟨rfl, rfl⟩))
  go_loopw [1, 13] (fun cl i wr => ∃ (k M : Nat), k ≤ n ∧ M ≤ N + 8 * k ∧ cl = .int .i64 M ∧ i = .int .i64 k ∧ Hid (colsN s v N (bs.take k) = M) ∧ Hid (Below w.heap.size w wr) ∧ Hid (Box wr w.heap.size 26 t.cs)) (fun _ i _ => n - (intOf i).toNat)
  case atStart => exact ⟨0, N, Nat.zero_le _, Nat.le_refl _, rfl, rfl, hid rfl, K0, G0⟩
  case round =>
    obtain ⟨k, M, hk, hM, rfl, rfl, HM, HB, HG⟩ := hrel
    by_cases hlt : k < n
    · have L1 := slb_at hb HB
      obtain ⟨b, o, y, rfl, hy, cy⟩ := slb_cell L1.out hn hlt
      have hst := colsN_at (e := s) (u := v) (col := N) hy
      have hb2 : colsN s v N (bs.take (k + 1)) ≤ N + 8 * (k + 1) := colsN_tk
      rw [HM.out] at hst
      obtain ⟨M2, HM2⟩ : ∃ M2, Hid (colsN s v N (bs.take (k + 1)) = M2) := ⟨_, hid rfl⟩
      rw [HM2.out] at hst hb2
      have HST := hid hst
      have hM1 : M ≤ 1000000000 := by omega
      clear hst hy
      go_wp2_with (first
        | (refine ld26 (by rfl) _ (by rfl) _ (by rfl) t.cs HG.out hs ?_)
        | (go_at_call 26
           (with_reducible refine (behind_h _ ht M hM1 y hs60 hs42 HST).mono ?_)
           rintro e u1 ⟨rfl, k1⟩
           have B1 := bel_t HB k1.out
           have G1 := hid (box_below HG.out k1.out)))
      go_roundw
      case rel => exact ⟨k + 1, M2, by omega, by omega, rfl, by go_num, HM2, B1, G1⟩
      case measure => simp [intOf] <;> omega
    · have e : bs.take k = bs := List.take_of_length_le (by have := HN.out; omega)
      rw [e] at HM
      obtain rfl := HM.out
      go_wp2
      go_ret
      exact ⟨rfl, HB⟩
set_option maxRecDepth 100000 in
set_option maxHeartbeats 4000000 in
theorem colsr_any (w : World) {t : Tm} (ht : t.Ok) (col : Int) (A : Option Addr) (n c : Nat) (bs : List UInt8) {s v : Bool} (hs60 : Hid (hasN t.f 60 = s)) (hs42 : Hid (hasN t.f 42 = v)) (hb : Hid (SlB w w.heap.size A c bs)) (hn : bs.length = n) (hm : nrm col + 8 * n ≤ 65535) :
    Calls Try.prog 18 #[.agg t.cs, .int .i64 col, .slice A n c] w fun e w' => e = .returned (.int .i64 ((colsN s v (nrm col) bs : Nat) : Int)) ∧ Hid (Below w.heap.size w w') := by
  have hs := cs_size ht.len
  have K0 := old26 w t
  have HN := hid hn
  have hcase : (col < 0 ∧ nrm col = 0) ∨ (¬ col < 0 ∧ 65535 < col ∧ nrm col = 0) ∨ (¬ col < 0 ∧ ¬ 65535 < col ∧ col = (nrm col : Int)) := by
    unfold nrm
    by_cases h1 : col < 0
    · exact Or.inl ⟨h1, if_pos (Or.inl h1)⟩
    · by_cases h2 : 65535 < col
      · exact Or.inr (Or.inl ⟨h1, h2, if_pos (Or.inr h2)⟩)
      · refine Or.inr (Or.inr ⟨h1, h2, ?_⟩)
        rw [if_neg (by omega)]
        omega
  obtain ⟨N, hq⟩ : ∃ N, nrm col = N := ⟨_, rfl⟩
  rw [hq] at hm hcase ⊢
  clear hq
  have hn6 : n ≤ 65535 := by omega
  rcases hcase with ⟨h1, rfl⟩ | ⟨h1, h2, rfl⟩ | ⟨h1, h2, rfl⟩
  all_goals
    go_enter Try.func18, Try.ntmps18
    go_wp2_with (first
      | (refine bx26 (by rfl) _ (by rfl) _ (by rfl) hs ?_
         intro G0))
  · go_loopw [1, 17] (fun cl i wr => ∃ (k M : Nat), k ≤ n ∧ M ≤ 0 + 8 * k ∧ cl = .int .i64 M ∧ i = .int .i64 k ∧ Hid (colsN s v 0 (bs.take k) = M) ∧ Hid (Below w.heap.size w wr) ∧ Hid (Box wr w.heap.size 26 t.cs)) (fun _ i _ => n - (intOf i).toNat)
    case atStart => exact ⟨0, 0, Nat.zero_le _, Nat.le_refl _, rfl, rfl, hid rfl, K0, G0⟩
    case round =>
      obtain ⟨k, M, hk, hM, rfl, rfl, HM, HB, HG⟩ := hrel
      by_cases hlt : k < n
      · have L1 := slb_at hb HB
        obtain ⟨b, o, y, rfl, hy, cy⟩ := slb_cell L1.out hn hlt
        have hst := colsN_at (e := s) (u := v) (col := 0) hy
        have hb2 : colsN s v 0 (bs.take (k + 1)) ≤ 0 + 8 * (k + 1) := colsN_tk
        rw [HM.out] at hst
        obtain ⟨M2, HM2⟩ : ∃ M2, Hid (colsN s v 0 (bs.take (k + 1)) = M2) := ⟨_, hid rfl⟩
        rw [HM2.out] at hst hb2
        have HST := hid hst
        have hM1 : M ≤ 65535 := by omega
        clear hst hy
        go_wp2_with (first
          | (refine ld26 (by rfl) _ (by rfl) _ (by rfl) t.cs HG.out hs ?_)
          | (go_at_call 16
             (with_reducible refine (stepr_h _ ht M hM1 y hs60 hs42 HST).mono ?_)
             rintro e u1 ⟨rfl, k1⟩
             have B1 := bel_t HB k1.out
             have G1 := hid (box_below HG.out k1.out)))
        go_roundw
        case rel => exact ⟨k + 1, M2, by omega, by omega, rfl, by go_num, HM2, B1, G1⟩
        case measure => simp [intOf] <;> omega
      · have e : bs.take k = bs := List.take_of_length_le (by have := HN.out; omega)
        rw [e] at HM
        obtain rfl := HM.out
        go_wp2
        go_ret
        exact ⟨rfl, HB⟩
  · go_loopw [1, 17] (fun cl i wr => ∃ (k M : Nat), k ≤ n ∧ M ≤ 0 + 8 * k ∧ cl = .int .i64 M ∧ i = .int .i64 k ∧ Hid (colsN s v 0 (bs.take k) = M) ∧ Hid (Below w.heap.size w wr) ∧ Hid (Box wr w.heap.size 26 t.cs)) (fun _ i _ => n - (intOf i).toNat)
    case atStart => exact ⟨0, 0, Nat.zero_le _, Nat.le_refl _, rfl, rfl, hid rfl, K0, G0⟩
    case round =>
      obtain ⟨k, M, hk, hM, rfl, rfl, HM, HB, HG⟩ := hrel
      by_cases hlt : k < n
      · have L1 := slb_at hb HB
        obtain ⟨b, o, y, rfl, hy, cy⟩ := slb_cell L1.out hn hlt
        have hst := colsN_at (e := s) (u := v) (col := 0) hy
        have hb2 : colsN s v 0 (bs.take (k + 1)) ≤ 0 + 8 * (k + 1) := colsN_tk
        rw [HM.out] at hst
        obtain ⟨M2, HM2⟩ : ∃ M2, Hid (colsN s v 0 (bs.take (k + 1)) = M2) := ⟨_, hid rfl⟩
        rw [HM2.out] at hst hb2
        have HST := hid hst
        have hM1 : M ≤ 65535 := by omega
        clear hst hy
        go_wp2_with (first
          | (refine ld26 (by rfl) _ (by rfl) _ (by rfl) t.cs HG.out hs ?_)
          | (go_at_call 16
             (with_reducible refine (stepr_h _ ht M hM1 y hs60 hs42 HST).mono ?_)
             rintro e u1 ⟨rfl, k1⟩
             have B1 := bel_t HB k1.out
             have G1 := hid (box_below HG.out k1.out)))
        go_roundw
        case rel => exact ⟨k + 1, M2, by omega, by omega, rfl, by go_num, HM2, B1, G1⟩
        case measure => simp [intOf] <;> omega
      · have e : bs.take k = bs := List.take_of_length_le (by have := HN.out; omega)
        rw [e] at HM
        obtain rfl := HM.out
        go_wp2
        go_ret
        exact ⟨rfl, HB⟩
  · go_loopw [1, 17] (fun cl i wr => ∃ (k M : Nat), k ≤ n ∧ M ≤ N + 8 * k ∧ cl = .int .i64 M ∧ i = .int .i64 k ∧ Hid (colsN s v N (bs.take k) = M) ∧ Hid (Below w.heap.size w wr) ∧ Hid (Box wr w.heap.size 26 t.cs)) (fun _ i _ => n - (intOf i).toNat)
    case atStart => exact ⟨0, N, Nat.zero_le _, Nat.le_refl _, rfl, rfl, hid rfl, K0, G0⟩
    case round =>
      obtain ⟨k, M, hk, hM, rfl, rfl, HM, HB, HG⟩ := hrel
      by_cases hlt : k < n
      · have L1 := slb_at hb HB
        obtain ⟨b, o, y, rfl, hy, cy⟩ := slb_cell L1.out hn hlt
        have hst := colsN_at (e := s) (u := v) (col := N) hy
        have hb2 : colsN s v N (bs.take (k + 1)) ≤ N + 8 * (k + 1) := colsN_tk
        rw [HM.out] at hst
        obtain ⟨M2, HM2⟩ : ∃ M2, Hid (colsN s v N (bs.take (k + 1)) = M2) := ⟨_, hid rfl⟩
        rw [HM2.out] at hst hb2
        have HST := hid hst
        have hM1 : M ≤ 65535 := by omega
        clear hst hy
        go_wp2_with (first
          | (refine ld26 (by rfl) _ (by rfl) _ (by rfl) t.cs HG.out hs ?_)
          | (go_at_call 16
             (with_reducible refine (stepr_h _ ht M hM1 y hs60 hs42 HST).mono ?_)
             rintro e u1 ⟨rfl, k1⟩
             have B1 := bel_t HB k1.out
             have G1 := hid (box_below HG.out k1.out)))
        go_roundw
        case rel => exact ⟨k + 1, M2, by omega, by omega, rfl, by go_num, HM2, B1, G1⟩
        case measure => simp [intOf] <;> omega
      · have e : bs.take k = bs := List.take_of_length_le (by have := HN.out; omega)
        rw [e] at HM
        obtain rfl := HM.out
        go_wp2
        go_ret
        exact ⟨rfl, HB⟩
end Go.Proofs.Ytgollkckdnaegaa
