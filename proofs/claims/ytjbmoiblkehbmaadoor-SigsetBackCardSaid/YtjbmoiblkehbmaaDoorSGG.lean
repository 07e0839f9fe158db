import Derived.Test.YtjbmoiblkehbmaaDoorSGF
namespace Go.Proofs.YtjbmoiblkehbmaaDoor
namespace L18
open Go.RowKit

/-! Layer 18: numbers of names, and what is picked. -/
theorem str_beq (a b : ByteArray) : (a.toList == b.toList) = decide (a = b) := by
  rw [ByteArray.toList_eq, ByteArray.toList_eq, Bool.eq_iff_iff, decide_eq_true_eq]
  constructor
  · intro h
    exact ByteArray.ext (Array.ext' (eq_of_beq h))
  · rintro rfl
    simp
/-- What is told of something that may not be. -/
def optV (o : Option Int) : Value := .tuple #[.int .i64 (o.getD 0), .bool o.isSome]
def numF (n : ByteArray) (k : Nat) : Option Int := ((List.range' k (29 - k)).find? fun j => known (iK j) && decide (nmS (iK j) = n)).map iK
theorem numF_zero (n : ByteArray) : numF n 0 = numS n := by
  rw [← num_range]
  rfl
theorem numF_end (n : ByteArray) {k : Nat} (h : 29 ≤ k) : numF n k = none := by
  unfold numF
  rw [show 29 - k = 0 by omega]
  rfl
theorem numF_step (n : ByteArray) {k : Nat} (h : k < 29) : numF n k = if (known (k : Int) && decide (nmS (k : Int) = n)) = true then some (k : Int) else numF n (k + 1) := by
  unfold numF
  rw [show 29 - k = (29 - (k + 1)) + 1 by omega, List.range'_succ, List.find?_cons]
  show Option.map iK (match known (k : Int) && decide (nmS (k : Int) = n) with | true => _ | false => _) = _
  cases known (k : Int) && decide (nmS (k : Int) = n)
  · rfl
  · rfl
section
variable {w : World}
set_option maxRecDepth 100000 in
set_option maxHeartbeats 2000000 in
theorem num_any (H : Hid (TabW w)) {n : ByteArray} {o : Option Int} (ho : Hid (numS n = o)) : Calls Tryd.prog 11 #[.string n] w fun e w' => e = .returned (optV o) ∧ w' = w := by
  go_enter Tryd.func11, Tryd.ntmps11
  go_wp2
  go_loopw [5] (fun i wr => ∃ k : Nat, k ≤ 29 ∧ i = .int .i64 k ∧ w = wr ∧ Hid (numF n k = o)) (fun i _ => 29 - (intOf i).toNat)
  case atStart => exact ⟨0, by omega, rfl, rfl, hid (by rw [numF_zero]; exact ho.out)⟩
  case round =>
    obtain ⟨k, hk, rfl, rfl, HF⟩ := hrel
    by_cases hlt : k < 29
    · have hi : (k : Int) < 29 := by omega
      have HS := numF_step n hlt
      obtain ⟨c0, _, _⟩ := H.out.2 k hlt
      cases hq : known (k : Int)
      · have HK := hid hq
        rw [hq, Bool.false_and, if_neg (by decide)] at HS
        have HE : Hid (numF n (k + 1) = o) := hid (by rw [← HS]; exact HF.out)
        clear HS hq
        go_wp2_with (first
          | (go_at_call 34
             (with_reducible refine (isSig_b H HK).mono ?_)
             rintro e w1 ⟨rfl, rfl⟩))
        go_roundw
        case rel => exact ⟨k + 1, by omega, by go_num, by trivial, HE⟩
        case measure => simp [intOf]; omega
      · have HK := hid hq
        cases hd : decide (nmS (k : Int) = n)
        · have t1 : ((bs (row k).1).toList == n.toList) = false := by rw [str_beq]; exact hd
          rw [hq, hd, Bool.true_and, if_neg (by decide)] at HS
          have HE : Hid (numF n (k + 1) = o) := hid (by rw [← HS]; exact HF.out)
          clear HS hq hd
          go_wp2_with (first
            | (go_at_call 34
               (with_reducible refine (isSig_b H HK).mono ?_)
               rintro e w1 ⟨rfl, rfl⟩))
          go_roundw
          case rel => exact ⟨k + 1, by omega, by go_num, by trivial, HE⟩
          case measure => simp [intOf]; omega
        · have t1 : ((bs (row k).1).toList == n.toList) = true := by rw [str_beq]; exact hd
          rw [hq, hd, Bool.true_and, if_pos rfl] at HS
          have HE : Hid (o = some (k : Int)) := hid (by rw [← HS]; exact HF.out.symm)
          clear HS hq hd
          go_wp2_with (first
            | (go_at_call 34
               (with_reducible refine (isSig_b H HK).mono ?_)
               rintro e w1 ⟨rfl, rfl⟩))
          go_ret2
          rw [HE.out]
          exact ⟨rfl, rfl⟩
    · have hi : ¬ (k : Int) < 29 := by omega
      have HE : Hid (o = none) := hid (by rw [← HF.out]; exact numF_end n (by omega))
      go_wp2
      go_ret2
      rw [HE.out]
      exact ⟨rfl, rfl⟩
def numR (n : ByteArray) (k : Nat) : Option Int := (sigL.drop k).find? fun g => decide (nmS g = n)
theorem numR_step (n : ByteArray) {k : Nat} {x : Int} (h : sigL[k]? = some x) : numR n k = if decide (nmS x = n) = true then some x else numR n (k + 1) := by
  unfold numR
  obtain ⟨h1, rfl⟩ := List.getElem?_eq_some_iff.1 h
  rw [List.drop_eq_getElem_cons h1, List.find?_cons]
  cases decide (nmS sigL[k] = n)
  · rfl
  · rfl
set_option maxRecDepth 100000 in
set_option maxHeartbeats 2000000 in
theorem rnum_any (w : World) {n : ByteArray} {o : Option Int} (ho : Hid (numS n = o)) : Calls Tryd.prog 12 #[.string n] w fun e w' => e = .returned (optV o) ∧ Hid (Below w.heap.size w w') := by
  go_enter Tryd.func12, Tryd.ntmps12
  go_wp2_with (first
    | (go_at_call 36
       (with_reducible refine (rows_r _).mono ?_)
       rintro e w1 ⟨b, rfl, HR, B1⟩))
  go_loopw [8] (fun i wr => ∃ k : Nat, k ≤ 22 ∧ i = .int .i64 k ∧ Hid (Below w1.heap.size w1 wr) ∧ Hid (numR n k = o)) (fun i _ => 22 - (intOf i).toNat)
  case atStart => exact ⟨0, by omega, rfl, hid (Below.refl _ _), ho⟩
  case round =>
    obtain ⟨k, hk, rfl, HB, HF⟩ := hrel
    by_cases hlt : k < 22
    · have hi : (k : Int) < 22 := by omega
      obtain ⟨x, hx⟩ : ∃ x, sigL[k]? = some x := ⟨sigL[k]'hlt, List.getElem?_eq_getElem _⟩
      obtain ⟨c0, c1, c2, c3⟩ := (RowsW.below HR HB.out).out.2 k x hx
      have HS := numR_step n hx
      have HB2 : ∀ o, Hid (Below w1.heap.size w1 (wr.alloc o)) := fun o => bel_al HB
      cases hd : decide (nmS x = n)
      · have t1 : ((nmS x).toList == n.toList) = false := by rw [str_beq]; exact hd
        rw [hd, if_neg (by decide)] at HS
        have HE : Hid (numR n (k + 1) = o) := hid (by rw [← HS]; exact HF.out)
        clear HS hd hx
        go_wp2
        go_roundw
        case rel => exact ⟨k + 1, by omega, by go_num, HB2 _, HE⟩
        case measure => simp [intOf]; omega
      · have t1 : ((nmS x).toList == n.toList) = true := by rw [str_beq]; exact hd
        rw [hd, if_pos rfl] at HS
        have HE : Hid (o = some x) := hid (by rw [← HS]; exact HF.out.symm)
        clear HS hd hx
        go_wp2
        go_ret2
        rw [HE.out]
        exact ⟨rfl, bel_t B1 (HB2 _).out⟩
    · have hi : ¬ (k : Int) < 22 := by omega
      have HE : Hid (o = none) := hid (by
        rw [← HF.out, numR, List.drop_of_length_le (by show 22 ≤ k; omega)]
        rfl)
      go_wp2
      go_ret2
      rw [HE.out]
      exact ⟨rfl, bel_t B1 HB.out⟩
theorem lit_own3 (w : World) (l : List Int) (n g : Nat) (cs : Array Value) (hc : (iv l).toArray = cs) (hn : l.length = n) (hm : n ≤ 1000000) (hg : g = w.heap.size) : Hid ((w.alloc (.cells cs 3)).ownsRow w.heap.size 3 1 (.slice (some ⟨g, 0, none⟩) n n) n (iv l)) := by
  subst hc; subst hn; subst hg
  have h := World.ownsRow_lit w (e := 3) (size := 1) (iv l).toArray l.length (Nat.le_refl _) (by unfold maxLen; omega) (by simp [iv])
  simpa using hid h
theorem find_step {p : Int → Bool} {l : List Int} {k : Nat} {y : Int} (h : l.drop k = y :: l.drop (k + 1)) : (l.drop k).find? p = if p y = true then some y else (l.drop (k + 1)).find? p := by
  rw [h, List.find?_cons]
  cases p y
  · rfl
  · rfl
set_option maxRecDepth 100000 in
set_option maxHeartbeats 4000000 in
theorem pick_any (H : Hid (TabW w)) {p m : Nat} (hp : Hid (U64 p)) (hm : Hid (U64 m)) {o : Option Int} (ho : Hid (pickS p m = o)) : Calls Tryd.prog 32 #[.int .u64 p, .int .u64 m] w fun e w' => e = .returned (optV o) ∧ Hid (Below w.heap.size w w') := by
  obtain ⟨v, hv⟩ : ∃ z, Hid (blockS m = z) := ⟨_, hid rfl⟩
  have HV : Hid (U64 v) := hid (by rw [← hv.out]; exact blockS_lt m)
  obtain ⟨l, hl⟩ : ∃ z, Hid (listS v = z) := ⟨_, hid rfl⟩
  obtain ⟨f, hf⟩ : ∃ z, Hid (l.foldl delS p = z) := ⟨_, hid rfl⟩
  have HF : Hid (U64 f) := hid (by rw [← hf.out]; exact fold_lt delS (fun _ g h => delS_lt h g) _ _ hp.out)
  obtain ⟨l2, hl2⟩ : ∃ z, Hid (listS f = z) := ⟨_, hid rfl⟩
  have HO : Hid (([9, 19, 18] ++ l2).find? (hasS f) = o) := hid (by
    rw [← ho.out, ← pick_eq, ← hl2.out, ← hf.out, ← hl.out, ← hv.out]
    rfl)
  have hlen : Hid (l.length ≤ 22) := hid (by rw [← hl.out]; exact listS_len v)
  have hlen2 : Hid (l2.length ≤ 22) := hid (by rw [← hl2.out]; exact listS_len f)
  go_enter Tryd.func32, Tryd.ntmps32
  go_wp2_with (first
    | (go_at_call 26
       (with_reducible refine (block_any H hm hv).mono ?_)
       rintro e w1 ⟨rfl, B1⟩
       have H1 := TabW.below H B1.out)
    | (go_at_call 22
       (first
        | ((with_reducible refine (list_any H1 HV hl).mono ?_)
           rintro e w2 ⟨A2, n2, c2, rfl, hn2, S2, B2⟩
           have B3 := bel_t B1 B2.out
           have H2 := TabW.below H1 B2.out
           have hm2 : n2 ≤ 1000000 := by have := hlen.out; have := hn2.out; omega
           have O3 := lit_own3 w2 [9, 19, 18] 3 w2.heap.size #[.int .i64 9, .int .i64 19, .int .i64 18] rfl rfl (by decide) rfl
           have B4 : Hid (Below w.heap.size w (w2.alloc (.cells #[.int .i64 9, .int .i64 19, .int .i64 18] 3))) := bel_al B3
           have H4 := TabW.below H2 ((Below.refl _ w2).alloc (Nat.le_refl _) (.cells #[.int .i64 9, .int .i64 19, .int .i64 18] 3)))
        | ((with_reducible refine (list_any H4 HF hl2).mono ?_)
           rintro e w5 ⟨A5, n5, c5, rfl, hn5, S5, B5⟩
           have B6 := bel_t B4 B5.out
           have H5 := TabW.below H4 B5.out
           have O5 := hid ((Kept.of_below B5.out 0 []).own O3.out (by simp))
           have hz : w2.heap.size ≤ w5.heap.size := Nat.le_trans (by rw [World.size_alloc]; omega) B5.out.size
           have hm5 : n5 ≤ 22 := by have := hlen2.out; have := hn5.out; omega)))
    | (go_at_call 39
       (with_reducible refine (chdel_any H2 hp S2 hn2 hm2 hf).mono ?_)
       rintro e w3 ⟨rfl, hw3⟩
       obtain rfl := hw3.symm)
    | (refine app_int _ (by rfl) (.tmp 14) (.tmp 16) rfl _ 3 3 (some ⟨_, 0, none⟩) [9, 19, 18] rfl O5 hz A5 n5 c5 l2 rfl S5 hn5.out (by omega) ?_
       intro A7 c7 w7 O7 B7))
  obtain ⟨n7, hn7⟩ : ∃ z, Hid (3 + n5 = z) := ⟨_, hid rfl⟩
  have hle7 : n7 ≤ 25 := by rw [← hn7.out]; omega
  have e7 := hn7.out
  rw [e7] at O7
  have S7 := own_sli O7.out (by rw [← e7, ← hn5.out]; simp; omega)
  have hl7 : Hid (([9, 19, 18] ++ l2).length = n7) := hid (by rw [← e7, ← hn5.out]; simp; omega)
  have B8 := hid (B6.out.trans (B7.out.mono B3.out.size))
  have H7 : Hid (TabW w7) := TabW.below H B8.out
  obtain ⟨L, hL⟩ : ∃ z, Hid ([9, 19, 18] ++ l2 = z) := ⟨_, hid rfl⟩
  rw [hL.out] at S7 hl7 HO
  have e8 : ((3 : Int) + n5) = (n7 : Int) := by omega
  rw [e7, e8]
  clear e7 e8
  go_loopw [19] (fun i wr => ∃ k : Nat, k ≤ n7 ∧ i = .int .i64 k ∧ w7 = wr ∧ Hid ((L.drop k).find? (hasS f) = o)) (fun i _ => n7 - (intOf i).toNat)
  case atStart => exact ⟨0, by omega, rfl, rfl, HO⟩
  case round =>
    obtain ⟨k, hk, rfl, rfl, HR⟩ := hrel
    by_cases hlt : k < n7
    · have hi : (k : Int) < n7 := by omega
      obtain ⟨b, o9, y, rfl, _, hd, c1⟩ := sli_cell S7.out hl7.out hlt
      have HS := find_step (p := hasS f) hd
      clear hd
      cases hq : hasS f y
      · have HQ := hid hq
        rw [hq, if_neg (by decide)] at HS
        have HE : Hid ((L.drop (k + 1)).find? (hasS f) = o) := hid (by rw [← HS]; exact HR.out)
        clear HS hq
        go_wp2_with (first
          | (go_at_call 15
             (with_reducible refine (has_b H7 HF HQ).mono ?_)
             rintro e w9 ⟨rfl, rfl⟩))
        go_roundw
        case rel => exact ⟨k + 1, by omega, by go_num, by trivial, HE⟩
        case measure => simp [intOf]; omega
      · have HQ := hid hq
        rw [hq, if_pos rfl] at HS
        have HE : Hid (o = some y) := hid (by rw [← HS]; exact HR.out.symm)
        clear HS hq
        go_wp2_with (first
          | (go_at_call 15
             (with_reducible refine (has_b H7 HF HQ).mono ?_)
             rintro e w9 ⟨rfl, rfl⟩))
        go_ret2
        rw [HE.out]
        exact ⟨rfl, B8⟩
    · have hi : ¬ (k : Int) < n7 := by omega
      have HE : Hid (o = none) := hid (by rw [← HR.out, List.drop_of_length_le (by rw [hl7.out]; omega)]; rfl)
      go_wp2
      go_ret2
      rw [HE.out]
      exact ⟨rfl, B8⟩
end
end L18
end Go.Proofs.YtjbmoiblkehbmaaDoor
