import Derived.Test.YtjbmoiblkehbmaaDoorSGE
namespace Go.Proofs.YtjbmoiblkehbmaaDoor
namespace L18
open Go.RowKit

/-! Layer 18: the document's sets. -/
theorem div_has (f k : Nat) : decide ((f / 2 ^ k % 2 : Nat) = 1) = f.testBit k := by
  rw [Bool.eq_iff_iff, decide_eq_true_eq]
  exact has_div f k
theorem div_v {s p k : Nat} (hs : U64 s) (hp : Hid (2 ^ k = p)) : ((IntKind.u64.wrap ((s : Int) / p)).tmod 2 == 1) = s.testBit k := by
  have hs : s < 18446744073709551616 := hs
  have h1 : ((s : Int) / p) = ((s / p : Nat) : Int) := by omega
  have h2 : s / p ≤ s := Nat.div_le_self _ _
  rw [h1, IntKind.wrap_u64, ← div_has, hp.out]
  generalize s / p = z at h2 ⊢
  have h3 : ((z : Int) % 18446744073709551616) = z := by omega
  rw [h3, Int.tmod_eq_emod_of_nonneg (by omega), Bool.eq_iff_iff]
  simp
  omega
theorem bel_t {w a b : World} (h : Hid (Below w.heap.size w a)) (k : Below a.heap.size a b) : Hid (Below w.heap.size w b) := hid (h.out.trans (k.mono h.out.size))
theorem bel_al {u W : World} {o : Obj} (h : Hid (Below u.heap.size u W)) : Hid (Below u.heap.size u (W.alloc o)) := hid (h.out.alloc h.out.size o)
section
variable {w : World}
set_option maxRecDepth 100000 in
set_option maxHeartbeats 2000000 in
theorem rbit_any (w : World) {k p : Nat} (hk : k < 60) (hp : Hid (2 ^ k = p)) : Calls Tryd.prog 38 #[.int .i64 k] w fun e w' => e = .returned (.int .u64 p) ∧ w' = w := by
  go_enter Tryd.func38, Tryd.ntmps38
  go_wp2
  go_loopw [3, 4] (fun a i wr => ∃ j q : Nat, j ≤ k ∧ a = .int .u64 q ∧ i = .int .i64 j ∧ w = wr ∧ Hid (2 ^ j = q)) (fun _ i _ => k - (intOf i).toNat)
  case atStart => exact ⟨0, 1, Nat.zero_le _, rfl, rfl, rfl, hid rfl⟩
  case round =>
    obtain ⟨j, q, hj, rfl, rfl, rfl, HQ⟩ := hrel
    by_cases hlt : j < k
    · have hi : (j : Int) < k := by omega
      have hq : q < 1152921504606846976 := by
        rw [← HQ.out]
        have : 2 ^ j < 2 ^ 60 := Nat.pow_lt_pow_right (by decide) (by omega)
        simpa using this
      go_wp2
      go_roundw
      case rel => exact ⟨j + 1, 2 * q, by omega, by go_num, by go_num, by trivial, hid (by rw [← HQ.out]; omega)⟩
      case measure => simp [intOf]; omega
    · have hi : ¬ (j : Int) < k := by omega
      obtain rfl : j = k := by omega
      have HE : Hid (q = p) := hid (HQ.out.symm.trans hp.out)
      go_wp2
      go_ret
      rw [HE.out]
      exact ⟨rfl, rfl⟩
set_option maxRecDepth 100000 in
set_option maxHeartbeats 2000000 in
theorem rhas_any (w : World) {s : Nat} (hs : Hid (U64 s)) {g : Int} {b : Bool} (hb : Hid (hasS s g = b)) : Calls Tryd.prog 16 #[.int .u64 s, .int .i64 g] w fun e w' => e = .returned (.bool b) ∧ Hid (Below w.heap.size w w') := by
  cases hk : known g
  · have HK := hid hk
    have HB : Hid (b = false) := hid (by rw [← hb.out, hasS, hk]; rfl)
    clear hk
    go_enter Tryd.func16, Tryd.ntmps16
    go_wp2_with (first
      | (go_at_call 35
         (with_reducible refine (ofr_any _ g).mono ?_)
         rintro e w1 ⟨rfl, B1⟩
         have HKK := HK.out
         rw [HKK]))
    go_ret
    rw [HB.out]
    exact ⟨rfl, bel_al B1⟩
  · have HK := hid hk
    obtain ⟨h1, h2⟩ := known_rng hk
    obtain ⟨k, rfl⟩ := Int.eq_ofNat_of_zero_le (show 0 ≤ g by omega)
    obtain ⟨p, hp⟩ : ∃ z, Hid (2 ^ k = z) := ⟨_, hid rfl⟩
    have hp0 : 0 < p := by rw [← hp.out]; exact Nat.two_pow_pos k
    clear hk
    go_enter Tryd.func16, Tryd.ntmps16
    go_wp2_with (first
      | (go_at_call 35
         (with_reducible refine (ofr_any _ _).mono ?_)
         rintro e w1 ⟨rfl, B1⟩
         have HKK := HK.out
         rw [HKK])
      | (go_at_call 38
         (with_reducible refine (rbit_any _ (by omega) hp).mono ?_)
         rintro e w2 ⟨rfl, rfl⟩))
    go_ret
    rw [div_v hs.out hp]
    refine ⟨?_, bel_al B1⟩
    rw [← hb.out, hasS, HK.out]
    rfl
set_option maxRecDepth 100000 in
set_option maxHeartbeats 2000000 in
theorem radd_any (w : World) {s : Nat} (hs : Hid (U64 s)) {g : Int} {t : Nat} (ht : Hid (addS s g = t)) : Calls Tryd.prog 18 #[.int .u64 s, .int .i64 g] w fun e w' => e = .returned (.int .u64 t) ∧ Hid (Below w.heap.size w w') := by
  obtain ⟨b, hb⟩ : ∃ b, Hid (hasS s g = b) := ⟨_, hid rfl⟩
  cases hk : known g
  · have HK := hid hk
    have HE : Hid (s = t) := hid (by rw [← ht.out, addS, hk]; rfl)
    clear hk
    go_enter Tryd.func18, Tryd.ntmps18
    go_wp2_with (first
      | (go_at_call 35
         (with_reducible refine (ofr_any _ g).mono ?_)
         rintro e w1 ⟨rfl, B1⟩
         have HKK := HK.out
         rw [HKK]))
    go_ret
    rw [HE.out]
    exact ⟨rfl, bel_al B1⟩
  · have HK := hid hk
    obtain ⟨h1, h2⟩ := known_rng hk
    have hlt := known_lt hk
    cases b
    · have hbit : s.testBit g.toNat = false := by simpa [hasS, hk] using hb.out
      have HS := add_bit hlt hs.out hbit
      obtain ⟨k, rfl⟩ := Int.eq_ofNat_of_zero_le (show 0 ≤ g by omega)
      obtain ⟨p, hp⟩ : ∃ z, Hid (2 ^ k = z) := ⟨_, hid rfl⟩
      have HW : Hid (IntKind.u64.wrap ((s : Int) + p) = t) := hid (by
        have hv := addS_lt hs.out (k : Int)
        rw [ht.out] at hv
        have e : s + p = t := by
          rw [← hp.out, ← ht.out, addS, hk]
          exact HS
        have hv : t < 18446744073709551616 := hv
        rw [IntKind.wrap_u64]
        omega)
      clear hk HS hbit
      go_enter Tryd.func18, Tryd.ntmps18
      go_wp2_with (first
        | (go_at_call 35
           (with_reducible refine (ofr_any _ _).mono ?_)
           rintro e w1 ⟨rfl, B1⟩
           have HKK := HK.out
           rw [HKK]
           have B2 := fun o => bel_al (o := o) B1)
        | (go_at_call 16
           (with_reducible refine (rhas_any _ hs hb).mono ?_)
           rintro e w2 ⟨rfl, B3⟩
           have B4 := bel_t (B2 _) B3.out)
        | (go_at_call 38
           (with_reducible refine (rbit_any _ (by omega) hp).mono ?_)
           rintro e w3 ⟨rfl, rfl⟩))
      go_ret
      rw [HW.out]
      exact ⟨rfl, B4⟩
    · have hbit : s.testBit g.toNat = true := by simpa [hasS, hk] using hb.out
      have HE : Hid (s = t) := hid (by
        rw [← ht.out, addS, hk]
        simp only [if_true]
        apply Nat.eq_of_testBit_eq
        intro i
        rw [Nat.testBit_or, Nat.testBit_two_pow]
        by_cases e : g.toNat = i
        · subst e; simp [hbit]
        · simp [e])
      clear hk hbit
      go_enter Tryd.func18, Tryd.ntmps18
      go_wp2_with (first
        | (go_at_call 35
           (with_reducible refine (ofr_any _ _).mono ?_)
           rintro e w1 ⟨rfl, B1⟩
           have HKK := HK.out
           rw [HKK]
           have B2 := fun o => bel_al (o := o) B1)
        | (go_at_call 16
           (with_reducible refine (rhas_any _ hs hb).mono ?_)
           rintro e w2 ⟨rfl, B3⟩
           have B4 := bel_t (B2 _) B3.out))
      go_ret
      rw [HE.out]
      exact ⟨rfl, B4⟩
set_option maxRecDepth 100000 in
set_option maxHeartbeats 2000000 in
theorem rdel_any (w : World) {s : Nat} (hs : Hid (U64 s)) {g : Int} {t : Nat} (ht : Hid (delS s g = t)) : Calls Tryd.prog 20 #[.int .u64 s, .int .i64 g] w fun e w' => e = .returned (.int .u64 t) ∧ Hid (Below w.heap.size w w') := by
  cases hb' : hasS s g
  · have hb := hid hb'
    have HE : Hid (s = t) := hid (by
      rw [← ht.out, delS]
      split
      · rename_i hk
        have hbit : s.testBit g.toNat = false := by simpa [hasS, hk] using hb'
        refine bits_eq hs.out (Nat.lt_of_le_of_lt Nat.and_le_left hs.out) fun i hi => ?_
        rw [Nat.testBit_and, testBit_not (known_lt hk)]
        by_cases e : g.toNat = i
        · subst e; simp [hbit]
        · simp [e, hi]
      · rfl)
    clear hb'
    go_enter Tryd.func20, Tryd.ntmps20
    go_wp2_with (first
      | (go_at_call 16
         (with_reducible refine (rhas_any _ hs hb).mono ?_)
         rintro e w2 ⟨rfl, B3⟩))
    go_ret
    rw [HE.out]
    exact ⟨rfl, B3⟩
  · have hb := hid hb'
    have hk := has_known hb'
    obtain ⟨h1, h2⟩ := known_rng hk
    have hlt := known_lt hk
    have hbit : s.testBit g.toNat = true := by simpa [hasS, hk] using hb'
    have HS := sub_bit hlt hs.out hbit
    obtain ⟨k, rfl⟩ := Int.eq_ofNat_of_zero_le (show 0 ≤ g by omega)
    obtain ⟨p, hp⟩ : ∃ z, Hid (2 ^ k = z) := ⟨_, hid rfl⟩
    have HW : Hid (IntKind.u64.wrap ((s : Int) - p) = t) := hid (by
      have e : s - p = t ∧ p ≤ s := by
        rw [← hp.out, ← ht.out, delS, hk]
        exact HS
      have hv : s < 18446744073709551616 := hs.out
      rw [IntKind.wrap_u64]
      omega)
    clear hk HS hbit hb'
    go_enter Tryd.func20, Tryd.ntmps20
    go_wp2_with (first
      | (go_at_call 16
         (with_reducible refine (rhas_any _ hs hb).mono ?_)
         rintro e w2 ⟨rfl, B3⟩)
      | (go_at_call 38
         (with_reducible refine (rbit_any _ (by omega) hp).mono ?_)
         rintro e w3 ⟨rfl, rfl⟩))
    go_ret
    rw [HW.out]
    exact ⟨rfl, B3⟩
set_option maxRecDepth 100000 in
set_option maxHeartbeats 2000000 in
theorem rname_any (w : World) {g : Int} {n : ByteArray} {b : Bool} (hn : Hid (nmS g = n)) (hb : Hid (known g = b)) : Calls Tryd.prog 10 #[.int .i64 g] w fun e w' => e = .returned (.tuple #[.string n, .bool b]) ∧ Hid (Below w.heap.size w w') := by
  go_enter Tryd.func10, Tryd.ntmps10
  go_wp2_with (first
    | (go_at_call 35
       (with_reducible refine (ofr_any _ g).mono ?_)
       rintro e w1 ⟨rfl, B1⟩
       have B2 := fun o => bel_al (o := o) B1))
  go_ret2
  rw [hn.out, hb.out]
  exact ⟨rfl, B2 _⟩
set_option maxRecDepth 100000 in
set_option maxHeartbeats 2000000 in
theorem rwire_any (w : World) {g : Int} {b : Bool} (hb : Hid (wiS g = b)) : Calls Tryd.prog 14 #[.int .i64 g] w fun e w' => e = .returned (.bool b) ∧ Hid (Below w.heap.size w w') := by
  go_enter Tryd.func14, Tryd.ntmps14
  go_wp2_with (first
    | (go_at_call 35
       (with_reducible refine (ofr_any _ g).mono ?_)
       rintro e w1 ⟨rfl, B1⟩
       have B2 := fun o => bel_al (o := o) B1))
  go_ret
  rw [hb.out]
  exact ⟨rfl, B2 _⟩
set_option maxRecDepth 100000 in
set_option maxHeartbeats 2000000 in
theorem rof_any (w : World) {A : Option Addr} {n c : Nat} {l : List Int} (hS : Hid (SlI w w.heap.size A c l)) (hn : Hid (l.length = n)) (hn0 : n ≤ 1000000) {t : Nat} (ht : Hid (ofS l = t)) :
    Calls Tryd.prog 25 #[.slice A n c] w fun e w' => e = .returned (.int .u64 t) ∧ Hid (Below w.heap.size w w') := by
  go_enter Tryd.func25, Tryd.ntmps25
  go_wp2
  go_loopw [3, 8] (fun a i wr => ∃ (k s : Nat), k ≤ n ∧ a = .int .u64 s ∧ i = .int .i64 k ∧ Hid (Below w.heap.size w wr) ∧ Hid (U64 s) ∧ Hid ((l.drop k).foldl addS s = t)) (fun _ i _ => n - (intOf i).toNat)
  case atStart => exact ⟨0, 0, Nat.zero_le _, rfl, rfl, hid (Below.refl _ _), hid (by decide), ht⟩
  case round =>
    obtain ⟨k, s, hk, rfl, rfl, HB, hs, HT⟩ := hrel
    by_cases hlt : k < n
    · obtain ⟨b, o, y, rfl, _, hd, c1⟩ := sli_cell (sli_up hS HB.out).out hn.out hlt
      have HD : Hid ((y :: l.drop (k + 1)).foldl addS s = t) := by rw [← hd]; exact HT
      obtain ⟨s2, hs2⟩ : ∃ z, Hid (addS s y = z) := ⟨_, hid rfl⟩
      have HV : Hid (U64 s2) := hid (by rw [← hs2.out]; exact addS_lt hs.out y)
      have HF : Hid ((l.drop (k + 1)).foldl addS s2 = t) := by
        have := HD.out
        rw [List.foldl_cons, hs2.out] at this
        exact this
      have hi : (k : Int) < n := by omega
      clear hd
      go_wp2_with (first
        | (go_at_call 18
           (with_reducible refine (radd_any _ hs hs2).mono ?_)
           rintro e w1 ⟨rfl, B1⟩
           have B2 := bel_t HB B1.out))
      go_roundw
      case rel => exact ⟨k + 1, s2, by omega, rfl, by go_num, B2, HV, HF⟩
      case measure => simp [intOf]; omega
    · have hi : ¬ (k : Int) < n := by omega
      have HE : Hid (s = t) := by
        have := HT.out
        rw [List.drop_of_length_le (by rw [hn.out]; omega)] at this
        exact this
      go_wp2
      go_ret
      rw [HE.out]
      exact ⟨rfl, HB⟩
/-- What is left of a set's list from a row on. -/
def restR (s k : Nat) : List Int := (sigL.drop k).filter (hasS s)
theorem restR_step (s : Nat) {k : Nat} {x : Int} (h : sigL[k]? = some x) : restR s k = if hasS s x = true then x :: restR s (k + 1) else restR s (k + 1) := by
  unfold restR
  obtain ⟨h1, rfl⟩ := List.getElem?_eq_some_iff.1 h
  rw [List.drop_eq_getElem_cons h1]
  split
  · rename_i hq
    rw [List.filter_cons_of_pos hq]
  · rename_i hq
    rw [List.filter_cons_of_neg hq]
set_option maxRecDepth 100000 in
set_option maxHeartbeats 4000000 in
theorem rlist_any (w : World) {s : Nat} (hs : Hid (U64 s)) {l : List Int} (hl : Hid (listS s = l)) : Calls Tryd.prog 23 #[.int .u64 s] w (RetI w l) := by
  go_enter Tryd.func23, Tryd.ntmps23
  go_wp2_with (first
    | (go_at_call 36
       (with_reducible refine (rows_r _).mono ?_)
       rintro e w1 ⟨b, rfl, HR, B1⟩))
  go_loopw [3, 8] (fun a i wr => ∃ (k n c : Nat) (A : Option Addr) (xs : List Int), k ≤ 22 ∧ a = .slice A n c ∧ i = .int .i64 k ∧ Hid (xs.length = n) ∧ n ≤ k ∧ Hid (wr.ownsRow w1.heap.size 3 1 (.slice A n c) n (iv xs)) ∧ Hid (Below w1.heap.size w1 wr) ∧ Hid (xs ++ restR s k = l)) (fun _ i _ => 22 - (intOf i).toNat)
  case atStart =>
    refine ⟨0, 0, 0, none, [], by omega, rfl, rfl, hid rfl, Nat.le_refl _, hid ⟨rfl, .inl ⟨rfl, rfl⟩⟩, hid (Below.refl _ _), hid ?_⟩
    exact hl.out
  case round =>
    obtain ⟨k, n, c, A, xs, hk, rfl, rfl, HN, hnk, HO, HB, HT⟩ := hrel
    by_cases hlt : k < 22
    · have hi : (k : Int) < 22 := by omega
      obtain ⟨x, hx⟩ : ∃ x, sigL[k]? = some x := ⟨sigL[k]'hlt, List.getElem?_eq_getElem _⟩
      obtain ⟨c0, c1, c2, c3⟩ := (RowsW.below HR HB.out).out.2 k x hx
      have HS := restR_step s hx
      have HB2 : ∀ o, Hid (Below w1.heap.size w1 (wr.alloc o)) := fun o => bel_al HB
      have HO2 : ∀ o, Hid ((wr.alloc o).ownsRow w1.heap.size 3 1 (.slice A n c) n (iv xs)) := fun o => own_al HO o
      have HX := hid (Box.new wr 61 #[.int .i64 x, .string (nmS x), .int .i64 (efS x), .bool (wiS x)])
      cases hq : hasS s x
      · have HQ := hid hq
        rw [hq, if_neg (by decide)] at HS
        have HE := hid HS
        clear HS hq hx
        go_wp2_with (first
          | (go_at_call 16
             (with_reducible refine (rhas_any _ hs HQ).mono ?_)
             rintro e w2 ⟨rfl, B2⟩
             have B3 := bel_t (HB2 _) B2.out
             have HO3 := hid ((Kept.of_below B2.out 0 []).own (HO2 _).out (by simp))))
        go_roundw
        case rel => exact ⟨k + 1, n, c, A, xs, by omega, rfl, by go_num, HN, by omega, HO3, B3, hid (by rw [← HE.out]; exact HT.out)⟩
        case measure => simp [intOf]; omega
      · have HQ := hid hq
        rw [hq, if_pos rfl] at HS
        have HE := hid HS
        clear HS hq hx
        go_wp2_with (first
          | (go_at_call 16
             (with_reducible refine (rhas_any _ hs HQ).mono ?_)
             rintro e w2 ⟨rfl, B2⟩
             have B3 := bel_t (HB2 _) B2.out
             have HO3 := hid ((Kept.of_below B2.out 0 []).own (HO2 _).out (by simp))
             have HX2 := box_below HX.out B2.out
             have d0 : w2.cell? ⟨wr.heap.size, 0, none⟩ = some (.int .i64 x) := HX2.cell 0
             have HO4 := own_al HO3 (.cells #[.int .i64 x] 3)
             have HL2 := sli_lit w2 [x] 1 w2.heap.size #[.int .i64 x] rfl rfl (by decide) rfl
             have hz : w1.heap.size ≤ (w2.alloc (.cells #[.int .i64 x] 3)).heap.size := by
               have := B3.out.size
               rw [World.size_alloc]
               omega)
          | (refine app_int _ (by rfl) (.tmp 16) (.tmp 19) rfl w1.heap.size n c A xs rfl HO4 hz (some ⟨_, 0, none⟩) 1 1 [x] rfl HL2 rfl (by omega) ?_
             intro A' c' u1 HO5 HB5))
        go_roundw
        case rel =>
          refine ⟨k + 1, n + 1, c', A', xs ++ [x], by omega, rfl, by go_num, hid (by simp [HN.out]), by omega, HO5, hid ?_, hid ?_⟩
          · exact (B3.out.alloc B3.out.size _).trans HB5.out
          · rw [List.append_assoc, List.singleton_append, ← HE.out]
            exact HT.out
        case measure => simp [intOf]; omega
    · have hi : ¬ (k : Int) < 22 := by omega
      obtain rfl : xs = l := by
        have := HT.out
        rw [show restR s k = [] by unfold restR; rw [List.drop_of_length_le (by show 22 ≤ k; omega)]; rfl, List.append_nil] at this
        exact this
      go_wp2
      go_ret
      exact ⟨A, n, c, rfl, HN, own_sli HO.out HN.out, bel_t B1 HB.out⟩
set_option maxRecDepth 100000 in
set_option maxHeartbeats 2000000 in
theorem rblock_any (w : World) {s t : Nat} (hs : Hid (U64 s)) (ht : Hid (blockS s = t)) :
    Calls Tryd.prog 27 #[.int .u64 s] w fun e w' => e = .returned (.int .u64 t) ∧ Hid (Below w.heap.size w w') := by
  obtain ⟨l, hl⟩ : ∃ z, Hid (listS s = z) := ⟨_, hid rfl⟩
  obtain ⟨v, hv⟩ : ∃ z, Hid (ofS l = z) := ⟨_, hid rfl⟩
  have HV : Hid (U64 v) := hid (by rw [← hv.out]; exact ofS_lt l)
  obtain ⟨v2, hv2⟩ : ∃ z, Hid (delS v 9 = z) := ⟨_, hid rfl⟩
  have HV2 : Hid (U64 v2) := hid (by rw [← hv2.out]; exact delS_lt HV.out 9)
  have hT : Hid (delS v2 19 = t) := hid (by rw [← hv2.out, ← hv.out, ← hl.out, ← ht.out]; rfl)
  have hlen : Hid (l.length ≤ 22) := hid (by rw [← hl.out]; exact listS_len s)
  go_enter Tryd.func27, Tryd.ntmps27
  go_wp2_with (first
    | (go_at_call 23
       (with_reducible refine (rlist_any _ hs hl).mono ?_)
       rintro e w1 ⟨A1, n1, c1, rfl, hn1, S1, B1⟩
       have hm1 : n1 ≤ 1000000 := by have := hlen.out; have := hn1.out; omega)
    | (go_at_call 25
       (with_reducible refine (rof_any _ S1 hn1 hm1 hv).mono ?_)
       rintro e w2 ⟨rfl, B2⟩
       have B3 := bel_t B1 B2.out)
    | (go_at_call 20
       (first
        | ((with_reducible refine (rdel_any _ HV hv2).mono ?_)
           rintro e w3 ⟨rfl, B4⟩
           have B5 := bel_t B3 B4.out)
        | ((with_reducible refine (rdel_any _ HV2 hT).mono ?_)
           rintro e w4 ⟨rfl, B6⟩
           have B7 := bel_t B5 B6.out))))
  go_ret
  exact ⟨rfl, B7⟩
end
end L18
end Go.Proofs.YtjbmoiblkehbmaaDoor
