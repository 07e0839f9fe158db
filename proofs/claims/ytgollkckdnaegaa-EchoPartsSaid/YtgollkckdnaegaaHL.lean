import Derived.Test.YtgollkckdnaegaaHK
namespace Go.Proofs.Ytgollkckdnaegaa
open Go.RowKit

/-! What takes characters off the screen: the document's. -/
theorem colsr_grow (u W : World) (hW : Below u.heap.size u W) {t : Tm} (ht : t.Ok) (col : Int) (A : Option Addr) (n c : Nat) (bs : List UInt8) {s v : Bool} (hs60 : Hid (hasN t.f 60 = s)) (hs42 : Hid (hasN t.f 42 = v)) (hb : Hid (SlB u u.heap.size A c bs)) (hn : Hid (bs.length = n)) (hm : nrm col + 8 * n ≤ 65535) {M : Nat} (hM : Hid (colsN s v (nrm col) bs = M)) :
    Calls Try.prog 18 #[.agg t.cs, .int .i64 col, .slice A n c] W fun e w' => e = .returned (.int .i64 (M : Int)) ∧ Below u.heap.size u w' ∧ Below W.heap.size W w' := by
  refine (colsr_any W ht col A n c bs hs60 hs42 (slb_up hb hW) hn.out hm).mono ?_
  rintro e w' ⟨rfl, h⟩
  rw [hM.out]
  exact ⟨rfl, hW.trans (h.out.mono hW.size), h.out⟩
attribute [local go_sem ↓] ex_ld26
attribute [local go_sem] isP_v blkV_v aggV_v
set_option maxRecDepth 100000 in
set_option maxHeartbeats 4000000 in
theorem rubr_any (w : World) {t : Tm} (ht : t.Ok) (col : Int) (A A2 : Option Addr) (n n2 c c2 : Nat) (xs ys : List UInt8) {s v : Bool} (hs60 : Hid (hasN t.f 60 = s)) (hs42 : Hid (hasN t.f 42 = v)) (hx : Hid (SlB w w.heap.size A c xs)) (hy : Hid (SlB w w.heap.size A2 c2 ys)) (hn : Hid (xs.length = n)) (hn2 : Hid (ys.length = n2)) (hm : nrm col + 8 * (n + n2) ≤ 65535) :
    Calls Try.prog 20 #[.agg t.cs, .int .i64 col, .slice A n c, .slice A2 n2 c2] w (Own w (rubB s v (nrm col) xs ys)) := by
  have hs := cs_size ht.len
  have K0 := old26 w t
  have X0 := slb_at hx K0
  have Y0 := slb_at hy K0
  have hm1 : nrm col + 8 * n ≤ 65535 := by omega
  have hnn : n + n2 ≤ 1000000 := by omega
  have hn1 : n ≤ 1000000 := by omega
  have HM1 := hid hm1
  have HM0 := hid hm
  obtain ⟨M1, hM1⟩ : ∃ M, Hid (colsN s v (nrm col) (xs ++ ys) = M) := ⟨_, hid rfl⟩
  obtain ⟨M2, hM2⟩ : ∃ M, Hid (colsN s v (nrm col) xs = M) := ⟨_, hid rfl⟩
  have hle : M2 ≤ M1 ∧ M1 ≤ M2 + 8 * n2 := by
    have h1 := colsN_le s v ys (colsN s v (nrm col) xs)
    rw [← colsN_append, hM1.out, hM2.out, hn2.out] at h1
    exact h1
  have hrub : Hid (rubB s v (nrm col) xs ys = offB (M1 - M2)) := hid (by unfold rubB; rw [hM1.out, hM2.out])
  obtain ⟨d, hd⟩ : ∃ d, M1 - M2 = d := ⟨_, rfl⟩
  rw [hd] at hrub
  rw [hrub.out]
  have hdi : (M1 : Int) - (M2 : Int) = (d : Int) := by omega
  have hd3 : d ≤ 100000 := by omega
  have hwd : IntKind.i64.wrap (d : Int) = (d : Int) := by rw [IntKind.wrap_i64]; omega
  clear hrub hle hd hm hm1
  go_enter Try.func20, Try.ntmps20
  go_wp2_with (first
    | (refine bx26 (by rfl) _ (by rfl) _ (by rfl) hs ?_
       intro G0))
  generalize w.alloc (.cells t.cs 26) = u0 at G0 K0 X0 Y0 ⊢
  have bz : ∀ W, Below u0.heap.size u0 W → isB W w.heap.size = true ∧ cs26 W w.heap.size = t.cs := fun W h => ⟨isB_mk (box_below G0.out h) hs, cs26_of (box_below G0.out h)⟩
  go_region_held3 (fun u => isB u w.heap.size = true ∧ cs26 u w.heap.size = t.cs) (exact bz _ (by repeat (first | exact Below.refl _ _ | exact b8 | exact b7 | exact b6 | exact b5 | with_reducible apply bel_dr | with_reducible apply bel_al))) ((first
    | (go_at_call 18
       (first
         | ((with_reducible refine (colsr_grow u6 _ ?c3 ht col A6 (n + n2) c6 (xs ++ ys) hs60 hs42 S6 hl6 HM0.out hM1).mono ?_)
            case c3 => repeat (first | exact Below.refl _ _ | exact d7 | with_reducible apply bel_dr | with_reducible apply bel_al)
            rintro e u8 ⟨rfl, d68, d8⟩
            have b8 := b6.trans (d68.mono b6.size))
         | ((with_reducible refine (colsr_grow u0 _ ?c4 ht col A n c xs hs60 hs42 X0 hn HM1.out hM2).mono ?_)
            case c4 => repeat (first | exact Below.refl _ _ | exact b8 | exact b6 | exact b5 | with_reducible apply bel_dr | with_reducible apply bel_al)
            rintro e u7 ⟨rfl, b7, d7⟩
            first | have z7 := box_below (box_nw (cs := #[]) (t := 5) rfl) d7 | have z7 := box_below (box_dr (box_nw (cs := #[]) (t := 5) rfl)) d7 | skip)))
    | (refine step_copy u0 u0 rfl (.tmp 14) (.tmp 15) rfl _ rfl ?s1 ?s2 ?s3 ?s4 A n c xs rfl X0 hn hn1 ?_
       case s1 => first | exact z7 | exact box_nw rfl | exact box_dr (box_nw rfl)
       case s2 => first | exact Nat.le_refl _ | exact b7.size
       case s3 => repeat (first | exact Below.refl _ _ | exact b7 | with_reducible apply bel_dr | with_reducible apply bel_al)
       case s4 => repeat (first | exact Below.refl _ _ | exact b7 | with_reducible apply bel_dr | with_reducible apply bel_al)
       intro A5 c5 u5 b5 o5)
    | (refine step_more u0 u5 u0 rfl (.tmp 16) (.tmp 17) rfl A5 n c5 xs rfl o5 ?e1 ?e2 ?e3 A2 n2 c2 ys rfl Y0 hn2 hn hnn ?_
       case e1 => repeat (first | exact Below.refl _ _ | exact d7 | with_reducible apply bel_dr | with_reducible apply bel_al)
       case e2 => repeat (first | exact Below.refl _ _ | exact b7 | exact b5 | with_reducible apply bel_dr | with_reducible apply bel_al)
       case e3 => repeat (first | exact Below.refl _ _ | exact b7 | exact b5 | with_reducible apply bel_dr | with_reducible apply bel_al)
       intro A6 c6 u6 b6 S6
       have hl6 : Hid ((xs ++ ys).length = n + n2) := hid (by rw [List.length_append, hn.out, hn2.out]))))
  all_goals
    clear bz
    first
    | (have K9 := bel_t K0 b7
       (try rw [hwd])
       go_wp2
       go_loopw [9, 11] (fun o i wr => ∃ (k m : Nat) (A9 : Option Addr) (c9 : Nat), k ≤ d ∧ m ≤ 3 * k ∧ i = .int .i64 k ∧ o = .slice A9 m c9 ∧ Hid ((offB k).length = m) ∧ Hid (wr.ownsRow w.heap.size 5 1 (.slice A9 m c9) m (bv (offB k))) ∧ Hid (Below w.heap.size w wr)) (fun _ i _ => d - (intOf i).toNat)
       case atStart => exact ⟨0, 0, none, 0, Nat.zero_le _, Nat.zero_le _, rfl, rfl, hid rfl, hid (World.ownsRow_nil _ _ _ _), K9⟩
       case round =>
         obtain ⟨k, m, A9, c9, hk, hm9, rfl, rfl, HL, HO, HB⟩ := hrel
         by_cases hlt : k < d
         · have hz := HB.out.size
           have hal := (Below.refl wr.heap.size wr).alloc (Nat.le_refl _) (.cells #[.int .u8 8, .int .u8 32, .int .u8 8] 5)
           have O1 := hid (own_keep HO.out hal)
           have B1 := bel_t HB hal
           have hz1 := B1.out.size
           have S1 := hid (slb_lit wr [8, 32, 8] 3 #[.int .u8 8, .int .u8 32, .int .u8 8] rfl rfl (by decide))
           have HLM := hid hm9
           clear hal
           go_wp2_with (first
             | (at_builtin
                (refine app_own (wr.alloc (.cells #[.int .u8 8, .int .u8 32, .int .u8 8] 5)) (by rfl) (.tmp 30) (.tmp 31) rfl w.heap.size m c9 A9 (offB k) rfl O1 hz1 (some ⟨wr.heap.size, 0, none⟩) 3 3 [8, 32, 8] rfl S1 rfl (by omega) ?_)
                intro A3 c3 u3 O3 k3
                have B3 := bel_k B1 k3))
           go_roundw
           case rel => exact ⟨k + 1, m + 3, A3, c3, by omega, by omega, by go_num, rfl, hid (by rw [offB_len]; have h9 := HL.out; rw [offB_len] at h9; omega), O3, B3⟩
           case measure => simp [intOf] <;> omega
         · obtain rfl : k = d := by omega
           go_wp2
           go_ret
           exact ⟨_, _, _, rfl, HL, HO, HB⟩)
    | (have K9 := bel_t K0 b8
       (try rw [hwd])
       go_wp2
       go_loopw [9, 11] (fun o i wr => ∃ (k m : Nat) (A9 : Option Addr) (c9 : Nat), k ≤ d ∧ m ≤ 3 * k ∧ i = .int .i64 k ∧ o = .slice A9 m c9 ∧ Hid ((offB k).length = m) ∧ Hid (wr.ownsRow w.heap.size 5 1 (.slice A9 m c9) m (bv (offB k))) ∧ Hid (Below w.heap.size w wr)) (fun _ i _ => d - (intOf i).toNat)
       case atStart => exact ⟨0, 0, none, 0, Nat.zero_le _, Nat.zero_le _, rfl, rfl, hid rfl, hid (World.ownsRow_nil _ _ _ _), K9⟩
       case round =>
         obtain ⟨k, m, A9, c9, hk, hm9, rfl, rfl, HL, HO, HB⟩ := hrel
         by_cases hlt : k < d
         · have hz := HB.out.size
           have hal := (Below.refl wr.heap.size wr).alloc (Nat.le_refl _) (.cells #[.int .u8 8, .int .u8 32, .int .u8 8] 5)
           have O1 := hid (own_keep HO.out hal)
           have B1 := bel_t HB hal
           have hz1 := B1.out.size
           have S1 := hid (slb_lit wr [8, 32, 8] 3 #[.int .u8 8, .int .u8 32, .int .u8 8] rfl rfl (by decide))
           have HLM := hid hm9
           clear hal
           go_wp2_with (first
             | (at_builtin
                (refine app_own (wr.alloc (.cells #[.int .u8 8, .int .u8 32, .int .u8 8] 5)) (by rfl) (.tmp 30) (.tmp 31) rfl w.heap.size m c9 A9 (offB k) rfl O1 hz1 (some ⟨wr.heap.size, 0, none⟩) 3 3 [8, 32, 8] rfl S1 rfl (by omega) ?_)
                intro A3 c3 u3 O3 k3
                have B3 := bel_k B1 k3))
           go_roundw
           case rel => exact ⟨k + 1, m + 3, A3, c3, by omega, by omega, by go_num, rfl, hid (by rw [offB_len]; have h9 := HL.out; rw [offB_len] at h9; omega), O3, B3⟩
           case measure => simp [intOf] <;> omega
         · obtain rfl : k = d := by omega
           go_wp2
           go_ret
           exact ⟨_, _, _, rfl, HL, HO, HB⟩)
end Go.Proofs.Ytgollkckdnaegaa
