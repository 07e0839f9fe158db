import Derived.Test.YtggcampdkgfmgaaGreatJY
import Derived.Test.YtggcampdkgfmgaaGreatQI
import Derived.Deep.DeepCutAuto
namespace Go.Proofs.YtggcampdkgfmgaaGreat
open Go.RowKit

/-! LdiscRaw. -/
def opR : List Int := [51, 50, 38]
theorem opR_at {k : Nat} (hk : k < 3) : (#[.int .i64 51, .int .i64 50, .int .i64 38] : Array Value)[k]? = some (.int .i64 (opR.getD k 0)) := by
  match k, hk with
  | 0, _ => rfl
  | 1, _ => rfl
  | 2, _ => rfl
theorem cs_setm {t : Tm} (h : t.c.length = 19) (n : Int) : t.cs.setIfInBounds 22 (.int .i64 n) = ({ t with m := n } : Tm).cs := by
  have h1 : (bv t.c).length = 19 := by simp [bv, h]
  simp only [Tm.cs, Tm.cl, List.setIfInBounds_toArray]
  rw [List.set_append_right _ _ (by omega), h1]
  rfl
theorem cs_sets {t : Tm} (h : t.c.length = 19) (n : Int) : t.cs.setIfInBounds 23 (.int .i64 n) = ({ t with s := n } : Tm).cs := by
  have h1 : (bv t.c).length = 19 := by simp [bv, h]
  simp only [Tm.cs, Tm.cl, List.setIfInBounds_toArray]
  rw [List.set_append_right _ _ (by omega), h1]
  rfl
def tR (t : Tm) : Tm := { setK t opR false 3 with m := 1, s := 0 }
theorem ok1 : i64ok 1 := by unfold i64ok; omega
theorem tR_T {t : Tm} (ht : t.Ok) : RwT (tR t) := by
  have h := setK_ok ht opR false 3
  have h1 := setK_in ht (ops := opR) false (by decide) (op := 51) (by decide) 3 (by decide) (by decide)
  have h2 := setK_in ht (ops := opR) false (by decide) (op := 50) (by decide) 3 (by decide) (by decide)
  have h3 := setK_in ht (ops := opR) false (by decide) (op := 38) (by decide) 3 (by decide) (by decide)
  unfold tR
  generalize setK t opR false 3 = u at h h1 h2 h3 ⊢
  exact ⟨⟨h.len, h.f, h.i, h.o, ok1, ok0⟩, h1, h2, h3, rfl, rfl⟩
theorem box_ms {w : World} {g : Nat} {t : Tm} (ht : t.c.length = 19) (h : Box w g 26 t.cs) : Box ((w.setCell ⟨g, 22, none⟩ (.int .i64 1)).setCell ⟨g, 23, none⟩ (.int .i64 0)) g 26 ({ t with m := 1, s := 0 } : Tm).cs := by
  have h1 := h.store 22 (.int .i64 1)
  rw [cs_setm ht] at h1
  have h2 := h1.store 23 (.int .i64 0)
  rwa [cs_sets (t := { t with m := 1 }) ht] at h2
theorem bel_ms {w : World} (g : Nat) (a b : Value) : Below g w ((w.setCell ⟨g, 22, none⟩ a).setCell ⟨g, 23, none⟩ b) :=
  ((Turn.setCell w g 22 a).below (Nat.le_refl _)).trans ((Turn.setCell _ g 23 b).below (Nat.le_refl _))
theorem mapR_take {t : Tm} {bs : List UInt8} {k : Nat} {y : UInt8} (h : bs[k]? = some y) : L9.mapB t (bs.take (k + 1)) = L9.mapB t (bs.take k) ++ L9.mapR1 t y := by
  obtain ⟨h1, h2⟩ := List.getElem?_eq_some_iff.1 h
  unfold L9.mapB
  rw [List.take_succ_eq_append_getElem h1, h2, List.flatMap_append]
  simp
theorem drop_take {α : Type} (l : List α) (a b : Nat) : l.take a ++ (l.drop a).take b = l.take (a + b) := by
  rw [List.take_add]
set_option maxRecDepth 100000 in
set_option maxHeartbeats 8000000 in
theorem raw_walk (w : World) (t : Tm) (ht : t.Ok) (A : Option Addr) (c n : Nat) (bs : List UInt8) (hb : Hid (SlB w w.heap.size A c bs)) (hn : Hid (bs.length = n)) (q : UInt8) :
    Calls Tryz.prog 6 #[.agg t.cs, .slice A n c, .int .u8 (q.toNat : Int)] w fun e w' => e = .returned (.bool true) ∧ Hid (Below w.heap.size w w') := by
  have hs := cs_size ht.len
  have K0 := old26 w t
  have hq := q.toNat_lt
  obtain ⟨Q, hQ⟩ : ∃ Q, Hid (q.toNat + 1 = Q) := ⟨_, hid rfl⟩
  have hQ0 : 0 < Q := by have := hQ.out; omega
  have hQ1 : Q ≤ 256 := by have := hQ.out; omega
  have hw0 : IntKind.i64.wrap (1 + (q.toNat : Int)) = (Q : Int) := by rw [IntKind.wrap_i64, ← hQ.out]; omega
  have hw1 : IntKind.i64.wrap (q.toNat : Int) = (q.toNat : Int) := by rw [IntKind.wrap_i64]; omega
  have okQ : i64ok (Q : Int) := by unfold i64ok; omega
  go_enter Tryz.func6, Tryz.ntmps6
  go_wp2_with (first
    | (refine bx26 (by rfl) _ (by rfl) _ (by rfl) hs ?_
       intro G0)
    | (go_at_call 15
       (with_reducible refine (alive_any _).mono ?_)
       rintro e u1 ⟨rfl, k⟩
       have G1 := hid (box_below G0.out k.out)
       have K1 := bel_t K0 k.out
       clear k G0 K0)
    | (refine wpList_build_at rfl 60 _ rfl #[.int .i64 51, .int .i64 50, .int .i64 38] ?hc ?_
       case hc => kernel_rfl))
  go_loopg [18] 3 (fun gk i wr => ∃ k : Nat, k + gk = 3 ∧ i = .int .i64 k ∧ Hid (Box wr w.heap.size 26 (setK t opR false k).cs) ∧ Hid (Below w.heap.size w wr))
  case atStart => exact ⟨0, by omega, rfl, G1, K1⟩
  case round =>
    obtain ⟨k, hk, rfl, X3, K3⟩ := hrel
    have hjs : (setK t opR false k).cs.size = 24 := cs_size (setK_ok ht _ _ k).len
    by_cases hlt : k < 3
    · have hki : (k : Int) < 3 := by omega
      have hix := index_int Tryz.underlying60 hlt (opR_at hlt)
      generalize hop : opR.getD k 0 = op at hix
      have HOP := hid hop
      clear hop
      go_wp2_with (first
        | (refine ld26 (by rfl) _ (by rfl) _ (by rfl) _ X3.out hjs ?_)
        | (go_at_call 16
           (with_reducible refine (set_any _ (setK t opR false k) (setK_ok ht _ _ k) op false).mono ?_)
           rintro e u4 ⟨rfl, k4⟩
           have X4 := hid (box_below X3.out k4.out)
           have K4 := bel_t K3 k4.out
           clear k4 X3 K3)
        | (refine st26 (by rfl) _ _ (by rfl) _ (by rfl) (setT (setK t opR false k) op false) (setT_ok (setK_ok ht _ _ k) _ _).len (by rfl) _ X4.out hjs ?_
           intro u5 X5 k5
           have K5 := hid (K4.out.trans (k5.out.below (Nat.le_refl _)))
           clear k5 X4 K4))
      go_roundg (gk - 1)
      case measure => omega
      case rel =>
        rw [← HOP.out] at X5
        exact ⟨k + 1, by omega, by go_num, X5, K5⟩
    · obtain rfl : k = 3 := by omega
      have hki : ¬ ((3 : Nat) : Int) < 3 := by omega
      have len3 := (setK_ok ht opR false 3).len
      have c22 : World.cell? wr ⟨w.heap.size, 22, none⟩ = some (.int .i64 (setK t opR false 3).m) := (X3.out.cell 22).trans (cs_m len3)
      have c23 : World.cell? wr ⟨w.heap.size, 23, none⟩ = some (.int .i64 (setK t opR false 3).s) := (X3.out.cell 23).trans (cs_s len3)
      have z22 := X3.out.frozen 22
      have z23 := X3.out.frozen 23
      have X4 : Hid (Box _ w.heap.size 26 (tR t).cs) := hid (box_ms len3 X3.out)
      have K4 := hid (K3.out.trans (bel_ms w.heap.size (.int .i64 1) (.int .i64 0)))
      have TR := hid (tR_T ht)
      obtain ⟨t6, ht6⟩ : ∃ t6, tR t = t6 := ⟨_, rfl⟩
      rw [ht6] at X4 TR
      have ok6 : t6.Ok := TR.out.ok
      have hs6 := cs_size ok6.len
      clear ht6 hjs hlt hk
      go_upto_region 9 with fail
      clear c22 c23 z22 z23 hki X3 K3
      generalize World.setCell (World.setCell wr _ _) _ _ = v4 at X4 K4 ⊢
      by_cases h500 : 500 < n
      · have h5 : (n : Int) > 500 := by omega
        go_wp2_with fail
        go_ret
        exact ⟨rfl, K4⟩
      · have h5 : ¬ (n : Int) > 500 := by omega
        go_wp2_with (first
          | (refine ld26 (by rfl) _ (by rfl) _ (by rfl) _ X4.out hs6 ?_)
          | (go_at_call 19
             (with_reducible refine (newp_any _ t6 ok6).mono ?_)
             rintro e w2 ⟨p, S0, rfl, A2, N2, k2⟩
             have H2 := hid (Al.made (w0 := v4) A2 N2 k2)
             clear A2 k2 N2))
        clear h5
        go_loopg [34] n (fun gk i wr => ∃ (m : Nat) (S : Nat → Prop) (D : Ds), m + gk = n ∧ i = .int .i64 m ∧ Hid (Al v4 wr p S D) ∧ Hid (RwAt t6 (L9.mapB t6 (bs.take m)) D))
        case atStart => exact ⟨0, S0, newD t6, by omega, rfl, H2, hid (by rw [List.take_zero]; exact RwAt.new ok6)⟩
        case round =>
          clear H2
          obtain ⟨m, S, D, hm, rfl, H3, E3⟩ := hrel
          by_cases hlt : m < n
          · have hki : (m : Int) < (n : Int) := by omega
            have L4 := slb_at hb (bel_t K4 H3.out.bel)
            obtain ⟨b0, o0, y, hA, hy, cy⟩ := slb_cell L4.out hn.out hlt
            subst hA
            have hml := L9.map_len t6 (bs.take (m + 1))
            rw [List.length_take] at hml
            have hst := hid (E3.out.byte TR.out y (by rw [← mapR_take hy]; omega))
            rw [← mapR_take hy] at hst
            clear hml hy
            go_wp2_with (first
              | (go_at_call 20
                 (with_reducible refine (inputp_any _ p S D (hid H3.out.at_) (hid E3.out.inv.fit) y (hid rfl)).mono ?_)
                 rintro e w3 ⟨A3, n3, c3, rfl, hn3, -, O3⟩
                 obtain rfl : n3 = 0 := by rw [← hn3.out, hst.out.2]; rfl
                 obtain ⟨S4, H4, N4, B4⟩ := H3.out.next O3))
            go_roundg (gk - 1)
            case measure => omega
            case rel => exact ⟨m + 1, S4, _, by omega, by go_num, H4, hid hst.out.1⟩
          · obtain rfl : m = n := by omega
            have hki : ¬ (m : Int) < (m : Int) := by omega
            clear hlt hm
            have hml := L9.map_len t6 bs
            rw [hn.out] at hml
            rw [List.take_of_length_le (by have := hn.out; omega)] at E3
            obtain ⟨R, hR⟩ : ∃ R, Hid (L9.mapB t6 bs = R) := ⟨_, hid rfl⟩
            rw [hR.out] at E3 hml
            have hRl : R.length ≤ 1000 := by omega
            clear hml
            go_wp2_with fail
            clear hki
            go_loopg [12, 44] 1001 (fun gk a i wr => ∃ (k j : Nat) (S : Nat → Prop) (D : Ds) (A9 : Option Addr) (m9 c9 : Nat), k + gk = 1001 ∧ i = .int .i64 k ∧ a = .slice A9 m9 c9 ∧ Hid ((R.take j).length = m9) ∧ (R.drop j).length + k ≤ 1000 ∧ Hid (Al v4 wr p S D) ∧ Hid (RwAt t6 (R.drop j) D) ∧ Hid (wr.ownsRow 0 5 1 (.slice A9 m9 c9) m9 (bv (R.take j))) ∧ Hid (∀ x, A9 = some x → v4.heap.size ≤ x.block ∧ ¬ S x.block ∧ x.block < wr.heap.size))
            case atStart => exact ⟨0, 0, S, D, none, 0, 0, by omega, rfl, rfl, hid rfl, by simpa using hRl, H3, hid (by rw [List.drop_zero]; exact E3.out), by rw [List.take_zero]; exact own_nil0 _, hid (fun x h => by cases h)⟩
            case round =>
              clear H3 E3 S D
              obtain ⟨k, j, S, D, A9, m9, c9, hk, rfl, rfl, hm9, hrest, H3, E3, O9, F9⟩ := hrel
              have hk1 : k < 1001 := by omega
              have hki : (k : Int) < 1001 := by omega
              by_cases hre : R.drop j = []
              · have hrd := hid (RwAt.none (hre ▸ E3.out) TR.out hQ0)
                have hRj : R.take j = R := List.take_of_length_le (by have := congrArg List.length hre; rw [List.length_drop] at this; simp at this; omega)
                rw [hRj] at O9 hm9
                have LT := hid hn.out
                go_wp2_with (first
                  | (go_at_call 21
                     (with_reducible refine (readp16_any _ p S D (hid H3.out.at_) (hid E3.out.inv.fit) (Q : Int) 0 okQ ok0 hrd).mono ?_)
                     rintro e w3 ⟨A3, n3, c3, rfl, hn3, L3, O3⟩
                     obtain ⟨S4, H4, N4, B4, F4⟩ := H3.out.nextF O3
                     have X5 := hid (box_below X4.out H4.out.bel)
                     have P9 := own_but O9 B4.out (fun x hx => (F9.out x hx).2.1)
                     have L9' := own0_slb hm9 P9
                     have LB' := slb_at hb (bel_t K4 H4.out.bel))
                  | (refine ld26 (by rfl) _ (by rfl) _ (by rfl) _ X5.out hs6 ?_)
                  | (go_at_call 29
                     (with_reducible refine (L9.map_any _ t6 ok6 A _ c bs LB' hn.out (by omega)).mono ?_)
                     rw [hR.out]
                     rintro e w5 ⟨A5, n5, c5, rfl, hn5, L5, k5⟩
                     have L9'' := slb_at L9' k5
                     have K6 := bel_t (bel_t K4 H4.out.bel) (k5.out.mono (Nat.le_refl _)))
                  | (go_at_call 22
                     (with_reducible refine (bytes_two _ A9 A5 c9 c5 m9 n5 R R hm9.out hn5.out rfl L9'' L5 (by have := hm9.out; unfold maxLen; omega)).mono ?_)
                     rintro e w6 ⟨rfl, k6⟩
                     have K7 := bel_t K6 k6.out))
                go_ret
                exact ⟨rfl, K7⟩
              · obtain ⟨⟨r1, r2⟩, hrr⟩ : ∃ z, Hid (readD D (Q : Int) 0 = z) := ⟨_, hid rfl⟩
                have hrd := hid (E3.out.some TR.out hre hQ0)
                rw [hrr.out] at hrd
                obtain rfl : r2 = ((R.drop j).take Q, true) := hrd.out.1
                have hjl : (R.drop j).length ≠ 0 := fun h => hre (List.eq_nil_of_length_eq_zero h)
                go_wp2_with (first
                  | (go_at_call 21
                     (with_reducible refine (readp16_any _ p S D (hid H3.out.at_) (hid E3.out.inv.fit) (Q : Int) 0 okQ ok0 hrr).mono ?_)
                     rintro e w3 ⟨A3, n3, c3, rfl, hn3, L3, O3⟩
                     obtain ⟨S4, H4, N4, B4, F4⟩ := H3.out.nextF O3
                     have P9 := own_but O9 B4.out (fun x hx => (F9.out x hx).2.1))
                  | (refine app_but w3 rfl _ _ rfl m9 c9 A9 (R.take j) (by rfl) P9 A3 n3 c3 _ (by rfl) L3 hn3.out (by have h1 := hm9.out; have h2 := hn3.out; simp only [List.length_take, List.length_drop] at h1 h2; omega) ?_
                     intro A10 c10 w4 P10 B10 F10))
                go_roundg (gk - 1)
                case measure => omega
                case rel => exact ⟨k + 1, j + Q, S4, r1, A10, m9 + n3, c10, by omega, by go_num, rfl, hid (by rw [← drop_take, List.length_append, hm9.out, hn3.out]), by simp only [List.length_drop] at hrest hjl ⊢; omega,
                  hid ⟨H4.out.at_.keep B10.out (fun x hx => by
                    rintro ⟨a, ha, rfl⟩
                    rcases N4.out _ hx with h | h
                    · exact (F9.out a ha).2.1 h
                    · have := (F9.out a ha).2.2; omega), H4.out.new, H4.out.bel.trans (B10.out.below H4.out.bel.size (fun x hx => by obtain ⟨a, ha, rfl⟩ := hx; exact (F9.out a ha).1))⟩,
                  hid (by have := hrd.out.2; rwa [List.drop_drop] at this),
                  by rw [← drop_take]; exact P10,
                  hid (fun x hx => by
                    rcases F10.out x hx with ⟨a, ha, e⟩ | h
                    · rw [← e]
                      refine ⟨(F9.out a ha).1, fun hx => ?_, Nat.lt_of_lt_of_le (F9.out a ha).2.2 (Nat.le_trans B4.out.size B10.out.size)⟩
                      rcases N4.out _ hx with h | h
                      · exact (F9.out a ha).2.1 h
                      · have := (F9.out a ha).2.2; omega
                    · refine ⟨Nat.le_trans H4.out.bel.size h, fun hx => by have := H4.out.at_.top _ hx; omega, ?_⟩
                      subst hx
                      exact own_lt P10 rfl)⟩
end Go.Proofs.YtggcampdkgfmgaaGreat
