import Derived.Test.YtnodlpbmlfdijaaEI
namespace Go.Proofs.Ytnodlpbmlfdijaa
open Go.RowKit

section
variable {ops : Array Oper} {rest : List Oper} {o : Oper} {a : Act} {Q : Exit → Act → World → Prop}
/-- Behind a guard that holds: bytes are copied to an empty literal. -/
theorem app_copy_g (w : World) (hw : Region.wanted o (yielded ops a.tmps) = true) (s x : Operand) (ho : o.op = .call { callee := .builtin .append, args := #[s, x], argTypes := #[27, 27] }) (g : Nat) (hg : g = w.heap.size)
    (hs : a.eval s = .slice (some ⟨g, 0, none⟩) 0 0) (A : Option Addr) (n c : Nat) (bs : List UInt8) (hx : a.eval x = .slice A n c) (hS : Hid (SlB w w.heap.size A c bs)) (hn : Hid (bs.length = n)) (hm : n ≤ 1000000)
    (h : ∀ A2 c2 u2, Hid (Below w.heap.size w u2) → Hid (u2.ownsRow w.heap.size 5 1 (.slice A2 n c2) n (bv bs)) → wpList Try.prog ops Q rest (a.put o.dst (.slice A2 n c2)) u2) : wpList Try.prog ops Q (o :: rest) a (w.alloc (.cells #[] 5)) := by
  obtain rfl := hn.out
  subst hg
  obtain ⟨i5, hi5, hz5, hz51, hz52⟩ := info_parts Try.info5
  refine BigFrame.wpList_want hw fun _ hK => wp_app _ s x 27 ho w.heap.size 5 i5 _ 1 1 Try.underlying27 hi5 hz5 hz51 hz52 rfl (by decide) _ 0 0 [] hs (lit_own (Nat.le_refl _) rfl) w.heap.size A bs.length c (bv bs) hx (by rw [bv_length, Nat.mul_one]) (hS.out.2.2.2.alloc (Nat.le_refl _) _) (bv_one _) (by unfold maxLen; omega) (by omega) (by simp) ?_
  intro A2 c2 u2 ho2 hg2
  simp only [Nat.zero_add, List.nil_append] at ho2 ⊢
  exact hK _ _ (h A2 c2 u2 (hid (lit_grown rfl hg2)) (hid ho2))
/-- Behind a guard that holds: bytes are put behind what is the call's own. -/
theorem app_more_g (w0 u : World) (hw : Region.wanted o (yielded ops a.tmps) = true) (s x : Operand) (ho : o.op = .call { callee := .builtin .append, args := #[s, x], argTypes := #[27, 27] })
    (A : Option Addr) (n c : Nat) (xs : List UInt8) (hs : a.eval s = .slice A n c) (hown : Hid (u.ownsRow w0.heap.size 5 1 (.slice A n c) n (bv xs))) (hb : Hid (Below w0.heap.size w0 u)) (A2 : Option Addr) (m c2 : Nat) (ys : List UInt8)
    (hx : a.eval x = .slice A2 m c2) (hS : Hid (SlB u u.heap.size A2 c2 ys)) (hn : Hid (xs.length = n)) (hy : Hid (ys.length = m)) (hm : n + m ≤ 1000000)
    (h : ∀ A' c' u', Hid ((xs ++ ys).length = n + m) → Hid (SlB u' u'.heap.size A' c' (xs ++ ys)) → Hid (Below w0.heap.size w0 u') → wpList Try.prog ops Q rest (a.put o.dst (.slice A' (n + m) c')) u') : wpList Try.prog ops Q (o :: rest) a u := by
  obtain rfl := hy.out
  obtain rfl := hn.out
  obtain ⟨i5, hi5, hz5, hz51, hz52⟩ := info_parts Try.info5
  refine BigFrame.wpList_want hw fun _ hK => wp_app _ s x 27 ho w0.heap.size 5 i5 _ 1 1 Try.underlying27 hi5 hz5 hz51 hz52 rfl (by decide) A _ c (bv xs) hs hown.out u.heap.size A2 ys.length c2 (bv ys) hx (by rw [bv_length, Nat.mul_one]) hS.out.2.2.2 (bv_one _) (by unfold maxLen; omega) (by omega) hb.out.size ?_
  intro A3 c3 u2 ho2 hg2
  rw [← bv_append] at ho2
  have hk : Kept w0.heap.size [5] u u2 := (Kept.refl _ _ _).grown hg2 (fun k hk => by obtain ⟨a, cs, b⟩ := own_box hown.out k hk; exact ⟨a, 5, cs, by simp, b⟩)
  have ho3 := ho2
  rw [← List.length_append] at ho3
  exact hK _ _ (h A3 c3 u2 (hid List.length_append) (hid (own_slb (_n := 0) ho3)) (hid (hb.out.trans (hk.below hb.out.size))))
end
theorem slb_own {w : World} {base n c : Nat} {A : Option Addr} {bs : List UInt8} (hn : Hid (bs.length = n)) (h : Hid (w.ownsRow base 5 1 (.slice A n c) n (bv bs))) : Hid (SlB w w.heap.size A c bs) := by
  obtain rfl := hn.out
  exact hid (own_slb (_n := 0) h.out)
theorem lis_at {w w2 : World} {A : Option Addr} {ls : List (List UInt8)} (h : Hid (LisV w w.heap.size A ls)) (hb : Below w.heap.size w w2) : Hid (LisV w2 w2.heap.size A ls) := hid ((h.out.below hb).more hb.size)
theorem era_at {u : Bool} {us : List (List UInt8)} {R : List UInt8} {j : Nat} (h : units u R = us.take (j + 1)) (hj : j < us.length) : us[j]'hj = eraB u R ∧ units u (eraA u R) = us.take j := by
  have hne : R ≠ [] := by
    rintro rfl
    have := congrArg List.length h
    rw [List.length_take] at this
    simp [units_nil] at this
    omega
  rw [units_step u hne, take_snoc us j hj] at h
  have h2 := List.append_inj' h rfl
  exact ⟨(by simpa using h2.2.symm), h2.1⟩
theorem era_size {u : Bool} {R : List UInt8} {us : List (List UInt8)} {j : Nat} (h : units u R = us.take (j + 1)) (hj : j < us.length) : 1 ≤ (eraB u R).length ∧ (eraB u R).length ≤ 4 := by
  have h1 := (era_at h hj).1
  have hm : eraB u R ∈ units u R := by
    rw [h, ← h1, take_snoc us j hj]
    exact List.mem_append_right _ (List.mem_singleton.2 rfl)
  exact units_each u R _ hm
set_option maxRecDepth 100000 in
set_option maxHeartbeats 8000000 in
theorem erases_walk (w : World) (t : Tm) (ht : t.Ok) (A : Option Addr) (c n : Nat) (bs : List UInt8) (hb : Hid (SlB w w.heap.size A c bs)) (hn : bs.length = n) :
    Calls Try.prog 4 #[.agg t.cs, .slice A n c] w fun e w' => e = .returned (.bool true) ∧ Hid (Below w.heap.size w w') := by
  have hs := cs_size ht.len
  have K0 := old26 w t
  have L0 := slb_at hb K0
  by_cases h1 : 600 < n
  · have k1 : (600 : Int) < (n : Int) := by omega
    go_enter Try.func4, Try.ntmps4
    go_wp2_with (first
      | (refine bx26 (by rfl) _ (by rfl) _ (by rfl) hs ?_
         intro G0)
      | (go_at_call 7
         (with_reducible refine (call_alive K0).mono ?_)
         rintro e u1 ⟨rfl, k, K1⟩))
    go_ret
    exact ⟨rfl, K1⟩
  · have k1 : ¬ (600 : Int) < (n : Int) := by omega
    have hm : n ≤ 1000000 := by omega
    obtain ⟨u, hu⟩ : ∃ u, Hid (hasN t.f 42 = u) := ⟨_, hid rfl⟩
    obtain ⟨us, hus⟩ : ∃ us, Hid (units u bs = us) := ⟨_, hid rfl⟩
    have hul : us.length ≤ 600 := by have := units_len u bs; rw [hus.out] at this; omega
    go_enter Try.func4, Try.ntmps4
    go_wp2_with (first
      | (refine bx26 (by rfl) _ (by rfl) _ (by rfl) hs ?_
         intro G0)
      | (refine ld26 (by rfl) _ (by rfl) _ (by rfl) t.cs G1.out hs ?_)
      | (go_at_call 7
         (with_reducible refine (call_alive K0).mono ?_)
         rintro e u1 ⟨rfl, k, K1⟩
         have G1 := hid (box_below G0.out k.out)
         have L1 := slb_at L0 k
         clear k G0)
      | (go_at_call 14
         (with_reducible refine (units_any _ t ht A n c bs hu L1 hn hm).mono ?_)
         rw [hus.out]
         rintro e u2 ⟨LA, k, lc, cs, rfl, hk, o2, P2, K2⟩
         have G2 := hid (box_below G1.out K2.out)
         have L2 := slb_at L1 K2
         have B2 := bel_t K1 K2.out
         have V2 := hid (P2.out.lis o2.out)
         have hkk := hk.out
         clear K2 G1 L1 K1 o2 P2))
    go_loopw [6, 7] (fun l i wr => ∃ (j : Nat) (J : Int) (A2 : Option Addr) (r c2 : Nat) (R : List UInt8), j ≤ k ∧ r ≤ 600 ∧ J = (j : Int) - 1 ∧ l = .slice A2 r c2 ∧ i = .int .i64 J ∧ Hid (R.length = r) ∧ Hid (units u R = us.take j) ∧ Hid (SlB wr wr.heap.size A2 c2 R) ∧ Hid (LisV wr wr.heap.size LA us) ∧ Hid (Below w.heap.size w wr) ∧ Hid (Box wr w.heap.size 26 t.cs)) (fun _ i _ => ((intOf i) + 1).toNat)
    case atStart => exact ⟨k, (k : Int) - 1, A, n, c, bs, Nat.le_refl _, by omega, rfl, rfl, rfl, hid hn, hid (by rw [hus.out, List.take_of_length_le (by omega)]), L2, V2, B2, G2⟩
    case round =>
      obtain ⟨j, J, A2, r, c2, R, hj, hr, hJ, rfl, rfl, hR, hU, HS, HV, HB, HG⟩ := hrel
      have hr1 : r ≤ 1000000 := by omega
      by_cases h0 : j = 0
      · subst h0
        obtain rfl : J = -1 := by omega
        clear hJ
        have hR0 : R = [] := by
          have h2 := hU.out
          rw [List.take_zero] at h2
          by_cases e : R = []
          · exact e
          · exact absurd h2 (units_ne u e)
        subst hR0
        obtain rfl : r = 0 := by have := hR.out; simp at this; omega
        go_wp2_with (first
          | (refine ld26 (by rfl) _ (by rfl) _ (by rfl) t.cs HG.out hs ?_)
          | (go_at_call 10
             (with_reducible refine (erase_any _ t ht A2 0 c2 [] hu HS rfl (by omega)).mono ?_)
             rintro e u3 ⟨A3, n3, c3, A4, n4, c4, rfl, h3, h4, _, _, k3⟩
             obtain rfl : n3 = 0 := by simpa [era_nil] using h3.out.symm
             obtain rfl : n4 = 0 := by simpa [era_nil] using h4.out.symm
             have B3 := bel_t HB k3.out))
        go_ret
        exact ⟨rfl, B3⟩
      · obtain ⟨i, rfl⟩ : ∃ i, j = i + 1 := ⟨j - 1, by omega⟩
        obtain rfl : J = (i : Int) := by omega
        clear hJ
        have hi : i < us.length := by omega
        obtain ⟨e1, e2⟩ := era_at hU.out hi
        obtain ⟨z1, z2⟩ := era_size hU.out hi
        have hjoin := era_join u R
        obtain ⟨xs, hxs⟩ : ∃ xs, eraA u R = xs := ⟨_, rfl⟩
        obtain ⟨ys, hys⟩ : ∃ ys, eraB u R = ys := ⟨_, rfl⟩
        have HXs := hid hxs
        have HYs := hid hys
        rw [hxs] at hjoin e2
        rw [hys] at hjoin e1 z1 z2
        have HJ := hid hjoin
        have HE2 := hid e2
        obtain ⟨lb, lo, rfl, _, hcells⟩ := HV.out (by intro e; rw [e] at hi; simp at hi)
        obtain ⟨A5, c5, q5, S5⟩ := hcells i hi
        rw [e1] at q5 S5
        have HS5 := hid (S5.more (Nat.le_refl _))
        have i1 : (i : Int) < (k : Int) := by omega
        clear hjoin e1 e2 hxs hys hcells S5
        obtain ⟨m, hmm⟩ : ∃ m, Hid (ys.length = m) := ⟨_, hid rfl⟩
        rw [hmm.out] at q5 z1 z2
        have k2 : decide ((m : Int) < 1) = false := by simp; omega
        have k3 : decide ((4 : Int) < (m : Int)) = false := by simp; omega
        go_wp2_with (first
          | (refine ld26 (by rfl) _ (by rfl) _ (by rfl) t.cs HG.out hs ?_)
          | (go_at_call 10
             (with_reducible refine (erase_any _ t ht A2 r c2 R hu HS hR.out hr1).mono ?_)
             rw [HXs.out, HYs.out]
             rintro e u3 ⟨A3, n3, c3, A4, n4, c4, rfl, h3, h4, o3, o4, k3⟩
             obtain rfl : m = n4 := hmm.out.symm.trans h4.out
             have hn3 : n3 + m = r := by have := congrArg List.length HJ.out; rw [List.length_append, h3.out, h4.out, hR.out] at this; exact this
             have B3 := bel_t HB k3.out
             have G3 := hid (box_below HG.out k3.out)
             have V3 := lis_at HV k3.out
             have S3 := slb_at HS k3
             have q53 := (k3.out.cell (p := ⟨lb, lo + i, none⟩) (World.block_lt_of_cell? _ _ q5)).trans q5
             have S53 := slb_at HS5 k3
             have S33 := slb_own h3 o3
             have S43 := slb_own h4 o4
             clear k3)
          | (go_at_call 15
             (first
               | ((with_reducible refine (bytes_two _ A4 A5 c4 c5 m m ys ys h4.out h4.out (Eq.refl ys) S43 S53 (by unfold maxLen; omega)).mono ?_)
                  rintro e u4 ⟨rfl, k4⟩
                  have B4 := bel_t B3 k4.out
                  have G4 := hid (box_below G3.out k4.out)
                  have V4 := lis_at V3 k4.out
                  have S4 := slb_at S3 k4
                  have S34 := slb_at S33 k4
                  have S44 := slb_at S43 k4
                  clear k4)
               | ((with_reducible refine (bytes_two _ A7 A2 c7 c2 r r (xs ++ ys) R (hl7.out.trans hn3) hR.out HJ.out S77 S47 (by unfold maxLen; omega)).mono ?_)
                  rintro e u8 ⟨rfl, k8⟩
                  have B8 := bel_t B7 k8.out
                  have G8 := hid (box_below G7.out k8.out)
                  have V8 := lis_at V7 k8.out
                  have S38 := slb_at S37 k8)))
          | (at_builtin
             (first
               | (refine app_copy_g u4 (by rfl) (.tmp 52) (.tmp 53) rfl _ rfl rfl A3 n3 c3 xs rfl S34 h3 (by omega) ?_
                  intro A6 c6 u6 k6 o6
                  have S46 := slb_at S44 k6)
               | (refine app_more_g u4 u6 (by rfl) (.tmp 54) (.tmp 55) rfl A6 n3 c6 xs rfl o6 k6 A4 m c4 ys rfl S46 h3 h4 (by omega) ?_
                  intro A7 c7 u7 hl7 S77 k7
                  have B7 := bel_t B4 k7.out
                  have G7 := hid (box_below G4.out k7.out)
                  have V7 := lis_at V4 k7.out
                  have S47 := slb_at S4 k7
                  have S37 := slb_at S34 k7))))
        go_roundw
        case rel => exact ⟨i, (i : Int) - 1, A3, n3, c3, xs, by omega, by omega, rfl, rfl, by go_num, h3, HE2, S38, V8, B8, G8⟩
        case measure => simp [intOf] <;> omega
end Go.Proofs.Ytnodlpbmlfdijaa
