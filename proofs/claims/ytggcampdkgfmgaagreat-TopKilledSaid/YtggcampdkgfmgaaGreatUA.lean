import Derived.Test.YtggcampdkgfmgaaGreatTZ
namespace Go.Proofs.YtggcampdkgfmgaaGreat
open Go.RowKit

/-! TopKilled: the walk. -/
theorem lit_slb10 (u : World) : Hid (SlB (u.alloc (.cells #[.int .u8 10] 5)) (u.alloc (.cells #[.int .u8 10] 5)).heap.size (some ⟨u.heap.size, 0, none⟩) 1 [10]) := lit_slb u 10
/-- Bytes behind a row of the call's own, in a region with guards. -/
theorem app_w {ops : Array Oper} {rest : List Oper} {o : Oper} {a : Act} {Q : Exit → Act → World → Prop} (w : World) (hw : Region.wanted o (yielded ops a.tmps) = true) (s x : Operand) (ho : o.op = .call { callee := .builtin .append, args := #[s, x], argTypes := #[27, 27] })
    (base : Nat) (hbase : base ≤ w.heap.size) (n c : Nat) (A : Option Addr) (xs : List UInt8) (hs : a.eval s = .slice A n c) (hown : Hid (w.ownsRow base 5 1 (.slice A n c) n (bv xs))) (A2 : Option Addr) (m c2 : Nat) (ys : List UInt8)
    (hx : a.eval x = .slice A2 m c2) (hS : Hid (SlB w w.heap.size A2 c2 ys)) (hy : ys.length = m) (hm : n + m ≤ 1000000)
    (h : ∀ A' c' w', Hid (w'.ownsRow base 5 1 (.slice A' (n + m) c') (n + m) (bv (xs ++ ys))) → Hid (w.grownBy w' (Value.slice A n c).ownBlock) → wpList Tryz.prog ops Q rest (a.put o.dst (.slice A' (n + m) c')) w') : wpList Tryz.prog ops Q (o :: rest) a w := by
  subst hy
  obtain ⟨i5, hi5, hz5, hz51, hz52⟩ := info_parts Tryz.info5
  refine BigFrame.wpList_want hw fun _ hK => wp_app w s x 27 ho base 5 i5 _ 1 1 Tryz.underlying27 hi5 hz5 hz51 hz52 rfl (by decide) A n c (bv xs) hs hown.out w.heap.size A2 ys.length c2 (bv ys) hx (by rw [bv_length, Nat.mul_one]) hS.out.2.2.2 (bv_one _) (by unfold maxLen; omega) (by omega) hbase fun A' c' w' h2 h3 => hK _ _ (h A' c' w' (hid ?_) (hid h3))
  rwa [← bv_append] at h2
/-- Bytes copied to an empty literal, in a region with guards. -/
theorem app_copyw {ops : Array Oper} {rest : List Oper} {o : Oper} {a : Act} {Q : Exit → Act → World → Prop} (w : World) (hw : Region.wanted o (yielded ops a.tmps) = true) (s x : Operand) (ho : o.op = .call { callee := .builtin .append, args := #[s, x], argTypes := #[27, 27] })
    (hs : a.eval s = .slice (some ⟨w.heap.size, 0, none⟩) 0 0) (A : Option Addr) (n c : Nat) (bs : List UInt8) (hx : a.eval x = .slice A n c) (hS : Hid (SlB w w.heap.size A c bs)) (hn : bs.length = n) (hm : n ≤ 1000000)
    (h : ∀ A2 c2 u2, Hid (Below w.heap.size w u2) → Hid (u2.ownsRow w.heap.size 5 1 (.slice A2 n c2) n (bv bs)) → wpList Tryz.prog ops Q rest (a.put o.dst (.slice A2 n c2)) u2) : wpList Tryz.prog ops Q (o :: rest) a (w.alloc (.cells #[] 5)) := by
  refine app_w _ hw s x ho w.heap.size (by simp) 0 0 _ [] hs (hid (lit_own (Nat.le_refl _) rfl)) A n c bs hx (slb_at hS (hid ((Below.refl _ w).alloc (Nat.le_refl _) _))) hn (by omega) ?_
  intro A2 c2 u2 ho2 hg2
  simp only [Nat.zero_add, List.nil_append] at ho2 ⊢
  exact h A2 c2 u2 (hid (lit_grown rfl hg2.out)) ho2
theorem own_ge0 {w : World} {base e size n c : Nat} {A : Option Addr} {xs : List Value} (h : w.ownsRow base e size (.slice A n c) n xs) : ∀ x, (∃ q, A = some q ∧ q.block = x) → base ≤ x := by
  rintro x ⟨q, rfl, rfl⟩
  rcases h.2 with ⟨e, _⟩ | ⟨g, cap, cur, e, hb, _⟩
  · cases e
  · injection e with e1 _ _
    injection e1 with e1
    subst e1
    exact hb
set_option maxRecDepth 100000 in
set_option maxHeartbeats 16000000 in
theorem killed_walk (w : World) (t : Tm) (ht : t.Ok) (A : Option Addr) (c n : Nat) (bs : List UInt8) (A2 : Option Addr) (c2 n2 : Nat) (ms : List UInt8) (hb : Hid (SlB w w.heap.size A c bs)) (hn : Hid (bs.length = n)) (hb2 : Hid (SlB w w.heap.size A2 c2 ms)) (hn2 : Hid (ms.length = n2)) :
    Calls Tryz.prog 14 #[.agg t.cs, .slice A n c, .slice A2 n2 c2] w fun e w' => e = .returned (.bool true) ∧ Hid (Below w.heap.size w w') := by
  have hs := cs_size ht.len
  have K0 := old26 w t
  obtain ⟨t6, ht6⟩ : ∃ t6, Hid (tP t = t6) := ⟨_, hid rfl⟩
  have TL := hid (tP_T ht)
  rw [ht6.out] at TL
  have ok6 : t6.Ok := TL.out.1
  have hs6 := cs_size ok6.len
  have cS : ∀ W, Calls Tryz.prog 51 #[.agg t.cs] W fun e w' => e = .returned (.agg t6.cs) ∧ Hid (Below W.heap.size W w') := fun W => by rw [← ht6.out]; exact plainSet_any W t ht
  obtain ⟨kc, hkc⟩ : ∃ x, Hid (chV t6 4 = x) := ⟨_, hid rfl⟩
  obtain ⟨kb, hkb⟩ : ∃ x, Hid (chB t6 4 = x) := ⟨_, hid rfl⟩
  have cC : ∀ W, Calls Tryz.prog 23 #[.agg t6.cs, .int .i64 4] W fun e w' => e = .returned (.tuple #[.int .u8 (kc.toNat : Int), .bool kb]) ∧ Hid (Below W.heap.size W w') := fun W => by rw [← hkc.out, ← hkb.out]; exact char_any W t6 ok6 4
  have hkt := kc.toNat_lt
  obtain ⟨p1, hp1⟩ := tt_b t6 bs
  obtain ⟨p2, hp2⟩ := tt_b t6 ms
  go_enter Tryz.func14, Tryz.ntmps14
  go_upto_region 5 with (first
    | (refine bx26 (by rfl) _ (by rfl) _ (by rfl) hs ?_
       intro G0)
    | (go_at_call 50
       (with_reducible refine (shaken_any _).mono ?_)
       rintro e u1 ⟨rfl, k⟩
       have G1 := hid (box_below G0.out k.out)
       have K1 := bel_t K0 k.out
       clear k G0 K0)
    | (refine ld26 (by rfl) _ (by rfl) _ (by rfl) t.cs G1.out hs ?_)
    | (go_at_call 51
       (with_reducible refine (cS _).mono ?_)
       rintro e u2 ⟨rfl, k2⟩
       have X2 := hid (box_below G1.out k2.out)
       have K2 := bel_t K1 k2.out
       clear k2 G1 K1)
    | (refine st26 (by rfl) _ _ (by rfl) _ (by rfl) t6 ok6.len (by rfl) _ X2.out hs ?_
       intro u3 X3 k3
       have K3 := hid (K2.out.trans (k3.out.below (Nat.le_refl _)))
       clear k3 X2 K2)
    | (refine ld26 (by rfl) _ (by rfl) _ (by rfl) t6.cs X3.out hs6 ?_)
    | (go_at_call 23
       (with_reducible refine (cC _).mono ?_)
       rintro e u4 ⟨rfl, k4⟩
       have X4 := hid (box_below X3.out k4.out)
       have K4 := bel_t K3 k4.out
       clear k4 X3 K3))
  cases kb
  · go_wp2_with fail
    go_ret
    exact ⟨rfl, K4⟩
  cases p1
  · go_wp2_with (first
      | (refine ld26 (by rfl) _ (by rfl) _ (by rfl) t6.cs X4.out hs6 ?_)
      | (go_at_call 52
         (with_reducible refine (plainText_b _ t6 ok6 A n c bs (slb_at hb K4) hn hp1).mono ?_)
         rintro e u5 ⟨rfl, k5⟩
         have K5 := bel_t K4 k5.out))
    go_ret
    exact ⟨rfl, K5⟩
  cases p2
  · go_wp2_with (first
      | (refine ld26 (by rfl) _ (by rfl) _ (by rfl) t6.cs X4.out hs6 ?_)
      | (go_at_call 52
         (first
           | ((with_reducible refine (plainText_b u4 t6 ok6 A n c bs (slb_at hb K4) hn hp1).mono ?_)
              rintro e u5 ⟨rfl, k5⟩
              have X5 := hid (box_below X4.out k5.out)
              have K5 := bel_t K4 k5.out)
           | ((with_reducible refine (plainText_b u5 t6 ok6 A2 n2 c2 ms (slb_at hb2 K5) hn2 hp2).mono ?_)
              rintro e u6 ⟨rfl, k6⟩
              have K6 := bel_t K5 k6.out)))
      | (refine ld26 (by rfl) _ (by rfl) _ (by rfl) t6.cs X5.out hs6 ?_))
    go_ret
    exact ⟨rfl, K6⟩
  have P1 := hid (hp1.out.1 rfl).p
  have P2 := hid (hp2.out.1 rfl).p
  have hn1 : n ≤ 200 := by have := P1.out.1; have := hn.out; omega
  have hm1 : n2 ≤ 200 := by have := P2.out.1; have := hn2.out; omega
  by_cases h10 : kc = 10
  · have q1 : ((kc.toNat : Int) == 10) = true := by rw [h10]; rfl
    clear h10
    go_wp2_with (first
      | (refine ld26 (by rfl) _ (by rfl) _ (by rfl) t6.cs X4.out hs6 ?_)
      | (go_at_call 52
         (first
           | ((with_reducible refine (plainText_b u4 t6 ok6 A n c bs (slb_at hb K4) hn hp1).mono ?_)
              rintro e u5 ⟨rfl, k5⟩
              have X5 := hid (box_below X4.out k5.out)
              have K5 := bel_t K4 k5.out)
           | ((with_reducible refine (plainText_b u5 t6 ok6 A2 n2 c2 ms (slb_at hb2 K5) hn2 hp2).mono ?_)
              rintro e u6 ⟨rfl, k6⟩
              have K6 := bel_t K5 k6.out)))
      | (refine ld26 (by rfl) _ (by rfl) _ (by rfl) t6.cs X5.out hs6 ?_))
    go_ret
    exact ⟨rfl, K6⟩
  have q1 : ((kc.toNat : Int) == 10) = false := u8_ne h10
  by_cases h13 : kc = 13
  · have q2 : ((kc.toNat : Int) == 13) = true := by rw [h13]; rfl
    clear h13 h10
    go_wp2_with (first
      | (refine ld26 (by rfl) _ (by rfl) _ (by rfl) t6.cs X4.out hs6 ?_)
      | (go_at_call 52
         (first
           | ((with_reducible refine (plainText_b u4 t6 ok6 A n c bs (slb_at hb K4) hn hp1).mono ?_)
              rintro e u5 ⟨rfl, k5⟩
              have X5 := hid (box_below X4.out k5.out)
              have K5 := bel_t K4 k5.out)
           | ((with_reducible refine (plainText_b u5 t6 ok6 A2 n2 c2 ms (slb_at hb2 K5) hn2 hp2).mono ?_)
              rintro e u6 ⟨rfl, k6⟩
              have K6 := bel_t K5 k6.out)))
      | (refine ld26 (by rfl) _ (by rfl) _ (by rfl) t6.cs X5.out hs6 ?_))
    go_ret
    exact ⟨rfl, K6⟩
  have q2 : ((kc.toNat : Int) == 13) = false := u8_ne h13
  have H10 := hid h10
  have H13 := hid h13
  clear h10 h13
  go_upto_region 7 with (first
    | (refine ld26 (by rfl) _ (by rfl) _ (by rfl) t6.cs X4.out hs6 ?_)
    | (go_at_call 52
       (first
         | ((with_reducible refine (plainText_b u4 t6 ok6 A n c bs (slb_at hb K4) hn hp1).mono ?_)
            rintro e u5 ⟨rfl, k5⟩
            have X5 := hid (box_below X4.out k5.out)
            have K5 := bel_t K4 k5.out)
         | ((with_reducible refine (plainText_b u5 t6 ok6 A2 n2 c2 ms (slb_at hb2 K5) hn2 hp2).mono ?_)
            rintro e u6 ⟨rfl, k6⟩
            have X6 := hid (box_below X5.out k6.out)
            have K6 := bel_t K5 k6.out)))
    | (refine ld26 (by rfl) _ (by rfl) _ (by rfl) t6.cs X5.out hs6 ?_))
  clear X4 X5 K4 K5 q1 q2 cS cC
  go_wp2_with fail
  go_loopg [9] 18 (fun gk i wr => ∃ m : Nat, m + gk = 18 ∧ i = .int .i64 ((m : Int) + 1) ∧ Hid (∀ j, j < m → (j : Int) + 1 ≠ 4 → L15.isC t6 ((j : Int) + 1) kc = false) ∧ Hid (Below u6.heap.size u6 wr))
  case atStart => exact ⟨0, by omega, rfl, hid (fun j hj => by omega), hid (Below.refl _ _)⟩
  case round =>
    obtain ⟨m, hm, rfl, HD, K7⟩ := hrel
    have X7 := hid (box_below X6.out K7.out)
    by_cases hlt : m < 18
    · have hki : (m : Int) + 1 ≤ 18 := by omega
      by_cases h4 : m = 3
      · have q4 : (((m : Int) + 1) != 4) = false := by rw [h4]; rfl
        have H4 := hid h4
        clear h4
        go_wp2_with fail
        go_roundg (gk - 1)
        case measure => omega
        case rel => exact ⟨m + 1, by omega, by go_num, hid (fun j hj hj4 => by
          by_cases e : j = m
          · have := H4.out; omega
          · exact HD.out j (by omega) hj4), K7⟩
      · have q4 : (((m : Int) + 1) != 4) = true := by rw [bne, beq_eq_false_iff_ne.2 (by omega)]; rfl
        clear h4
        cases hc : L15.isC t6 ((m : Int) + 1) kc
        · go_wp2_with (first
            | (refine ld26 (by rfl) _ (by rfl) _ (by rfl) t6.cs X7.out hs6 ?_)
            | (go_at_call 18
               (with_reducible refine (L15.isp_b _ t6 ok6 _ kc hc).mono ?_)
               rintro e u8 ⟨rfl, k8⟩
               have K8 := bel_t K7 k8.out))
          go_roundg (gk - 1)
          case measure => omega
          case rel => exact ⟨m + 1, by omega, by go_num, hid (fun j hj hj4 => by
            by_cases e : j = m
            · subst e; exact hc
            · exact HD.out j (by omega) hj4), K8⟩
        · go_wp2_with (first
            | (refine ld26 (by rfl) _ (by rfl) _ (by rfl) t6.cs X7.out hs6 ?_)
            | (go_at_call 18
               (with_reducible refine (L15.isp_b _ t6 ok6 _ kc hc).mono ?_)
               rintro e u8 ⟨rfl, k8⟩
               have K8 := bel_t K7 k8.out))
          go_ret
          exact ⟨rfl, hid (K6.out.trans (K8.out.mono K6.out.size))⟩
    · obtain rfl : m = 18 := by omega
      have hki : ¬ ((18 : Nat) : Int) + 1 ≤ 18 := by omega
      have K8 : Hid (Below w.heap.size w wr) := hid (K6.out.trans (K7.out.mono K6.out.size))
      have HC : Hid (∀ op : Int, 1 ≤ op → op ≤ 18 → op ≠ 4 → L15.isC t6 op kc = false) := hid (fun op ho hp h4 => by
        have := HD.out (op - 1).toNat (by omega) (by omega)
        rwa [show ((op - 1).toNat : Int) + 1 = op by omega] at this)
      obtain ⟨v8, hv8⟩ : ∃ x, x = wr := ⟨_, rfl⟩
      subst hv8
      clear K7 HD X6 K6
      have L1 := slb_at hb K8
      have L2 := slb_at hb2 K8
      obtain ⟨N, hN⟩ : ∃ N, n + n2 = N := ⟨_, rfl⟩
      go_upto_region 13 with (first
        | (at_builtin
           (first
             | (refine app_copyo v8 rfl _ _ rfl (by rfl) A n c bs (by rfl) L1 hn.out (by omega) ?_
                intro A9 c9 u9 K9 O9)
             | (refine app_but u9 rfl _ _ rfl n c9 A9 bs (by rfl) (hid (own_mono O9.out (Nat.zero_le _))) A2 n2 c2 ms (by rfl) (slb_at L2 K9) hn2.out (by omega) ?_
                intro A10 c10 u10 O10 B10 F10
                have K10 : Hid (Below v8.heap.size v8 u10) := hid (K9.out.trans (B10.out.below K9.out.size (own_ge0 O9.out)))))))
      rw [hN] at O10
      have hNl : Hid ((bs ++ ms).length = N) := hid (by rw [List.length_append, hn.out, hn2.out, hN])
      have S10 := own0_slb hNl O10
      clear O10 B10 F10 O9 K9
      have X10 := hid (box_below X7.out K10.out)
      clear X7
      go_loopg [65] N (fun gk i wr => ∃ k : Nat, k + gk = N ∧ i = .int .i64 k ∧ Hid (∀ (j : Nat) (y : UInt8), j < k → (bs ++ ms)[j]? = some y → y ≠ 10) ∧ Hid (Below u10.heap.size u10 wr))
      case atStart => exact ⟨0, by omega, rfl, hid (fun j y hj => by omega), hid (Below.refl _ _)⟩
      case round =>
        obtain ⟨k, hk, rfl, HE, K11⟩ := hrel
        have K12 : Hid (Below v8.heap.size v8 wr) := hid (K10.out.trans (K11.out.mono K10.out.size))
        by_cases hlt : k < N
        · have hki : (k : Int) < (N : Int) := by omega
          obtain ⟨b0, o0, y, hA, hy, cy⟩ := slb_cell (slb_at S10 K11).out hNl.out hlt
          subst hA
          have HY := hid hy
          have hyt := y.toNat_lt
          clear hy
          by_cases hy10 : y = 10
          · have q5 : ((y.toNat : Int) == 10) = true := by rw [hy10]; rfl
            clear hy10
            go_wp2_with fail
            go_ret
            exact ⟨rfl, hid (K8.out.trans (K12.out.mono K8.out.size))⟩
          · have q5 : ((y.toNat : Int) == 10) = false := u8_ne hy10
            have HY10 := hid hy10
            clear hy10
            go_wp2_with fail
            go_roundg (gk - 1)
            case measure => omega
            case rel => exact ⟨k + 1, by omega, by go_num, hid (fun j z hj hz => by
              by_cases e : j = k
              · subst e
                rw [HY.out] at hz
                injection hz with hz
                subst hz
                exact HY10.out
              · exact HE.out j z (by omega) hz), K11⟩
        · obtain rfl : k = N := by omega
          have hki : ¬ (k : Int) < (k : Int) := by omega
          have X13 := hid (box_below X10.out K11.out)
          have hall : ∀ y ∈ bs ++ ms, y ≠ 10 := fun y hy => by
            obtain ⟨j, hj⟩ := List.mem_iff_getElem?.1 hy
            have hjl := (List.getElem?_eq_some_iff.1 hj).1
            exact HE.out j y (by have := hNl.out; omega) hj
          have pb : ∀ y ∈ bs, PlainC t6 y := fun y hy => (P1.out.2.2 y hy).resolve_left (hall y (by simp [hy]))
          have pm : ∀ y ∈ ms, PlainC t6 y := fun y hy => (P2.out.2.2 y hy).resolve_left (hall y (by simp [hy]))
          have hk4 : L15.isC t6 4 kc = true := by unfold L15.isC; rw [hkb.out, hkc.out]; simp
          have hrd := killed_read ok6 ⟨ok6, TL.out.2.1, TL.out.2.2.1, TL.out.2.2.2.1, TL.out.2.2.2.2.1, TL.out.2.2.2.2.2.1, TL.out.2.2.2.2.2.2, P1.out.2.1⟩ pb pm P1.out.1 P2.out.1 H10.out H13.out hk4 HC.out
          replace hrd := hid hrd
          clear hall pb pm hk4 HE X10 K11 S10
          obtain ⟨v, hv⟩ : ∃ x, x = wr := ⟨_, rfl⟩
          subst hv
          have KV : Hid (Below w.heap.size w v) := hid (K8.out.trans (K12.out.mono K8.out.size))
          have M1 := slb_at hb KV
          have M2 := slb_at hb2 KV
          obtain ⟨D1, hD1⟩ : ∃ D, Hid (inAll (newD t6) bs = D) := ⟨_, hid rfl⟩
          obtain ⟨D2, hD2⟩ : ∃ D, Hid (inAll D1 [kc] = D) := ⟨_, hid rfl⟩
          obtain ⟨D3, hD3⟩ : ∃ D, Hid (inAll D2 ms = D) := ⟨_, hid rfl⟩
          obtain ⟨D4, hD4⟩ : ∃ D, Hid (inAll D3 [10] = D) := ⟨_, hid rfl⟩
          rw [hD1.out, hD2.out, hD3.out, hD4.out] at hrd
          have I0 : Hid (Inv (newD t6)) := hid (Inv.new ok6)
          have hlen : Hid ((ms ++ [10]).length = n2 + 1) := hid (by rw [List.length_append, hn2.out]; rfl)
          clear K8 K12 hkc hkb HC H10 H13
          go_upto_region 26 with (first
            | (refine ld26 (by rfl) _ (by rfl) _ (by rfl) t6.cs X13.out hs6 ?_)
            | (go_at_call 53
               (with_reducible refine (opened_any v t6 ok6).mono ?_)
               rintro e v1 ⟨g, p, S1, rfl, H1⟩
               have H1 : Hid (AlP v v1 g p S1 { newPt t6 ⟨0, 0, 0, 0⟩ with sl := 1, d := newD t6 }) := H1)
            | (go_at_call 41
               (first
                 | ((with_reducible refine (mw_al H1 I0 A n c bs (slb_at M1 (hid H1.out.bel)) hn (by omega) (AlP.fr H1 (hid (slb_lt M1))) hD1).mono ?_)
                    rintro e v2 ⟨k2, A14, n14, c14, S2, rfl, H2, I1⟩
                    have H2l : Hid (AlP v (v2.alloc (.cells #[.int .u8 (kc.toNat : Int)] 5)) g p S2 { newPt t6 ⟨0, 0, 0, 0⟩ with sl := 1, d := D1 }) := hid (H2.out.grow ((Below.refl _ _).alloc (Nat.le_refl _) _))
                    have f2 : Hid (([kc] : List UInt8) ≠ [] → ∀ a, (some ⟨v2.heap.size, 0, none⟩ : Option Addr) = some a → ¬ S2 a.block) := hid (fun _ a ha hS => by injection ha with ha; subst ha; have h := H2.out.at_.at_.top _ hS; exact absurd h (Nat.lt_irrefl _)))
                 | ((with_reducible refine (mw_al H2l I1 (some ⟨v2.heap.size, 0, none⟩) 1 1 [kc] (lit_slb v2 kc) (hid rfl) (by omega) f2 hD2).mono ?_)
                    rintro e v3 ⟨k3, A15, n15, c15, S3, rfl, H3, I2⟩)
                 | ((with_reducible refine (mw_al H3 I2 A2 n2 c2 ms (slb_at M2 (hid H3.out.bel)) hn2 (by omega) (AlP.fr H3 (hid (slb_lt M2))) hD3).mono ?_)
                    rintro e v4 ⟨k4, A16, n16, c16, S4, rfl, H4, I3⟩
                    have H4l : Hid (AlP v (v4.alloc (.cells #[.int .u8 10] 5)) g p S4 { newPt t6 ⟨0, 0, 0, 0⟩ with sl := 1, d := D3 }) := hid (H4.out.grow ((Below.refl _ _).alloc (Nat.le_refl _) _))
                    have f4 : Hid (([10] : List UInt8) ≠ [] → ∀ a, (some ⟨v4.heap.size, 0, none⟩ : Option Addr) = some a → ¬ S4 a.block) := hid (fun _ a ha hS => by injection ha with ha; subst ha; have h := H4.out.at_.at_.top _ hS; exact absurd h (Nat.lt_irrefl _)))
                 | ((with_reducible refine (mw_al H4l I3 (some ⟨v4.heap.size, 0, none⟩) 1 1 [10] (lit_slb10 v4) (hid rfl) (by omega) f4 hD4).mono ?_)
                    rintro e v5 ⟨k5, A17, n17, c17, S5, rfl, H5, I4⟩)))
            | (go_at_call 43
               (with_reducible refine (rd_al H5 I4 hrd).mono ?_)
               rintro e v6 ⟨A18, n18, c18, rfl, N18, L18, K18⟩))
          obtain rfl : n2 + 1 = n18 := hlen.out.symm.trans N18.out
          have KW : Hid (Below w.heap.size w v6) := hid (KV.out.trans (K18.out.mono KV.out.size))
          have M3 := slb_at hb2 KW
          clear H1 H2 H2l H3 H4 H4l H5 I0 I1 I2 I3 I4 f2 f4 hrd M1 M2
          go_wp2_with (first
            | (at_builtin
               (first
                 | (refine app_copyw v6 (by rfl) _ _ rfl (by rfl) A2 n2 c2 ms (by rfl) M3 hn2.out (by omega) ?_
                    intro A19 c19 u19 K19 O19
                    have K20 : Hid (Below v6.heap.size v6 (u19.alloc (.cells #[.int .u8 10] 5))) := hid (K19.out.alloc K19.out.size _)
                    have O20 : Hid ((u19.alloc (.cells #[.int .u8 10] 5)).ownsRow v6.heap.size 5 1 (.slice A19 n2 c19) n2 (bv ms)) := hid (own_keep O19.out ((Below.refl _ _).alloc (Nat.le_refl _) _)))
                 | (refine app_w _ (by rfl) _ _ rfl v6.heap.size K20.out.size n2 c19 A19 ms (by rfl) O20 (some ⟨u19.heap.size, 0, none⟩) 1 1 [10] (by rfl) (lit_slb10 u19) rfl (by omega) ?_
                    intro A21 c21 u21 O21 g21
                    have K21 : Hid (Below v6.heap.size v6 u21) := hid (app_bel K20.out O20.out g21.out)
                    have S21 := slb_own hlen O21)))
            | (go_at_call 22
               (with_reducible refine (bytes_two u21 A18 A21 c18 c21 (n2 + 1) (n2 + 1) (ms ++ [10]) (ms ++ [10]) hlen.out hlen.out rfl (slb_at L18 K21) S21 (by unfold maxLen; omega)).mono ?_)
               rintro e u22 ⟨rfl, k22⟩
               have K22 := bel_t K21 k22.out))
          go_ret
          exact ⟨rfl, hid (KW.out.trans (K22.out.mono KW.out.size))⟩
end Go.Proofs.YtggcampdkgfmgaaGreat
