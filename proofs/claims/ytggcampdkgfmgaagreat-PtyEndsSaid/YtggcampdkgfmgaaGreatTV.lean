import Derived.Test.YtggcampdkgfmgaaGreatTU
namespace Go.Proofs.YtggcampdkgfmgaaGreat
open Go.RowKit

/-! Layer 17: PtyEnds, the walk. -/
theorem sizeEn : (Tryz.prog.info? 86).map (·.size) = some 27 := by kernel_rfl
attribute [local go_sem ↓] wp_st26 wp_ldR ex_ld26 wq_ld26 Go.wp_at_zero Go.wp_at_succ
attribute [local go_sem] isP_v blkV_v aggV_v
set_option maxRecDepth 100000 in
set_option maxHeartbeats 16000000 in
theorem ends_walk (w : World) (t : Tm) (ht : t.Ok) (A : Option Addr) (c n : Nat) (bs : List UInt8) (A2 : Option Addr) (c2 n2 : Nat) (ws : List UInt8) (q : UInt8) (hb : Hid (SlB w w.heap.size A c bs)) (hn : Hid (bs.length = n)) (hb2 : Hid (SlB w w.heap.size A2 c2 ws)) (hn2 : Hid (ws.length = n2)) (r : List Value) (hr : r = [.slice A n c, .slice A2 n2 c2, .int .u8 (q.toNat : Int)]) :
    Calls Tryz.prog 9 #[.agg (tmV t r)] w fun e w' => e = .returned (.bool true) ∧ Hid (Below w.heap.size w w') := by
  have hl := ht.len
  have hs := cs_size hl
  have hsz : Hid ((Tryz.prog.info? 86).map (·.size) = some (tmV t r).size) := hid (by rw [tmV_size ht, hr]; exact sizeEn)
  have HB0 : Hid (Box (w.alloc (.cells (tmV t r) 86)) w.heap.size 86 (tmV t r)) := hid (Box.new w _ _)
  have HK0 : Hid (Below w.heap.size w (w.alloc (.cells (tmV t r) 86))) := hid ((Below.refl _ w).alloc (Nat.le_refl _) _)
  have F24 : Hid ((tmV t r)[24]? = some (.slice A n c)) := hid (tmV_back ht (j := 0) (by rw [hr]; rfl))
  have F25 : Hid ((tmV t r)[25]? = some (.slice A2 n2 c2)) := hid (tmV_back ht (j := 1) (by rw [hr]; rfl))
  have F26 : Hid ((tmV t r)[26]? = some (.int .u8 (q.toNat : Int))) := hid (tmV_back ht (j := 2) (by rw [hr]; rfl))
  generalize hV : tmV t r = V at hsz HB0 HK0 F24 F25 F26 ⊢
  have F0 : Hid (∀ (j : Nat) (v : Value), t.cl[j]? = some v → V[j]? = some v) := hid (by rw [← hV]; exact tmV_front r)
  clear hV hr
  go_enter Tryz.func9, Tryz.ntmps9
  go_wp2_with (first
    | (refine bxT (by rfl) 86 _ (by rfl) _ (by rfl) hsz.out ?_)
    | (go_at_call 38
       (with_reducible refine (alive17 _).mono ?_)
       rintro e v1 ⟨rfl, k1⟩
       have HK1 := bel_t HK0 k1.out
       have HB1 := hid (box_below HB0.out k1.out)
       clear k1 HB0 HK0))
  go_cut [3, 4, 5, 6] (fun a b x y wx => ∃ g, a = .pointer (some ⟨g, 0, none⟩) ∧ b = .slice A n c ∧ x = .slice A2 n2 c2 ∧ y = .int .u8 (q.toNat : Int) ∧ w.heap.size ≤ g ∧ Hid (Below w.heap.size w wx) ∧ Hid (Box wx g 26 t.cs))
  case first =>
    obtain ⟨r1, r2⟩ := front_R (W := v1.drew) (g := w.heap.size) hl HB1.out F0.out
    obtain ⟨r3, r4⟩ := front_R (W := (v1.alloc (.cells #[.int .u8 0, .int .u8 0, .int .u8 0, .int .u8 0, .int .u8 0, .int .u8 0, .int .u8 0, .int .u8 0, .int .u8 0, .int .u8 0, .int .u8 0, .int .u8 0, .int .u8 0, .int .u8 0, .int .u8 0, .int .u8 0, .int .u8 0, .int .u8 0, .int .u8 0, .int .u64 0, .int .u32 0, .int .u32 0, .int .i64 0, .int .i64 0] 26)).drew) (g := w.heap.size) hl (box_dr (box_al HB1.out)) F0.out
    obtain ⟨r31, r41⟩ := front_R (W := v1.drew.alloc (.cells #[.int .u8 0, .int .u8 0, .int .u8 0, .int .u8 0, .int .u8 0, .int .u8 0, .int .u8 0, .int .u8 0, .int .u8 0, .int .u8 0, .int .u8 0, .int .u8 0, .int .u8 0, .int .u8 0, .int .u8 0, .int .u8 0, .int .u8 0, .int .u8 0, .int .u8 0, .int .u64 0, .int .u32 0, .int .u32 0, .int .i64 0, .int .i64 0] 26)) (g := w.heap.size) hl (box_al (box_dr HB1.out)) F0.out
    have r5 := isB_new v1 #[.int .u8 0, .int .u8 0, .int .u8 0, .int .u8 0, .int .u8 0, .int .u8 0, .int .u8 0, .int .u8 0, .int .u8 0, .int .u8 0, .int .u8 0, .int .u8 0, .int .u8 0, .int .u8 0, .int .u8 0, .int .u8 0, .int .u8 0, .int .u8 0, .int .u8 0, .int .u64 0, .int .u32 0, .int .u32 0, .int .i64 0, .int .i64 0] rfl
    have r51 := isB_new v1.drew #[.int .u8 0, .int .u8 0, .int .u8 0, .int .u8 0, .int .u8 0, .int .u8 0, .int .u8 0, .int .u8 0, .int .u8 0, .int .u8 0, .int .u8 0, .int .u8 0, .int .u8 0, .int .u8 0, .int .u8 0, .int .u8 0, .int .u8 0, .int .u8 0, .int .u8 0, .int .u64 0, .int .u32 0, .int .u32 0, .int .i64 0, .int .i64 0] rfl
    have r52 : isB (v1.alloc (.cells #[.int .u8 0, .int .u8 0, .int .u8 0, .int .u8 0, .int .u8 0, .int .u8 0, .int .u8 0, .int .u8 0, .int .u8 0, .int .u8 0, .int .u8 0, .int .u8 0, .int .u8 0, .int .u8 0, .int .u8 0, .int .u8 0, .int .u8 0, .int .u8 0, .int .u8 0, .int .u64 0, .int .u32 0, .int .u32 0, .int .i64 0, .int .i64 0] 26)).drew v1.heap.size = true := r5
    have r53 : isB (v1.drew.alloc (.cells #[.int .u8 0, .int .u8 0, .int .u8 0, .int .u8 0, .int .u8 0, .int .u8 0, .int .u8 0, .int .u8 0, .int .u8 0, .int .u8 0, .int .u8 0, .int .u8 0, .int .u8 0, .int .u8 0, .int .u8 0, .int .u8 0, .int .u8 0, .int .u8 0, .int .u8 0, .int .u64 0, .int .u32 0, .int .u32 0, .int .i64 0, .int .i64 0] 26)) v1.heap.size = true := r51
    have hne : w.heap.size ≠ v1.heap.size := by have := HB1.out.lt; omega
    have c24 : v1.cell? ⟨w.heap.size, 24, none⟩ = some (.slice A n c) := (HB1.out.cell 24).trans F24.out
    have d24 : ∀ o, (v1.alloc o).cell? ⟨w.heap.size, 24, none⟩ = some (.slice A n c) := fun o => cellOld o c24
    have e24 : ∀ o cs, ((v1.alloc o).drew.setRow v1.heap.size cs).cell? ⟨w.heap.size, 24, none⟩ = some (.slice A n c) := fun o cs => (cell_setRow_other _ _ _ _ hne).trans (d24 o)
    have c25 : v1.cell? ⟨w.heap.size, 25, none⟩ = some (.slice A2 n2 c2) := (HB1.out.cell 25).trans F25.out
    have d25 : ∀ o, (v1.alloc o).cell? ⟨w.heap.size, 25, none⟩ = some (.slice A2 n2 c2) := fun o => cellOld o c25
    have e25 : ∀ o cs, ((v1.alloc o).drew.setRow v1.heap.size cs).cell? ⟨w.heap.size, 25, none⟩ = some (.slice A2 n2 c2) := fun o cs => (cell_setRow_other _ _ _ _ hne).trans (d25 o)
    have c26 : v1.cell? ⟨w.heap.size, 26, none⟩ = some (.int .u8 (q.toNat : Int)) := (HB1.out.cell 26).trans F26.out
    have d26 : ∀ o, (v1.alloc o).cell? ⟨w.heap.size, 26, none⟩ = some (.int .u8 (q.toNat : Int)) := fun o => cellOld o c26
    have e26 : ∀ o cs, ((v1.alloc o).drew.setRow v1.heap.size cs).cell? ⟨w.heap.size, 26, none⟩ = some (.int .u8 (q.toNat : Int)) := fun o cs => (cell_setRow_other _ _ _ _ hne).trans (d26 o)
    obtain ⟨r6, r7⟩ := okS_cs hl
    have hgw : w.heap.size ≤ v1.heap.size := HK1.out.size
    go_region
    all_goals
      obtain ⟨HK3, HG3, _⟩ := bel_new (g := v1.heap.size) t.cs #[.int .u8 0, .int .u8 0, .int .u8 0, .int .u8 0, .int .u8 0, .int .u8 0, .int .u8 0, .int .u8 0, .int .u8 0, .int .u8 0, .int .u8 0, .int .u8 0, .int .u8 0, .int .u8 0, .int .u8 0, .int .u8 0, .int .u8 0, .int .u8 0, .int .u8 0, .int .u64 0, .int .u32 0, .int .u32 0, .int .i64 0, .int .i64 0] rfl HK1
      generalize hW : World.setRow _ _ _ = u3 at HK3 HG3 ⊢
      clear hW r1 r2 r3 r4 r31 r41 r5 r51 r52 r53 c24 d24 e24 c25 d25 e25 c26 d26 e26 hne HB1 HK1
      go_wp2_with fail
      go_meet
      exact ⟨_, rfl, rfl, rfl, rfl, hgw, HK3, HG3⟩
  case rest =>
  obtain ⟨g, rfl, rfl, rfl, rfl, hgw, K2, X2⟩ := hcut
  obtain ⟨v2, hv2⟩ : ∃ v2, v2 = wc := ⟨_, rfl⟩
  subst hv2
  clear HB1 HK1 F24 F25 F26 F0 hsz
  by_cases h1 : 1000 < n ∨ 1000 < n2
  · by_cases h3 : 1000 < n
    · have k1 : (n : Int) > 1000 := by omega
      clear h1
      go_wp2_with fail
      go_ret
      exact ⟨rfl, K2⟩
    · have k1 : ¬ (n : Int) > 1000 := by omega
      have k2 : (n2 : Int) > 1000 := by omega
      clear h1
      go_wp2_with fail
      go_ret
      exact ⟨rfl, K2⟩
  have hn1 : n ≤ 1000 := by omega
  have hm1 : n2 ≤ 1000 := by omega
  have k1 : ¬ (n : Int) > 1000 := by omega
  have k2 : ¬ (n2 : Int) > 1000 := by omega
  clear h1
  have L0 := slb_at hb K2
  have L2 := slb_at hb2 K2
  have cP : ∀ W, Calls Tryz.prog 39 #[.agg t.cs, .agg #[.int .u32 0, .int .u32 0, .int .u32 0, .int .u32 0]] W fun e w' => ∃ g p S, e = .returned (.pointer (some ⟨g, 0, none⟩)) ∧ Hid (AlP W w' g p S (newPt t ⟨0, 0, 0, 0⟩)) := fun W => newpt_any W t ht ⟨0, 0, 0, 0⟩
  have I0 : Hid (Inv (newD t)) := hid (Inv.new ht)
  have hop : Hid (openP (newPt t ⟨0, 0, 0, 0⟩) = ({ newPt t ⟨0, 0, 0, 0⟩ with sl := 1 }, 0)) := hid (by
    have h : wrap64 ((0 : Int) + 1) = 1 := by decide +kernel
    unfold openP newPt
    rw [if_neg (by show ¬ false = true; decide)]
    dsimp only
    rw [h])
  have I0p : Hid (Inv ({ newPt t ⟨0, 0, 0, 0⟩ with sl := 1 } : Ps).d) := I0
  obtain ⟨⟨Dn, kn, sg⟩, hty⟩ : ∃ z, Hid (typeM (newD t) bs = z) := ⟨_, hid rfl⟩
  have hti := typeM_inv bs I0.out
  rw [hty.out] at hti
  obtain ⟨ht1, ht2⟩ := hti
  have ht1 : Dn = inAll (newD t) bs := ht1
  obtain rfl : kn = n := ht2.trans hn.out
  have In : Hid (Inv Dn) := hid (by rw [ht1]; exact I0.out.inAll bs)
  have hmw : Hid (mwP { newPt t ⟨0, 0, 0, 0⟩ with sl := 1 } bs = ({ newPt t ⟨0, 0, 0, 0⟩ with sl := 1, d := Dn }, kn, evs 0 sg)) := hid (by unfold mwP newPt; rw [if_neg (by show ¬ false = true; decide)]; show (_, _, _) = _; rw [hty.out])
  replace ht1 := hid ht1
  clear ht2 hty
  obtain ⟨Dw, hDw⟩ : ∃ z, Hid (writeD Dn ws = z) := ⟨_, hid rfl⟩
  obtain ⟨kw, hkw⟩ : ∃ z, Hid (writeN Dn ws = z) := ⟨_, hid rfl⟩
  have Iw : Hid (Inv Dw) := hid (hDw.out ▸ In.out.write ws)
  obtain ⟨ew, hew⟩ : ∃ z : Int, Hid ((if kw = 0 ∧ ws ≠ [] then (10 : Int) else 0) = z) := ⟨_, hid rfl⟩
  have hwr : Hid (wrP { newPt t ⟨0, 0, 0, 0⟩ with sl := 1, d := Dn } ws = ({ newPt t ⟨0, 0, 0, 0⟩ with sl := 1, d := Dw }, kw, ew)) := hid (by unfold wrP wnP newPt; rw [if_neg (by show ¬ false = true; decide)]; show (_, _, _) = _; rw [hDw.out, hkw.out, hew.out])
  go_upto_region 12 with (first
    | (refine ld26 (by rfl) _ (by rfl) _ (by rfl) t.cs X2.out hs ?_)
    | (refine wpList_build_at rfl 90 _ rfl #[.int .u32 0, .int .u32 0, .int .u32 0, .int .u32 0] ?hc ?_
       case hc => kernel_rfl)
    | (go_at_call 39
       (with_reducible refine (cP _).mono ?_)
       rintro e v3 ⟨g1, p1, S1, rfl, H3⟩
       have X3 := hid (box_below X2.out H3.out.bel))
    | (refine ld26 (by rfl) _ (by rfl) _ (by rfl) t.cs X3.out hs ?_)
    | (go_at_call 19
       (with_reducible refine (newp_any _ t ht).mono ?_)
       rintro e v4 ⟨p2, T1, rfl, A4, N4, k4⟩
       have B4 : Hid (Bo v2 v4 g1 p1 p2 S1 T1 (newPt t ⟨0, 0, 0, 0⟩) (newD t)) := hid ⟨H3.out.grow k4.out, Al.made A4 (hid (fun x hx => Nat.le_trans H3.out.bel.size (N4.out x hx))) (hid (H3.out.bel.trans (k4.out.mono H3.out.bel.size))), fun x hx hg => by
         have h1 := N4.out x hx
         have h2 := GS.lt H3.out hg
         omega⟩
       clear H3 A4 N4 k4 X3)
    | (go_at_call 40
       (with_reducible refine (open_any (AlP.py (hid B4.out.pt)) hop).mono ?_)
       rintro e v5 ⟨rfl, O5⟩
       obtain ⟨S5, B5, -⟩ := B4.out.leftO O5
       clear B4)
    | (go_at_call 41
       (with_reducible refine (mwrite_any Inv (hid (fun D h => h.fit)) (hid (fun D x h => h.input x)) (AlP.py (hid B5.out.pt)) I0p A kn c bs (hid (By.old B5.out L0.out).sl) hn (by omega) (hid (By.old B5.out L0.out).ns) hmw).mono ?_)
       rintro e v6 R6
       obtain ⟨A6, n6, c6, S6, rfl, B6, -⟩ := B5.out.events R6
       clear B5 R6))
  go_loopg [56] kn (fun gk i wr => ∃ (k : Nat) (T : Nat → Prop), k + gk = kn ∧ i = .int .i64 k ∧ Hid (Bo v2 wr g1 p1 p2 S6 T { newPt t ⟨0, 0, 0, 0⟩ with sl := 1, d := Dn } (inAll (newD t) (bs.take k))))
  case atStart => exact ⟨0, T1, by omega, rfl, B6⟩
  case round =>
    clear B6
    obtain ⟨k, T, hk, rfl, B7⟩ := hrel
    by_cases hlt : k < kn
    · have hki : (k : Int) < (kn : Int) := by omega
      obtain ⟨b0, o0, y, hA, hy, d0⟩ := slb_cell (By.old B7.out L0.out).sl hn.out hlt
      subst hA
      have HY := hid (inAll_take (D := newD t) hy)
      have hty := y.toNat_lt
      obtain ⟨⟨D8, s8⟩, hi8⟩ : ∃ z, Hid (inputD (inAll (newD t) (bs.take k)) y = z) := ⟨_, hid rfl⟩
      have fit7 := hid (I0.out.inAll (bs.take k)).fit
      go_wp2_with (first
        | (go_at_call 20
           (with_reducible refine (inputp_any _ p2 T _ (hid B7.out.di.at_) fit7 y hi8).mono ?_)
           rintro e v8 ⟨A8, n8, c8, rfl, -, -, O8⟩
           obtain ⟨T8, B8, -, -⟩ := B7.out.right O8))
      go_roundg (gk - 1)
      case measure => omega
      case rel =>
        have B9 : Hid (Bo v2 v8 g1 p1 p2 S6 T8 { newPt t ⟨0, 0, 0, 0⟩ with sl := 1, d := Dn } (inAll (newD t) (bs.take (k + 1)))) := by
          rw [HY.out, hi8.out]; exact B8
        exact ⟨k + 1, T8, by omega, by go_num, B9⟩
    · obtain rfl : k = kn := by omega
      have hki : ¬ (k : Int) < (k : Int) := by omega
      have B8 : Hid (Bo v2 wr g1 p1 p2 S6 T { newPt t ⟨0, 0, 0, 0⟩ with sl := 1, d := Dn } Dn) := by
        have h1 : bs.take k = bs := List.take_of_length_le (by have := hn.out; omega)
        rw [h1, ← ht1.out] at B7; exact B7
      clear B7
      go_upto_region 17 with (first
        | (go_at_call 42
           (with_reducible refine (swrite_any (AlP.py (hid B8.out.pt)) (hid In.out.fit) A2 n2 c2 ws (hid (By.old B8.out L2.out).sl) hn2 (by omega) (hid (By.old B8.out L2.out).ns) hwr).mono ?_)
           rintro e v9 ⟨rfl, O9⟩
           obtain ⟨S9, B9, -⟩ := B8.out.leftO O9
           clear B8))
      go_cut [92] (fun x wx => ∃ T, x = .bool false ∧ Hid (Bo v2 wx g1 p1 p2 S9 T { newPt t ⟨0, 0, 0, 0⟩ with sl := 1, d := Dw } Dw))
      case first =>
        have hcase : (kw = 0 ∧ n2 = 0 ∧ ew = 0) ∨ (kw = 0 ∧ n2 ≠ 0 ∧ ew = 10) ∨ (kw ≠ 0 ∧ ew = 0) := by
          have e1 := hew.out
          have e2 := hn2.out
          by_cases a1 : kw = 0
          · by_cases a2 : ws = []
            · subst a2
              exact .inl ⟨a1, e2.symm, by rw [← e1, if_neg (fun h => h.2 rfl)]⟩
            · exact .inr (.inl ⟨a1, fun h => a2 (List.eq_nil_of_length_eq_zero (e2.trans h)), by rw [← e1, if_pos ⟨a1, a2⟩]⟩)
          · exact .inr (.inr ⟨a1, by rw [← e1, if_neg (fun h => a1 h.1)]⟩)
        clear hew
        rcases hcase with ⟨a1, a2, a3⟩ | ⟨a1, a2, a3⟩ | ⟨a1, a3⟩
        · subst a3
          have a4 : ¬ (n2 : Int) > 0 := by omega
          have a5 : ¬ 0 < n2 := by omega
          have a6 : ((kw : Int) == 0) = true := beq_iff_eq.2 (by omega)
          clear a1 a2
          go_wp2_with (first
            | (go_at_call 33
               (with_reducible refine (writep_any _ p2 T Dn (hid B9.out.di.at_) (hid In.out.fit) A2 n2 c2 ws (hid (By.old B9.out L2.out).sl) hn2 (by omega) (hid (By.old B9.out L2.out).nt) hDw hkw).mono ?_)
               rintro e va ⟨rfl, Oa⟩
               obtain ⟨Ta, Ba, -, -⟩ := B9.out.right Oa))
          go_meet
          exact ⟨Ta, rfl, Ba⟩
        · subst a3
          have a4 : (n2 : Int) > 0 := by omega
          have a5 : 0 < n2 := by omega
          have a6 : ((kw : Int) == 0) = true := beq_iff_eq.2 (by omega)
          clear a1 a2
          go_wp2_with (first
            | (go_at_call 33
               (with_reducible refine (writep_any _ p2 T Dn (hid B9.out.di.at_) (hid In.out.fit) A2 n2 c2 ws (hid (By.old B9.out L2.out).sl) hn2 (by omega) (hid (By.old B9.out L2.out).nt) hDw hkw).mono ?_)
               rintro e va ⟨rfl, Oa⟩
               obtain ⟨Ta, Ba, -, -⟩ := B9.out.right Oa))
          go_meet
          exact ⟨Ta, rfl, Ba⟩
        · subst a3
          have a4 : ((kw : Int) == 0) = false := beq_eq_false_iff_ne.2 (by omega)
          clear a1
          go_wp2_with (first
            | (go_at_call 33
               (with_reducible refine (writep_any _ p2 T Dn (hid B9.out.di.at_) (hid In.out.fit) A2 n2 c2 ws (hid (By.old B9.out L2.out).sl) hn2 (by omega) (hid (By.old B9.out L2.out).nt) hDw hkw).mono ?_)
               rintro e va ⟨rfl, Oa⟩
               obtain ⟨Ta, Ba, -, -⟩ := B9.out.right Oa))
          go_meet
          exact ⟨Ta, rfl, Ba⟩
      case rest =>
      obtain ⟨T9, rfl, B10⟩ := hcut
      obtain ⟨v10, hv10⟩ : ∃ v10, v10 = wc := ⟨_, rfl⟩
      subst hv10
      clear B9
      have hq := q.toNat_lt
      obtain ⟨Q, hQ⟩ : ∃ Q, Hid (q.toNat + 1 = Q) := ⟨_, hid rfl⟩
      have hQ0 : 0 < Q := by have := hQ.out; omega
      have hQ1 : Q ≤ 256 := by have := hQ.out; omega
      have hw0 : IntKind.i64.wrap (1 + (q.toNat : Int)) = (Q : Int) := by rw [IntKind.wrap_i64, ← hQ.out]; omega
      have hw1 : IntKind.i64.wrap (q.toNat : Int) = (q.toNat : Int) := by rw [IntKind.wrap_i64]; omega
      have okQ : i64ok (Q : Int) := by unfold i64ok; omega
      have ok0 : i64ok 0 := by unfold i64ok; omega
      go_wp2_with fail
      go_loopg [93] 40 (fun gk i wr => ∃ (m : Nat) (S T : Nat → Prop) (D : Ds), m + gk = 40 ∧ i = .int .i64 m ∧ Hid (Inv D) ∧ Hid (Bo v2 wr g1 p1 p2 S T { newPt t ⟨0, 0, 0, 0⟩ with sl := 1, d := D } D))
      case atStart => exact ⟨0, S9, T9, Dw, by omega, rfl, Iw, B10⟩
      case round =>
        clear B10
        obtain ⟨m, S, T, D, hm, rfl, I1, B1⟩ := hrel
        by_cases hlt : m < 40
        · have hki : (m : Int) < 40 := by omega
          obtain ⟨⟨D2, b2, ok2⟩, hrd⟩ : ∃ z, Hid (readD D (Q : Int) 0 = z) := ⟨_, hid rfl⟩
          have hno : ok2 = false → b2 = [] := fun h => by
            have := readD_no D (Q : Int) 0
            rw [hrd.out] at this
            exact this h
          obtain ⟨e2, he2⟩ : ∃ z : Int, Hid ((if ok2 = true then (0 : Int) else 10) = z) := ⟨_, hid rfl⟩
          have hrp : Hid (rdP { newPt t ⟨0, 0, 0, 0⟩ with sl := 1, d := D } (Q : Int) 0 = ({ newPt t ⟨0, 0, 0, 0⟩ with sl := 1, d := D2 }, b2, e2)) := hid (by
            unfold rdP rnP newPt
            rw [if_neg (by show ¬ false = true; decide)]
            show (_, _, _) = _
            rw [hrd.out, ← he2.out]
            clear he2
            cases ok2
            · rw [hno rfl]; rfl
            · rfl)
          have I2 : Hid (Inv D2) := hid (by have := I1.out.read (Q : Int) 0; rwa [hrd.out] at this)
          obtain ⟨D3, hod⟩ : ∃ z, Hid (outputD D2 (Q : Int) = z) := ⟨_, hid rfl⟩
          obtain ⟨b3, hob⟩ : ∃ z, Hid (outputB D2 (Q : Int) = z) := ⟨_, hid rfl⟩
          have I3 : Hid (Inv D3) := hid (hod.out ▸ I2.out.output (Q : Int))
          obtain ⟨l3, hl3⟩ : ∃ z, Hid (b3.length = z) := ⟨_, hid rfl⟩
          obtain ⟨e3, he3⟩ : ∃ z : Int, Hid ((if l3 = 0 then (10 : Int) else 0) = z) := ⟨_, hid rfl⟩
          have hmp : Hid (mrP { newPt t ⟨0, 0, 0, 0⟩ with sl := 1, d := D2 } (Q : Int) = ({ newPt t ⟨0, 0, 0, 0⟩ with sl := 1, d := D3 }, b3, e3)) := hid (by
            unfold mrP tkP newPt
            rw [if_neg (by show ¬ false = true; decide)]
            show (_, _, _) = _
            rw [hod.out, hob.out, ← he3.out]
            clear he3
            by_cases h0 : b3 = []
            · have h9 : l3 = 0 := by rw [← hl3.out, h0]; rfl
              rw [if_neg (fun h => h h0), if_pos h9, if_neg (fun h => by have h := h.1; have h : (1 : Int) ≤ 0 := h; omega), if_pos (by omega)]
            · have h9 : ¬ l3 = 0 := fun h => h0 (List.eq_nil_of_length_eq_zero (hl3.out.trans h))
              rw [if_pos h0, if_neg h9])
          clear hno
          go_upto_region 25 with (first
            | (go_at_call 43
               (with_reducible refine (sread_any (AlP.py (hid B1.out.pt)) (hid I1.out.fit) (Q : Int) 0 okQ ok0 hrp).mono ?_)
               rintro e v3 R3
               obtain ⟨A3, n3, c3, S3, rfl, N3, B3, Y3, -⟩ := B1.out.bytes R3
               have N3 : Hid (b2.length = n3) := N3
               have Y3 : Hid (By v3 g1 S3 T A3 c3 b2) := Y3
               clear R3)
            | (go_at_call 21
               (with_reducible refine (readp16_any _ p2 T D (hid B3.out.di.at_) (hid I1.out.fit) (Q : Int) 0 okQ ok0 hrd).mono ?_)
               rintro e v4 ⟨A4, n4, c4, rfl, N4, L4, O4⟩
               obtain ⟨T4, B4, Y4, q4, r4⟩ := B3.out.bytesR L4 O4
               have N4 : Hid (b2.length = n4) := N4
               have Y4 : Hid (By v4 g1 S3 T4 A4 c4 b2) := Y4
               have Y3a := hid (Y3.out.right q4 r4)
               clear O4 L4 Y3 q4 r4)
            | (go_at_call 44
               (with_reducible refine (mread_any (AlP.py (hid B4.out.pt)) (hid I2.out.fit) (Q : Int) okQ hmp).mono ?_)
               rintro e v5 R5
               obtain ⟨A5, n5, c5, S5, rfl, N5, B5, Y5, r5⟩ := B4.out.bytes R5
               have N5 : Hid (b3.length = n5) := N5
               obtain rfl : l3 = n5 := hl3.out.symm.trans N5.out
               have Y5 : Hid (By v5 g1 S5 T4 A5 c5 b3) := Y5
               have Y3b := hid (Y3a.out.left r5)
               have Y4b := hid (Y4.out.left r5)
               clear R5 Y3a Y4 r5)
            | (go_at_call 37
               (with_reducible refine (outputp_any _ p2 T4 D2 (hid B5.out.di.at_) (hid I2.out.fit) (Q : Int) okQ hod hob).mono ?_)
               rintro e v6 ⟨A6, n6, c6, rfl, N6, L6, O6⟩
               obtain ⟨T6, B6, Y6, q6, r6⟩ := B5.out.bytesR L6 O6
               obtain rfl : l3 = n6 := hl3.out.symm.trans N6.out
               have Y3c := hid (Y3b.out.right q6 r6)
               have Y4c := hid (Y4b.out.right q6 r6)
               have Y5c := hid (Y5.out.right q6 r6)
               clear O6 L6 Y3b Y4b Y5 q6 r6))
          go_cut [147] (fun x wx => x = .bool false ∧ Hid (Below v6.heap.size v6 wx))
          case first =>
            have hl2 : n3 ≤ maxLen := by rw [← N3.out]; exact Nat.le_trans Y3c.out.sl.1 Y3c.out.sl.2.1
            have hl5 : l3 ≤ maxLen := by rw [← hl3.out]; exact Nat.le_trans Y6.out.sl.1 Y6.out.sl.2.1
            cases ok2
            · obtain rfl : 10 = e2 := by rw [← he2.out]; rfl
              by_cases h0 : l3 = 0
              · obtain rfl : 10 = e3 := by rw [← he3.out, if_pos h0]
                subst h0
                go_wp2_with (first
                  | (go_at_call 22
                     (first
                       | ((with_reducible refine (bytes_two v6 A3 A4 c3 c4 n3 n4 b2 b2 N3.out N4.out rfl (hid Y3c.out.sl) (hid Y4c.out.sl) hl2).mono ?_)
                          rintro e u1 ⟨rfl, k1⟩
                          have Z5 := hid (Y5c.out.grow k1.out)
                          have Z6 := hid (Y6.out.grow k1.out))
                       | ((with_reducible refine (bytes_two u1 A5 A6 c5 c6 _ _ b3 b3 N5.out N6.out rfl (hid Z5.out.sl) (hid Z6.out.sl) hl5).mono ?_)
                          rintro e u2 ⟨rfl, k2⟩
                          have K2u := bel_t k1 k2.out))))
                go_meet
                exact ⟨rfl, K2u⟩
              · have h5 : (l3 : Int) > 0 := by omega
                have h6 : 0 < l3 := by omega
                obtain rfl : 0 = e3 := by rw [← he3.out, if_neg h0]
                clear h0
                go_wp2_with (first
                  | (go_at_call 22
                     (first
                       | ((with_reducible refine (bytes_two v6 A3 A4 c3 c4 n3 n4 b2 b2 N3.out N4.out rfl (hid Y3c.out.sl) (hid Y4c.out.sl) hl2).mono ?_)
                          rintro e u1 ⟨rfl, k1⟩
                          have Z5 := hid (Y5c.out.grow k1.out)
                          have Z6 := hid (Y6.out.grow k1.out))
                       | ((with_reducible refine (bytes_two u1 A5 A6 c5 c6 _ _ b3 b3 N5.out N6.out rfl (hid Z5.out.sl) (hid Z6.out.sl) hl5).mono ?_)
                          rintro e u2 ⟨rfl, k2⟩
                          have K2u := bel_t k1 k2.out))))
                go_meet
                exact ⟨rfl, K2u⟩
            · obtain rfl : 0 = e2 := by rw [← he2.out]; rfl
              by_cases h0 : l3 = 0
              · obtain rfl : 10 = e3 := by rw [← he3.out, if_pos h0]
                subst h0
                go_wp2_with (first
                  | (go_at_call 22
                     (first
                       | ((with_reducible refine (bytes_two v6 A3 A4 c3 c4 n3 n4 b2 b2 N3.out N4.out rfl (hid Y3c.out.sl) (hid Y4c.out.sl) hl2).mono ?_)
                          rintro e u1 ⟨rfl, k1⟩
                          have Z5 := hid (Y5c.out.grow k1.out)
                          have Z6 := hid (Y6.out.grow k1.out))
                       | ((with_reducible refine (bytes_two u1 A5 A6 c5 c6 _ _ b3 b3 N5.out N6.out rfl (hid Z5.out.sl) (hid Z6.out.sl) hl5).mono ?_)
                          rintro e u2 ⟨rfl, k2⟩
                          have K2u := bel_t k1 k2.out))))
                go_meet
                exact ⟨rfl, K2u⟩
              · have h5 : (l3 : Int) > 0 := by omega
                have h6 : 0 < l3 := by omega
                obtain rfl : 0 = e3 := by rw [← he3.out, if_neg h0]
                clear h0
                go_wp2_with (first
                  | (go_at_call 22
                     (first
                       | ((with_reducible refine (bytes_two v6 A3 A4 c3 c4 n3 n4 b2 b2 N3.out N4.out rfl (hid Y3c.out.sl) (hid Y4c.out.sl) hl2).mono ?_)
                          rintro e u1 ⟨rfl, k1⟩
                          have Z5 := hid (Y5c.out.grow k1.out)
                          have Z6 := hid (Y6.out.grow k1.out))
                       | ((with_reducible refine (bytes_two u1 A5 A6 c5 c6 _ _ b3 b3 N5.out N6.out rfl (hid Z5.out.sl) (hid Z6.out.sl) hl5).mono ?_)
                          rintro e u2 ⟨rfl, k2⟩
                          have K2u := bel_t k1 k2.out))))
                go_meet
                exact ⟨rfl, K2u⟩
          case rest =>
          obtain ⟨rfl, K7⟩ := hcut
          have B7 := hid (B6.out.grow K7.out)
          go_wp2_with fail
          go_roundg (gk - 1)
          case measure => omega
          case rel => exact ⟨m + 1, S5, T6, D3, by omega, by go_num, I3, B7⟩
        · obtain rfl : m = 40 := by omega
          have hki : ¬ ((40 : Nat) : Int) < 40 := by omega
          have d0 := Py.cell (v := .pointer (some ⟨p1, 0, none⟩)) (AlP.py (hid B1.out.pt)) 0 rfl
          go_wp2_with (first
            | (go_at_call 35
               (first
                 | ((with_reducible refine (from16l_any _ p1 S D (hid B1.out.pt.at_.at_) (hid I1.out.t) (hid I1.out.fit)).mono ?_)
                    rintro e v7 ⟨hA, NA, CA, rfl, F7, k7⟩
                    have B7 := hid (B1.out.grow k7.out))
                 | ((with_reducible refine (from16l_any _ p2 T D (hid B7.out.di.at_) (hid I1.out.t) (hid I1.out.fit)).mono ?_)
                    rintro e v8 ⟨hB, NB, CB, rfl, F8, k8⟩
                    have B8 := hid (B7.out.grow k8.out)
                    have F7' := hid (F7.out.grow k8.out))))
            | (go_at_call 34
               (with_reducible refine (same16l_any v8 D hA hB NA NB CA CB F7' F8 (hid I1.out.fit)).mono ?_)
               rintro e v9 ⟨rfl, k9⟩
               have B9 := hid (B8.out.grow k9.out)))
          go_ret
          exact ⟨rfl, hid (K2.out.trans (B9.out.pt.bel.mono K2.out.size))⟩
end Go.Proofs.YtggcampdkgfmgaaGreat
