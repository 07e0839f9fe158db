import Derived.Test.YtgollkckdnaegaaHT
import Derived.Test.YtgollkckdnaegaaHQ
namespace Go.Proofs.Ytgollkckdnaegaa
open Go.RowKit

/-- The two places. -/
theorem place_a (i n : Nat) (hn : n ≤ 2000) : ∃ a : Nat, a ≤ n ∧ (i : Int).tmod ((n : Int) + 1) = (a : Int) := by
  refine ⟨i % (n + 1), by have := Nat.mod_lt i (show n + 1 > 0 by omega); omega, ?_⟩
  rw [Int.tmod_eq_emod_of_nonneg (by omega)]
  push_cast
  rfl
theorem place_b (k n a : Nat) (_hn : n ≤ 2000) (ha : a ≤ n) : ∃ d : Nat, a + d ≤ n ∧ (k : Int).tmod ((n : Int) - (a : Int) + 1) = (d : Int) := by
  refine ⟨k % (n - a + 1), by have := Nat.mod_lt k (show n - a + 1 > 0 by omega); omega, ?_⟩
  rw [show (n : Int) - (a : Int) + 1 = ((n - a + 1 : Nat) : Int) by omega, Int.tmod_eq_emod_of_nonneg (by omega)]
  rfl
attribute [local go_sem ↓] wp_st26 wp_ldR ex_ld26 Go.wp_at_zero Go.wp_at_succ
attribute [local go_sem] isP_v blkV_v aggV_v
set_option maxRecDepth 100000 in
set_option maxHeartbeats 16000000 in
theorem parts_walk0 (w : World) (t : Tm) (ht : t.Ok) (col : Int) (A : Option Addr) (c n : Nat) (bs : List UInt8) (i k : Nat) (hi : i ≤ 65535) (hk : k ≤ 65535) (hx : Hid (SlB w w.heap.size A c bs)) (hn : Hid (bs.length = n)) (r : List Value) (hr : r = [.int .i64 col, .slice A n c, .int .u16 (i : Int), .int .u16 (k : Int)]) :
    Calls Try.prog 7 #[.agg (tmV t r)] w fun e w' => e = .returned (.bool true) ∧ Hid (Below w.heap.size w w') := by
  have hl := ht.len
  have hs := cs_size hl
  have hsz : Hid ((Try.prog.info? 44).map (·.size) = some (tmV t r).size) := hid (by rw [tmV_size ht, hr]; exact Try.size44)
  have HB0 : Hid (Box (w.alloc (.cells (tmV t r) 44)) w.heap.size 44 (tmV t r)) := hid (Box.new w 44 _)
  have HK0 : Hid (Below w.heap.size w (w.alloc (.cells (tmV t r) 44))) := hid ((Below.refl _ w).alloc (Nat.le_refl _) _)
  have F24 : Hid ((tmV t r)[24]? = some (.int .i64 col)) := hid (tmV_back ht (j := 0) (by rw [hr]; rfl))
  have F25 : Hid ((tmV t r)[25]? = some (.slice A n c)) := hid (tmV_back ht (j := 1) (by rw [hr]; rfl))
  have F26 : Hid ((tmV t r)[26]? = some (.int .u16 (i : Int))) := hid (tmV_back ht (j := 2) (by rw [hr]; rfl))
  have F27 : Hid ((tmV t r)[27]? = some (.int .u16 (k : Int))) := hid (tmV_back ht (j := 3) (by rw [hr]; rfl))
  generalize hV : tmV t r = V at hsz HB0 HK0 F24 F25 F26 F27 ⊢
  have F0 : Hid (∀ (j : Nat) (v : Value), t.cl[j]? = some v → V[j]? = some v) := hid (by rw [← hV]; exact tmV_front r)
  clear hV hr
  go_enter Try.func7, Try.ntmps7
  go_wp2_with (first
    | (refine bxT (by rfl) 44 _ (by rfl) _ (by rfl) hsz.out ?_)
    | (go_at_call 8
       (with_reducible refine (call_alive HK0).mono ?_)
       rintro e u1 ⟨rfl, k, HK1⟩
       have HB1 := hid (box_below HB0.out k.out)
       clear k HB0 HK0))
  obtain ⟨r1, r2⟩ := front_R (W := u1.drew) (g := w.heap.size) hl HB1.out F0.out
  obtain ⟨r3, r4⟩ := front_R (W := (u1.alloc (.cells #[.int .u8 0, .int .u8 0, .int .u8 0, .int .u8 0, .int .u8 0, .int .u8 0, .int .u8 0, .int .u8 0, .int .u8 0, .int .u8 0, .int .u8 0, .int .u8 0, .int .u8 0, .int .u8 0, .int .u8 0, .int .u8 0, .int .u8 0, .int .u8 0, .int .u8 0, .int .u64 0, .int .u32 0, .int .u32 0, .int .i64 0, .int .i64 0] 26)).drew) (g := w.heap.size) hl (box_below HB1.out (bel_dr (bel_al (Below.refl _ _)))) F0.out
  obtain ⟨r31, r41⟩ := front_R (W := u1.drew.alloc (.cells #[.int .u8 0, .int .u8 0, .int .u8 0, .int .u8 0, .int .u8 0, .int .u8 0, .int .u8 0, .int .u8 0, .int .u8 0, .int .u8 0, .int .u8 0, .int .u8 0, .int .u8 0, .int .u8 0, .int .u8 0, .int .u8 0, .int .u8 0, .int .u8 0, .int .u8 0, .int .u64 0, .int .u32 0, .int .u32 0, .int .i64 0, .int .i64 0] 26)) (g := w.heap.size) hl (box_below HB1.out (bel_al (bel_dr (Below.refl _ _)))) F0.out
  have r5 := isB_new u1 #[.int .u8 0, .int .u8 0, .int .u8 0, .int .u8 0, .int .u8 0, .int .u8 0, .int .u8 0, .int .u8 0, .int .u8 0, .int .u8 0, .int .u8 0, .int .u8 0, .int .u8 0, .int .u8 0, .int .u8 0, .int .u8 0, .int .u8 0, .int .u8 0, .int .u8 0, .int .u64 0, .int .u32 0, .int .u32 0, .int .i64 0, .int .i64 0] rfl
  have r51 := isB_new u1.drew #[.int .u8 0, .int .u8 0, .int .u8 0, .int .u8 0, .int .u8 0, .int .u8 0, .int .u8 0, .int .u8 0, .int .u8 0, .int .u8 0, .int .u8 0, .int .u8 0, .int .u8 0, .int .u8 0, .int .u8 0, .int .u8 0, .int .u8 0, .int .u8 0, .int .u8 0, .int .u64 0, .int .u32 0, .int .u32 0, .int .i64 0, .int .i64 0] rfl
  have r52 : isB (u1.alloc (.cells #[.int .u8 0, .int .u8 0, .int .u8 0, .int .u8 0, .int .u8 0, .int .u8 0, .int .u8 0, .int .u8 0, .int .u8 0, .int .u8 0, .int .u8 0, .int .u8 0, .int .u8 0, .int .u8 0, .int .u8 0, .int .u8 0, .int .u8 0, .int .u8 0, .int .u8 0, .int .u64 0, .int .u32 0, .int .u32 0, .int .i64 0, .int .i64 0] 26)).drew u1.heap.size = true := r5
  have r53 : isB (u1.drew.alloc (.cells #[.int .u8 0, .int .u8 0, .int .u8 0, .int .u8 0, .int .u8 0, .int .u8 0, .int .u8 0, .int .u8 0, .int .u8 0, .int .u8 0, .int .u8 0, .int .u8 0, .int .u8 0, .int .u8 0, .int .u8 0, .int .u8 0, .int .u8 0, .int .u8 0, .int .u8 0, .int .u64 0, .int .u32 0, .int .u32 0, .int .i64 0, .int .i64 0] 26)) u1.heap.size = true := r51
  have hne : w.heap.size ≠ u1.heap.size := by have := HB1.out.lt; omega
  have c24 : u1.cell? ⟨w.heap.size, 24, none⟩ = some (.int .i64 col) := (HB1.out.cell 24).trans F24.out
  have d24 : ∀ o, (u1.alloc o).cell? ⟨w.heap.size, 24, none⟩ = some (.int .i64 col) := fun o => cellOld o c24
  have e24 : ∀ o cs, ((u1.alloc o).drew.setRow u1.heap.size cs).cell? ⟨w.heap.size, 24, none⟩ = some (.int .i64 col) := fun o cs => (cell_setRow_other _ _ _ _ hne).trans (d24 o)
  have c25 : u1.cell? ⟨w.heap.size, 25, none⟩ = some (.slice A n c) := (HB1.out.cell 25).trans F25.out
  have d25 : ∀ o, (u1.alloc o).cell? ⟨w.heap.size, 25, none⟩ = some (.slice A n c) := fun o => cellOld o c25
  have e25 : ∀ o cs, ((u1.alloc o).drew.setRow u1.heap.size cs).cell? ⟨w.heap.size, 25, none⟩ = some (.slice A n c) := fun o cs => (cell_setRow_other _ _ _ _ hne).trans (d25 o)
  have c26 : u1.cell? ⟨w.heap.size, 26, none⟩ = some (.int .u16 (i : Int)) := (HB1.out.cell 26).trans F26.out
  have d26 : ∀ o, (u1.alloc o).cell? ⟨w.heap.size, 26, none⟩ = some (.int .u16 (i : Int)) := fun o => cellOld o c26
  have e26 : ∀ o cs, ((u1.alloc o).drew.setRow u1.heap.size cs).cell? ⟨w.heap.size, 26, none⟩ = some (.int .u16 (i : Int)) := fun o cs => (cell_setRow_other _ _ _ _ hne).trans (d26 o)
  have c27 : u1.cell? ⟨w.heap.size, 27, none⟩ = some (.int .u16 (k : Int)) := (HB1.out.cell 27).trans F27.out
  have d27 : ∀ o, (u1.alloc o).cell? ⟨w.heap.size, 27, none⟩ = some (.int .u16 (k : Int)) := fun o => cellOld o c27
  have e27 : ∀ o cs, ((u1.alloc o).drew.setRow u1.heap.size cs).cell? ⟨w.heap.size, 27, none⟩ = some (.int .u16 (k : Int)) := fun o cs => (cell_setRow_other _ _ _ _ hne).trans (d27 o)
  obtain ⟨r6, r7⟩ := okS_cs hl
  go_region
  all_goals
    obtain ⟨HK3, HG3, HL3⟩ := bel_new (g := u1.heap.size) t.cs #[.int .u8 0, .int .u8 0, .int .u8 0, .int .u8 0, .int .u8 0, .int .u8 0, .int .u8 0, .int .u8 0, .int .u8 0, .int .u8 0, .int .u8 0, .int .u8 0, .int .u8 0, .int .u8 0, .int .u8 0, .int .u8 0, .int .u8 0, .int .u8 0, .int .u8 0, .int .u64 0, .int .u32 0, .int .u32 0, .int .i64 0, .int .i64 0] rfl HK1
    generalize hW : World.setRow _ _ _ = u3 at HK3 HG3 HL3 ⊢
    clear hW r1 r2 r3 r4 r31 r41 r5 r51 r52 r53 c24 d24 e24 c25 d25 e25 c26 d26 e26 c27 d27 e27 hne HB1 HL3 HK1
    generalize u1.heap.size = g3 at HG3 ⊢
    clear F24 F25 F26 F27 F0 r6 r7 hsz
    have X3 := slb_at hx HK3
    as_aux_lemma =>
      cases hnb : nearB col (n : Int)
      · have HNB := hid hnb
        clear hnb
        go_wp2_with (first
          | (go_at_call 14
             (with_reducible refine (near_b _ col (n : Int) HNB.out).mono ?_)
             rintro e u2 ⟨rfl, rfl⟩))
        go_ret
        exact ⟨rfl, HK3⟩
      · have hnr := near_true hnb
        have HNB := hid hnb
        clear hnb
        obtain ⟨a, han, ha⟩ := place_a i n (by omega)
        obtain ⟨d, hdn, hd⟩ := place_b k n a (by omega) han
        obtain ⟨b, hab⟩ : ∃ b, a + d = b := ⟨_, rfl⟩
        have hab2 : (a : Int) + (d : Int) = (b : Int) := by omega
        have hbn : b ≤ n := by omega
        have hle : a ≤ b := by omega
        have hn2 : n ≤ 2000 := by omega
        have hnc : Hid (nrm col < 30000) := hid hnr.2
        have hn1 : n ≤ 1000000 := by omega
        clear hab hdn hnr
        obtain ⟨s, hs60⟩ : ∃ s, Hid (hasN t.f 60 = s) := ⟨_, hid rfl⟩
        obtain ⟨v, hs42⟩ : ∃ v, Hid (hasN t.f 42 = v) := ⟨_, hid rfl⟩
        -- the pieces of the line
        have LA : Hid (SlB u3 u3.heap.size A c (bs.take a)) := hid (X3.out.take a)
        have LB : Hid (SlB u3 u3.heap.size A c (bs.take b)) := hid (X3.out.take b)
        have fa := run_front X3.out hn.out han
        have fb := run_front X3.out hn.out hbn
        obtain ⟨Aa, ca, ra, SA⟩ := run_back X3.out hn.out han
        obtain ⟨Ab, cb, rb, SB⟩ := run_back X3.out hn.out hbn
        obtain ⟨Am, cm, rm, SM⟩ := run_mid X3.out hn.out hle hbn
        have na : Hid ((bs.take a).length = a) := hid (by rw [List.length_take, hn.out]; omega)
        have nb : Hid ((bs.take b).length = b) := hid (by rw [List.length_take, hn.out]; omega)
        have ma : Hid ((bs.drop a).length = n - a) := hid (by rw [List.length_drop, hn.out])
        have mb : Hid ((bs.drop b).length = n - b) := hid (by rw [List.length_drop, hn.out])
        have mm : Hid (((bs.take b).drop a).length = b - a) := hid (by rw [List.length_drop, nb.out])
        obtain ⟨l0, hl0⟩ : ∃ l, Hid (rubB s v (nrm col) (bs.take a) (bs.drop a) = l) := ⟨_, hid rfl⟩
        obtain ⟨l7, hl7⟩ : ∃ l, Hid (rubB s v (nrm col) (bs.take b) (bs.drop b) = l) := ⟨_, hid rfl⟩
        obtain ⟨l8, hl8⟩ : ∃ l, Hid (rubB s v (nrm col) (bs.take a) ((bs.take b).drop a) = l) := ⟨_, hid rfl⟩
        have hsum : Hid (l0 = l7 ++ l8) := hid (by rw [← hl0.out, ← hl7.out, ← hl8.out, rubB_parts s v (nrm col) bs a b hle (by rw [hn.out]; exact hbn)])
        have hlen0 : Hid (l0.length ≤ 48000) := by rw [← hl0.out]; have := rubB_len s v (nrm col) (bs.take a) (bs.drop a); rw [ma.out] at this; exact hid (by omega)
        have hlen7 : Hid (l7.length ≤ 48000) := by rw [← hl7.out]; have := rubB_len s v (nrm col) (bs.take b) (bs.drop b); rw [mb.out] at this; exact hid (by omega)
        have hlen8 : Hid (l8.length ≤ 48000) := by rw [← hl8.out]; have := rubB_len s v (nrm col) (bs.take a) ((bs.take b).drop a); rw [mm.out] at this; exact hid (by omega)
        -- the columns
        obtain ⟨M, hM⟩ : ∃ M, Hid (colsN s v (nrm col) (bs.take a) = M) := ⟨_, hid rfl⟩
        obtain ⟨M2, hM2⟩ : ∃ M, Hid (colsN s v (nrm col) bs = M) := ⟨_, hid rfl⟩
        have hMle : M ≤ 65535 := by have := (colsN_le s v (bs.take a) (nrm col)).2; rw [hM.out, na.out] at this; have := hnc.out; omega
        have hMn : Hid (nrm (M : Int) = M) := hid (nrm_nat hMle)
        have hM2b : Hid (colsN s v (nrm (M : Int)) (bs.drop a) = M2) := hid (by rw [hMn.out, ← hM.out, colsN_parts, hM2.out])
        obtain ⟨M3, hM3⟩ : ∃ M3, Hid (stepN s v (nrm (M : Int)) 9 = M3) := ⟨_, hid rfl⟩
        have ht3 := stepN_tab s v M
        have hM3b := hM3.out
        rw [hMn.out] at hM3b
        rw [hM3b] at ht3
        have e8 : (M3 : Int).tmod 8 = 0 := by rw [Int.tmod_eq_emod_of_nonneg (by omega)]; omega
        have e9 : (M : Int) < (M3 : Int) := by omega
        clear ht3 hM3b
        go_wp2_with (first
          | (go_at_call 14
             (with_reducible refine (near_b _ col (n : Int) HNB.out).mono ?_)
             rintro e u2 ⟨rfl, hu2⟩
             rw [hu2]
             clear hu2))
        have bz : ∀ W, Below u3.heap.size u3 W → isB W g3 = true ∧ cs26 W g3 = t.cs := fun W h => ⟨isB_mk (box_below HG3.out h) hs, cs26_of (box_below HG3.out h)⟩
        go_region_held3 (fun u => isB u g3 = true ∧ cs26 u g3 = t.cs) (exact bz _ (by repeat (first | exact Below.refl _ _ | exact b6 | with_reducible apply bel_dr | with_reducible apply bel_al))) ((first
          | (go_at_call 19
             (with_reducible refine (full_growF (u := u3) ?c1 hl0 (rub_any _ ht col A Aa a (n - a) c ca (bs.take a) (bs.drop a) hs60 hs42 (slb_up LA ?c2) (slb_up SA ?c3) na ma (by omega))).mono ?_)
             case c1 => repeat (first | exact Below.refl _ _ | with_reducible apply bel_dr | with_reducible apply bel_al)
             case c2 => repeat (first | exact Below.refl _ _ | with_reducible apply bel_dr | with_reducible apply bel_al)
             case c3 => repeat (first | exact Below.refl _ _ | with_reducible apply bel_dr | with_reducible apply bel_al)
             rintro e u6 ⟨p6, n6, rfl, hn6, S6, b6, d6⟩)))
        all_goals
          have K6 := bel_t HK3 b6
          have G6 := hid (box_below HG3.out b6)
          have X6 := slb_up X3 b6
          have LA6 := slb_up LA b6
          have LB6 := slb_up LB b6
          have SA6 := slb_up SA b6
          have SB6 := slb_up SB b6
          have SM6 := slb_up SM b6
          clear bz d6 b6 HK3 HG3 X3 LA LB SA SB SM
          as_aux_lemma =>
            have bz : ∀ W, Below u6.heap.size u6 W → isB W g3 = true ∧ cs26 W g3 = t.cs := fun W h => ⟨isB_mk (box_below G6.out h) hs, cs26_of (box_below G6.out h)⟩
            go_wp2
            go_region_held3 (fun u => isB u g3 = true ∧ cs26 u g3 = t.cs) (exact bz _ (by repeat (first | exact Below.refl _ _ | exact b9 | exact b8 | exact b7 | with_reducible apply bel_dr | with_reducible apply bel_al))) ((first
              | (go_at_call 19
                 (first
                   | ((with_reducible refine (full_growF (u := u6) ?c1 hl7 (rub_any _ ht col A Ab b (n - b) c cb (bs.take b) (bs.drop b) hs60 hs42 (slb_up LB6 ?c2) (slb_up SB6 ?c3) nb mb (by omega))).mono ?_)
                      case c1 => repeat (first | exact Below.refl _ _ | exact b8 | with_reducible apply bel_dr | with_reducible apply bel_al)
                      case c2 => repeat (first | exact Below.refl _ _ | exact b8 | with_reducible apply bel_dr | with_reducible apply bel_al)
                      case c3 => repeat (first | exact Below.refl _ _ | exact b8 | with_reducible apply bel_dr | with_reducible apply bel_al)
                      rintro e u7 ⟨p7, n7, rfl, hn7, S7, b7, d7⟩)
                   | ((with_reducible refine (full_growF (u := u6) ?c4 hl8 (rub_any _ ht col A Am a (b - a) c cm (bs.take a) ((bs.take b).drop a) hs60 hs42 (slb_up LA6 ?c5) (slb_up SM6 ?c6) na mm (by omega))).mono ?_)
                      case c4 => repeat (first | exact Below.refl _ _ | exact b7 | with_reducible apply bel_dr | with_reducible apply bel_al)
                      case c5 => repeat (first | exact Below.refl _ _ | exact b7 | with_reducible apply bel_dr | with_reducible apply bel_al)
                      case c6 => repeat (first | exact Below.refl _ _ | exact b7 | with_reducible apply bel_dr | with_reducible apply bel_al)
                      rintro e u8 ⟨p8, n8, rfl, hn8, S8, b8, d8⟩)))
              | (refine step_full (by rfl) (.tmp 63) (.tmp 73) rfl p7 n7 l7 rfl (some p8) n8 n8 l8 rfl (slb_up S7 ?c7) (slb_up S8 ?c8) hn7 hn8 (by have := hn7.out; have := hn8.out; have := hlen7.out; have := hlen8.out; omega) ?_
                 case c7 => repeat (first | exact Below.refl _ _ | exact d8 | with_reducible apply bel_dr | with_reducible apply bel_al)
                 case c8 => repeat (first | exact Below.refl _ _ | exact d7 | with_reducible apply bel_dr | with_reducible apply bel_al)
                 intro A9 c9 u9 d9 S9
                 have b9 : Below u6.heap.size u6 u9 := by first | exact (bel_dr b8).trans (d9.mono b8.size) | exact b8.trans (d9.mono b8.size) | exact b7.trans (d9.mono b7.size))))
            all_goals
              have K9 := bel_t K6 b9
              have G9 := hid (box_below G6.out b9)
              have X9 := slb_up X6 b9
              have LA9 := slb_up LA6 b9
              have SA9 := slb_up SA6 b9
              have S69 := slb_up S6 b9
              have h78 : Hid ((l7 ++ l8).length = n7 + n8) := hid (by rw [List.length_append, hn7.out, hn8.out])
              clear bz b9 d9 K6 G6 X6 LA6 LB6 SA6 SB6 SM6 S6
              as_aux_lemma =>
                have bz : ∀ W, Below u9.heap.size u9 W → isB W g3 = true ∧ cs26 W g3 = t.cs := fun W h => ⟨isB_mk (box_below G9.out h) hs, cs26_of (box_below G9.out h)⟩
                go_wp2
                go_region_held3 (fun u => isB u g3 = true ∧ cs26 u g3 = t.cs) (exact bz _ (by repeat (first | exact Below.refl _ _ | exact b10 | with_reducible apply bel_dr | with_reducible apply bel_al))) ((first
                  | (go_at_call 17
                     (with_reducible refine (cols_grow u9 _ ?c1 ht col A a c (bs.take a) hs60 hs42 LA9 na (by omega) hM).mono ?_)
                     case c1 => repeat (first | exact Below.refl _ _ | with_reducible apply bel_dr | with_reducible apply bel_al)
                     rintro e u10 ⟨rfl, b10, d10⟩)))
                all_goals
                  have K10 := bel_t K9 b10
                  have G10 := hid (box_below G9.out b10)
                  have X10 := slb_up X9 b10
                  have SA10 := slb_up SA9 b10
                  have S610 := slb_up S69 b10
                  have S910 := slb_up S9 b10
                  clear bz b10 d10 K9 G9 X9 LA9 SA9 S69 S9
                  as_aux_lemma =>
                    have bz : ∀ W, Below u10.heap.size u10 W → isB W g3 = true ∧ cs26 W g3 = t.cs := fun W h => ⟨isB_mk (box_below G10.out h) hs, cs26_of (box_below G10.out h)⟩
                    go_wp2
                    go_region_held3 (fun u => isB u g3 = true ∧ cs26 u g3 = t.cs) (exact bz _ (by repeat (first | exact Below.refl _ _ | exact b15 | exact b14 | exact b13 | exact b12 | exact b11 | with_reducible apply bel_dr | with_reducible apply bel_al))) ((first
                      | (go_at_call 9
                         (with_reducible refine (bytes_grow u10 _ ?c1 (some p6) A9 n6 c9 n6 (n7 + n8) l0 (l7 ++ l8) hn6 h78 hsum (slb_up S610 ?c2) (slb_up S910 ?c3) (by have := hn6.out; have := hlen0.out; unfold maxLen; omega)).mono ?_)
                         case c1 => repeat (first | exact Below.refl _ _ | with_reducible apply bel_dr | with_reducible apply bel_al)
                         case c2 => repeat (first | exact Below.refl _ _ | with_reducible apply bel_dr | with_reducible apply bel_al)
                         case c3 => repeat (first | exact Below.refl _ _ | with_reducible apply bel_dr | with_reducible apply bel_al)
                         rintro e u11 ⟨rfl, b11, d11⟩)
                      | (go_at_call 17
                         (first
                           | ((with_reducible refine (cols_grow u10 _ ?c4 ht (M : Int) Aa (n - a) ca (bs.drop a) hs60 hs42 SA10 ma (by omega) hM2b).mono ?_)
                              case c4 => repeat (first | exact Below.refl _ _ | exact b13 | exact b11 | with_reducible apply bel_dr | with_reducible apply bel_al)
                              rintro e u12 ⟨rfl, b12, d12⟩)
                           | ((with_reducible refine (cols_grow u10 _ ?c5 ht col A n c bs hs60 hs42 X10 hn hn1 hM2).mono ?_)
                              case c5 => repeat (first | exact Below.refl _ _ | exact b12 | exact b11 | with_reducible apply bel_dr | with_reducible apply bel_al)
                              rintro e u13 ⟨rfl, b13, d13⟩)))
                      | (go_at_call 15
                         (with_reducible refine (step_grow u10 _ ?c6 ht (M : Int) 9 9 rfl hs60 hs42 hM3).mono ?_)
                         case c6 => repeat (first | exact Below.refl _ _ | exact b14 | exact b13 | exact b12 | with_reducible apply bel_dr | with_reducible apply bel_al)
                         rintro e u14 ⟨rfl, b14, d14⟩)))
                    all_goals
                      have K14 := bel_t K10 b14
                      clear bz
                      go_wp2
                      go_ret
                      exact ⟨rfl, K14⟩
theorem parts_walk (w : World) (t : Tm) (ht : t.Ok) (col : Int) (_ho : i64ok col) (A : Option Addr) (c n : Nat) (bs : List UInt8) (i k : Nat) (hi : i ≤ 65535) (hk : k ≤ 65535) (hx : Hid (SlB w w.heap.size A c bs)) (hn : bs.length = n) :
    Calls Try.prog 7 #[.agg (tmV t [.int .i64 col, .slice A n c, .int .u16 (i : Int), .int .u16 (k : Int)])] w fun e w' => e = .returned (.bool true) ∧ Hid (Below w.heap.size w w') :=
  parts_walk0 w t ht col A c n bs i k hi hk hx (hid hn) _ rfl
end Go.Proofs.Ytgollkckdnaegaa
