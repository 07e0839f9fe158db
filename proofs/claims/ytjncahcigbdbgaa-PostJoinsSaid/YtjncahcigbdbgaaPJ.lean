import Derived.Test.YtjncahcigbdbgaaPI
namespace Go.Proofs.Ytjncahcigbdbgaa
open Go.RowKit

/-! Layer 12: PostJoins. -/
theorem place_m (i n k : Nat) (hk : 1 ≤ k) (hn : n ≤ 1000000) : ∃ a : Nat, a < n + k ∧ (i : Int).tmod ((n : Int) + (k : Int)) = (a : Int) := by
  refine ⟨i % (n + k), Nat.mod_lt i (by omega), ?_⟩
  rw [Int.tmod_eq_emod_of_nonneg (by omega)]
  push_cast
  rfl
attribute [local go_sem ↓] wp_st26 wp_ldR ex_ld26 Go.wp_at_zero Go.wp_at_succ
attribute [local go_sem] isP_v blkV_v aggV_v
set_option maxRecDepth 100000 in
set_option maxHeartbeats 16000000 in
theorem joins_walk0 (w : World) (t : Tm) (ht : t.Ok) (col : Int) (A : Option Addr) (c n : Nat) (bs : List UInt8) (i : Nat) (hi : i ≤ 65535) (hx : Hid (SlB w w.heap.size A c bs)) (hn : Hid (bs.length = n)) (r : List Value) (hr : r = [.int .i64 col, .slice A n c, .int .u16 (i : Int)]) :
    Calls Try.prog 6 #[.agg (tmV t r)] w fun e w' => e = .returned (.bool true) ∧ Hid (Below w.heap.size w w') := by
  have hl := ht.len
  have hs := cs_size hl
  have hsz : Hid ((Try.prog.info? 42).map (·.size) = some (tmV t r).size) := hid (by rw [tmV_size ht, hr]; exact Try.size42)
  have HB0 : Hid (Box (w.alloc (.cells (tmV t r) 42)) w.heap.size 42 (tmV t r)) := hid (Box.new w 42 _)
  have HK0 : Hid (Below w.heap.size w (w.alloc (.cells (tmV t r) 42))) := hid ((Below.refl _ w).alloc (Nat.le_refl _) _)
  have F24 : Hid ((tmV t r)[24]? = some (.int .i64 col)) := hid (tmV_back ht (j := 0) (by rw [hr]; rfl))
  have F25 : Hid ((tmV t r)[25]? = some (.slice A n c)) := hid (tmV_back ht (j := 1) (by rw [hr]; rfl))
  have F26 : Hid ((tmV t r)[26]? = some (.int .u16 (i : Int))) := hid (tmV_back ht (j := 2) (by rw [hr]; rfl))
  generalize hV : tmV t r = V at hsz HB0 HK0 F24 F25 F26 ⊢
  have F0 : Hid (∀ (j : Nat) (v : Value), t.cl[j]? = some v → V[j]? = some v) := hid (by rw [← hV]; exact tmV_front r)
  clear hV hr
  go_enter Try.func6, Try.ntmps6
  go_wp2_with (first
    | (refine bxT (by rfl) 42 _ (by rfl) _ (by rfl) hsz.out ?_)
    | (go_at_call 7
       (with_reducible refine (call_alive HK0).mono ?_)
       rintro e u1 ⟨rfl, k, HK1⟩
       have HB1 := hid (box_below HB0.out k.out)
       clear k HB0 HK0))
  obtain ⟨r1, r2⟩ := front_R (W := u1.drew) (g := w.heap.size) hl HB1.out F0.out
  obtain ⟨r3, r4⟩ := front_R (W := (u1.alloc (.cells #[.int .u8 0, .int .u8 0, .int .u8 0, .int .u8 0, .int .u8 0, .int .u8 0, .int .u8 0, .int .u8 0, .int .u8 0, .int .u8 0, .int .u8 0, .int .u8 0, .int .u8 0, .int .u8 0, .int .u8 0, .int .u8 0, .int .u8 0, .int .u8 0, .int .u8 0, .int .u64 0, .int .u32 0, .int .u32 0, .int .i64 0, .int .i64 0] 26)).drew) (g := w.heap.size) hl (box_below HB1.out (bel_dr (bel_al (Below.refl _ _)))) F0.out
  obtain ⟨r31, r41⟩ := front_R (W := u1.drew.alloc (.cells #[.int .u8 0, .int .u8 0, .int .u8 0, .int .u8 0, .int .u8 0, .int .u8 0, .int .u8 0, .int .u8 0, .int .u8 0, .int .u8 0, .int .u8 0, .int .u8 0, .int .u8 0, .int .u8 0, .int .u8 0, .int .u8 0, .int .u8 0, .int .u8 0, .int .u8 0, .int .u64 0, .int .u32 0, .int .u32 0, .int .i64 0, .int .i64 0] 26)) (g := w.heap.size) hl (box_below HB1.out (bel_al (bel_dr (Below.refl _ _)))) F0.out
  have r5 := isB_new u1 #[.int .u8 0, .int .u8 0, .int .u8 0, .int .u8 0, .int .u8 0, .int .u8 0, .int .u8 0, .int .u8 0, .int .u8 0, .int .u8 0, .int .u8 0, .int .u8 0, .int .u8 0, .int .u8 0, .int .u8 0, .int .u8 0, .int .u8 0, .int .u8 0, .int .u8 0, .int .u64 0, .int .u32 0, .int .u32 0, .int .i64 0, .int .i64 0] rfl
  have r51 := isB_new u1.drew #[.int .u8 0, .int .u8 0, .int .u8 0, .int .u8 0, .int .u8 0, .int .u8 0, .int .u8 0, .int .u8 0, .int .u8 0, .int .u8 0, .int .u8 0, .int .u8 0, .int .u8 0, .int .u8 0, .int .u8 0, .int .u8 0, .int .u8 0, .int .u8 0, .int .u8 0, .int .u64 0, .int .u32 0, .int .u32 0, .int .i64 0, .int .i64 0] rfl
  have r52 : isB (u1.alloc (.cells #[.int .u8 0, .int .u8 0, .int .u8 0, .int .u8 0, .int .u8 0, .int .u8 0, .int .u8 0, .int .u8 0, .int .u8 0, .int .u8 0, .int .u8 0, .int .u8 0, .int .u8 0, .int .u8 0, .int .u8 0, .int .u8 0, .int .u8 0, .int .u8 0, .int .u8 0, .int .u64 0, .int .u32 0, .int .u32 0, .int .i64 0, .int .i64 0] 26)).drew u1.heap.size = true := r5
  have r53 : isB (u1.drew.alloc (.cells #[.int .u8 0, .int .u8 0, .int .u8 0, .int .u8 0, .int .u8 0, .int .u8 0, .int .u8 0, .int .u8 0, .int .u8 0, .int .u8 0, .int .u8 0, .int .u8 0, .int .u8 0, .int .u8 0, .int .u8 0, .int .u8 0, .int .u8 0, .int .u8 0, .int .u8 0, .int .u64 0, .int .u32 0, .int .u32 0, .int .i64 0, .int .i64 0] 26)) u1.heap.size = true := r51
  have hne : w.heap.size ≠ u1.heap.size := by have := HB1.out.lt; omega
  have c24 : u1.cell? ⟨w.heap.size, 24, none⟩ = some (.int .i64 col) := (HB1.out.cell 24).trans F24.out
  have d24 : ∀ o, (u1.alloc o).cell? ⟨w.heap.size, 24, none⟩ = some (.int .i64 col) := fun o => cellOld o c24
  have e24 : ∀ o cs, ((u1.alloc o).drew.setRow u1.heap.size cs).cell? ⟨w.heap.size, 24, none⟩ = some (.int .i64 col) := fun o cs => (cell_setRow_other _ _ _ _ hne).trans (d24 o)
  have c25 : u1.cell? ⟨w.heap.size, 25, none⟩ = some (.slice A n c) := (HB1.out.cell 25).trans F25.out
  have d25 : ∀ o, (u1.alloc o).cell? ⟨w.heap.size, 25, none⟩ = some (.slice A n c) := fun o => cellOld o c25
  have e25 : ∀ o cs, ((u1.alloc o).drew.setRow u1.heap.size cs).cell? ⟨w.heap.size, 25, none⟩ = some (.slice A n c) := fun o cs => (cell_setRow_other _ _ _ _ hne).trans (d25 o)
  have c26 : u1.cell? ⟨w.heap.size, 26, none⟩ = some (.int .u16 (i : Int)) := (HB1.out.cell 26).trans F26.out
  have d26 : ∀ o, (u1.alloc o).cell? ⟨w.heap.size, 26, none⟩ = some (.int .u16 (i : Int)) := fun o => cellOld o c26
  have e26 : ∀ o cs, ((u1.alloc o).drew.setRow u1.heap.size cs).cell? ⟨w.heap.size, 26, none⟩ = some (.int .u16 (i : Int)) := fun o cs => (cell_setRow_other _ _ _ _ hne).trans (d26 o)
  obtain ⟨r6, r7⟩ := okS_cs hl
  go_region
  all_goals
    obtain ⟨HK3, HG3, HL3⟩ := bel_new (g := u1.heap.size) t.cs #[.int .u8 0, .int .u8 0, .int .u8 0, .int .u8 0, .int .u8 0, .int .u8 0, .int .u8 0, .int .u8 0, .int .u8 0, .int .u8 0, .int .u8 0, .int .u8 0, .int .u8 0, .int .u8 0, .int .u8 0, .int .u8 0, .int .u8 0, .int .u8 0, .int .u8 0, .int .u64 0, .int .u32 0, .int .u32 0, .int .i64 0, .int .i64 0] rfl HK1
    generalize hW : World.setRow _ _ _ = u3 at HK3 HG3 HL3 ⊢
    clear hW r1 r2 r3 r4 r31 r41 r5 r51 r52 r53 c24 d24 e24 c25 d25 e25 c26 d26 e26 hne HB1 HL3 HK1
    generalize u1.heap.size = g3 at HG3 ⊢
    clear F24 F25 F26 F0 r6 r7 hsz
    have X3 := slb_at hx HK3
    as_aux_lemma =>
      by_cases h1 : 2000 < n
      · have k1 : (2000 : Int) < (n : Int) := by omega
        go_wp2
        go_ret
        exact ⟨rfl, HK3⟩
      have k1 : ¬ (2000 : Int) < (n : Int) := by omega
      have hm : n ≤ 400000 := by omega
      obtain ⟨f, hf⟩ : ∃ f, Hid (poF t = f) := ⟨_, hid rfl⟩
      obtain ⟨a, han0, ha⟩ := place_m i n 1 (Nat.le_refl _) (by omega)
      have ha : (i : Int).tmod ((n : Int) + 1) = (a : Int) := ha
      have han : a ≤ n := by omega
      obtain ⟨⟨ls, M⟩, hls⟩ : ∃ z, Hid (bytesP f (nrm col) bs = z) := ⟨_, hid rfl⟩
      obtain ⟨⟨xs, M1⟩, hxs⟩ : ∃ z, Hid (bytesP f (nrm col) (bs.take a) = z) := ⟨_, hid rfl⟩
      have hM1 : M1 ≤ 65535 := by have := bytesP_le f (bs.take a) (nrm col) (nrm_le col); rw [hxs.out] at this; exact this
      obtain ⟨⟨ys, M2⟩, hys⟩ : ∃ z, Hid (bytesP f (nrm (M1 : Int)) (bs.drop a) = z) := ⟨_, hid rfl⟩
      have hjoin : Hid (ls = xs ++ ys ∧ M = M2) := hid (by
        have h := bytesP_append f (bs.take a) (bs.drop a) (nrm col)
        rw [List.take_append_drop, hls.out, hxs.out] at h
        have h2 := hys.out
        rw [nrm_nat hM1] at h2
        simp only [h2] at h
        exact ⟨congrArg Prod.fst h, congrArg Prod.snd h⟩)
      have hxl : Hid (xs.length ≤ 4000) := by have h := bytesP_len f (bs.take a) (nrm col); rw [hxs.out] at h; have h3 := List.length_take_le a bs; exact hid (by have h2 : xs.length ≤ 2 * (bs.take a).length := h; omega)
      have hyl : Hid (ys.length ≤ 4000) := by have h := bytesP_len f (bs.drop a) (nrm (M1 : Int)); rw [hys.out] at h; exact hid (by have h2 : ys.length ≤ 2 * (bs.drop a).length := h; rw [List.length_drop, hn.out] at h2; omega)
      have hll : Hid (ls.length ≤ 4000) := by have h := bytesP_len f bs (nrm col); rw [hls.out] at h; exact hid (by have h2 : ls.length ≤ 2 * bs.length := h; rw [hn.out] at h2; omega)
      clear han0
      go_wp2_with (first
        | (refine ld26 (by rfl) _ (by rfl) _ (by rfl) t.cs HG3.out hs ?_)
        | (go_at_call 11
           (with_reducible refine (retp_eq hls (bytesp_any _ ht col A n c bs hf X3 hn.out hm)).mono ?_)
           rintro e u4 ⟨A4, n4, c4, rfl, hn4, S4, k4⟩
           have K4 := bel_t HK3 k4.out
           have G4 := hid (box_below HG3.out k4.out)
           have X4 := slb_at X3 k4
           clear k4 HK3 HG3 X3))
      have LA : Hid (SlB u4 u4.heap.size A c (bs.take a)) := hid (X4.out.take a)
      have fa := run_front X4.out hn.out han
      obtain ⟨Aa, ca, ra, SA⟩ := run_back X4.out hn.out han
      have na : Hid ((bs.take a).length = a) := hid (by rw [List.length_take, hn.out]; omega)
      have ma : Hid ((bs.drop a).length = n - a) := hid (by rw [List.length_drop, hn.out])
      have bz : ∀ W, Below u4.heap.size u4 W → isB W g3 = true ∧ cs26 W g3 = t.cs := fun W h => ⟨isB_mk (box_below G4.out h) hs, cs26_of (box_below G4.out h)⟩
      go_region_held3 (fun u => isB u g3 = true ∧ cs26 u g3 = t.cs) (exact bz _ (by repeat (first | exact Below.refl _ _ | exact b5 | with_reducible apply bel_dr | with_reducible apply bel_al))) ((first
        | (go_at_call 11
           (with_reducible refine (bytesp_grow u4 _ ?c1 ht col A a c (bs.take a) hf LA na (by omega) hxs).mono ?_)
           case c1 => repeat (first | exact Below.refl _ _ | with_reducible apply bel_dr | with_reducible apply bel_al)
           rintro e u5 ⟨A5, n5, c5, rfl, hn5, S5, b5, d5⟩)))
      all_goals
        have K5 := bel_t K4 b5
        have G5 := hid (box_below G4.out b5)
        have X5 := slb_up X4 b5
        have SA5 := slb_up SA b5
        have S45 := slb_up S4 b5
        clear bz b5 d5 K4 G4 X4 LA SA S4
        as_aux_lemma =>
          have bz : ∀ W, Below u5.heap.size u5 W → isB W g3 = true ∧ cs26 W g3 = t.cs := fun W h => ⟨isB_mk (box_below G5.out h) hs, cs26_of (box_below G5.out h)⟩
          go_wp2
          go_region_held3 (fun u => isB u g3 = true ∧ cs26 u g3 = t.cs) (exact bz _ (by repeat (first | exact Below.refl _ _ | exact b6 | with_reducible apply bel_dr | with_reducible apply bel_al))) ((first
            | (go_at_call 11
               (with_reducible refine (bytesp_grow u5 _ ?c1 ht (M1 : Int) Aa (n - a) ca (bs.drop a) hf SA5 ma (by omega) hys).mono ?_)
               case c1 => repeat (first | exact Below.refl _ _ | with_reducible apply bel_dr | with_reducible apply bel_al)
               rintro e u6 ⟨A6, n6, c6, rfl, hn6, S6, b6, d6⟩)))
          all_goals
            have K6 := bel_t K5 b6
            have G6 := hid (box_below G5.out b6)
            have X6 := slb_up X5 b6
            have S46 := slb_up S45 b6
            have S56 := slb_up S5 b6
            clear bz b6 d6 K5 G5 X5 SA5 S45 S5
            as_aux_lemma =>
              obtain ⟨rfl, rfl⟩ := hjoin.out
              have hn4b : n4 ≤ 4000 := by have := hn4.out; have := hll.out; omega
              have hn5b : n5 ≤ 4000 := by have := hn5.out; have := hxl.out; omega
              have hn6b : n6 ≤ 4000 := by have := hn6.out; have := hyl.out; omega
              obtain ⟨room, hroom0, hroom⟩ := place_m i n4 2 (by omega) (by omega)
              have hroom : (i : Int).tmod ((n4 : Int) + 2) = (room : Int) := hroom
              obtain ⟨p, hp⟩ : ∃ p, Hid (fitP f (nrm col) bs (room : Int) = p) := ⟨_, hid rfl⟩
              have hpn : p ≤ n := by have := fitP_le f (nrm col) bs (room : Int); rw [hp.out, hn.out] at this; exact this
              obtain ⟨⟨zs, Mz⟩, hzs⟩ : ∃ z, Hid (bytesP f (nrm col) (bs.take p) = z) := ⟨_, hid rfl⟩
              have hzl : zs.length ≤ room := by
                have h := fitN_in (f := f) (col := nrm col) (l := bs) (room := (room : Int)) bs.length
                have e : fitN f (nrm col) bs (room : Int) bs.length = p := hp.out
                rw [e] at h
                have hz : outN f (nrm col) bs p = zs.length := by unfold outN; rw [hzs.out]
                rw [hz] at h
                rcases h with h | h
                · subst h
                  rw [outN_zero] at hz
                  omega
                · omega
              obtain ⟨⟨ws, Mw⟩, hws⟩ : ∃ z, Hid (bytesP f (nrm col) (bs.take (p + 1)) = z) := ⟨_, hid rfl⟩
              have hmore : Hid (p = n ∨ room < ws.length) := hid (by
                have h := fitN_more (f := f) (col := nrm col) (l := bs) (room := (room : Int)) bs.length
                have e : fitN f (nrm col) bs (room : Int) bs.length = p := hp.out
                rw [e, hn.out] at h
                have hw : outN f (nrm col) bs (p + 1) = ws.length := by unfold outN; rw [hws.out]
                rw [hw] at h
                omega)
              have c1 : ¬ ((p : Int) < 0) := by omega
              have c2 : ¬ ((n : Int) < (p : Int)) := by omega
              have HZL := hid hzl
              clear hzl
              go_wp2_with (first
                | (refine ld26 (by rfl) _ (by rfl) _ (by rfl) t.cs G9.out hs ?_)
                | (at_builtin
                   (first
                     | (refine app_copyo u6 (by rfl) (.tmp 65) (.tmp 66) rfl rfl A5 n5 c5 xs rfl S56 hn5.out (by omega) ?_
                        intro A7 c7 u7 k7 o7
                        have S67 := slb_at S6 k7
                        have hz7 := k7.out.size)
                     | (refine app_own u7 (by rfl) (.tmp 67) (.tmp 68) rfl u6.heap.size n5 c7 A7 xs rfl o7 hz7 A6 n6 c6 ys rfl S67 hn6.out (by omega) ?_
                        intro A8 c8 u8 o8 k8
                        have b8 : Below u6.heap.size u6 u8 := k7.out.trans (k8.out.below hz7)
                        have hl8 : Hid ((xs ++ ys).length = n5 + n6) := hid (by rw [List.length_append, hn5.out, hn6.out])
                        have S8 := slb_own hl8 o8
                        have K8 := bel_t K6 b8
                        have G8 := hid (box_below G6.out b8)
                        have X8 := slb_up X6 b8
                        have S48 := slb_up S46 b8)))
                | (go_at_call 10
                   (with_reducible refine (bytes_two _ A4 A8 c4 c8 n4 (n5 + n6) (xs ++ ys) (xs ++ ys) hn4.out hl8.out (Eq.refl (xs ++ ys)) S48 S8 (by unfold maxLen; omega)).mono ?_)
                   rintro e u9 ⟨rfl, k9⟩
                   have K9 := bel_t K8 k9.out
                   have G9 := hid (box_below G8.out k9.out)
                   have X9 := slb_at X8 k9
                   clear k9 K8 G8 X8)
                | (go_at_call 13
                   (with_reducible refine (fitp_any _ ht col A n c bs (room : Int) hf X9 hn.out hm (by omega)).mono ?_)
                   rw [hp.out]
                   rintro e u10 ⟨rfl, k10⟩
                   have K10 := bel_t K9 k10.out
                   have G10 := hid (box_below G9.out k10.out)
                   have X10 := slb_at X9 k10
                   clear k10 K9 G9 X9))
              have LZ : Hid (SlB u10 u10.heap.size A c (bs.take p)) := hid (X10.out.take p)
              have fz := run_front X10.out hn.out hpn
              have nz : Hid ((bs.take p).length = p) := hid (by rw [List.length_take, hn.out]; omega)
              have bz : ∀ W, Below u10.heap.size u10 W → isB W g3 = true ∧ cs26 W g3 = t.cs := fun W h => ⟨isB_mk (box_below G10.out h) hs, cs26_of (box_below G10.out h)⟩
              go_region_held3 (fun u => isB u g3 = true ∧ cs26 u g3 = t.cs) (exact bz _ (by repeat (first | exact Below.refl _ _ | exact b11 | with_reducible apply bel_dr | with_reducible apply bel_al))) ((first
                | (go_at_call 11
                   (with_reducible refine (bytesp_grow u10 _ ?c1 ht col A p c (bs.take p) hf LZ nz (by omega) hzs).mono ?_)
                   case c1 => repeat (first | exact Below.refl _ _ | with_reducible apply bel_dr | with_reducible apply bel_al)
                   rintro e u11 ⟨A11, n11, c11, rfl, hn11, S11, b11, d11⟩)))
              all_goals
                have K11 := bel_t K10 b11
                have G11 := hid (box_below G10.out b11)
                have X11 := slb_up X10 b11
                have hn11b : n11 ≤ room := by have := hn11.out; have := HZL.out; omega
                have c3 : ¬ ((room : Int) < (n11 : Int)) := by omega
                clear bz b11 d11 K10 G10 X10 LZ fz
                as_aux_lemma =>
                  by_cases hpe : p = n
                  · subst hpe
                    go_wp2
                    go_ret
                    exact ⟨rfl, K11⟩
                  have e1 : ((p : Int) == (n : Int)) = false := beq_eq_false_iff_ne.2 (by omega)
                  have hwl : Hid (room < ws.length) := hid (by have := hmore.out; omega)
                  obtain ⟨q, hq⟩ : ∃ q, p + 1 = q := ⟨_, rfl⟩
                  have hq1 : (p : Int) + 1 = (q : Int) := by omega
                  have hqn : q ≤ n := by omega
                  have hw1 : IntKind.i64.wrap ((p : Int) + 1) = (q : Int) := by rw [IntKind.wrap_i64]; omega
                  have hqi : (q : Int) ≤ (n : Int) := by omega
                  have hq0 : (0 : Int) ≤ (q : Int) := by omega
                  rw [hq] at hws
                  have LW : Hid (SlB u11 u11.heap.size A c (bs.take q)) := hid (X11.out.take q)
                  have fw := run_front X11.out hn.out hqn
                  have nw : Hid ((bs.take q).length = q) := hid (by rw [List.length_take, hn.out]; omega)
                  have fw2 : ∀ W : World, (Instr.sliceAt 27 (.slice A n c) none (some (.int .i64 ((p : Int) + 1))) none).run Try.prog W = .ok (.slice A q c) W := fun W => by rw [hq1]; exact fw W
                  clear hq hpe hq1
                  have bz : ∀ W, Below u11.heap.size u11 W → isB W g3 = true ∧ cs26 W g3 = t.cs := fun W h => ⟨isB_mk (box_below G11.out h) hs, cs26_of (box_below G11.out h)⟩
                  go_wp2
                  go_region_held3 (fun u => isB u g3 = true ∧ cs26 u g3 = t.cs) (exact bz _ (by repeat (first | exact Below.refl _ _ | exact b12 | with_reducible apply bel_dr | with_reducible apply bel_al))) ((first
                    | (go_at_call 11
                       (with_reducible refine (bytesp_grow u11 _ ?c1 ht col A q c (bs.take q) hf LW nw (by omega) hws).mono ?_)
                       case c1 => repeat (first | exact Below.refl _ _ | with_reducible apply bel_dr | with_reducible apply bel_al)
                       rintro e u12 ⟨A12, n12, c12, rfl, hn12, S12, b12, d12⟩)))
                  all_goals
                    have K12 := bel_t K11 b12
                    have c4 : (room : Int) < (n12 : Int) := by have := hn12.out; have := hwl.out; omega
                    clear bz
                    go_wp2
                    go_ret
                    exact ⟨rfl, K12⟩
theorem joins_walk (w : World) (t : Tm) (ht : t.Ok) (col : Int) (A : Option Addr) (c n : Nat) (bs : List UInt8) (i : Nat) (hi : i ≤ 65535) (hx : Hid (SlB w w.heap.size A c bs)) (hn : bs.length = n) :
    Calls Try.prog 6 #[.agg (tmV t [.int .i64 col, .slice A n c, .int .u16 (i : Int)])] w fun e w' => e = .returned (.bool true) ∧ Hid (Below w.heap.size w w') :=
  joins_walk0 w t ht col A c n bs i hi hx (hid hn) _ rfl
end Go.Proofs.Ytjncahcigbdbgaa
