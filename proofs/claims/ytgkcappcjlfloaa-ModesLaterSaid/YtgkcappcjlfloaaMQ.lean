import Derived.Test.YtgkcappcjlfloaaMP
namespace Go.Proofs.Ytgkcappcjlfloaa
open Go.RowKit

theorem q37 {u0 : World} {z : Gr u0} {B c n : Nat} {A : Option Addr} {left : List UInt8} {N : Int} (hb : Hid (Lies u0 B A (bv left))) (hB : B ≤ u0.heap.size) (h : 4 ≤ left.length) (hl : left.length ≤ 1000000) (hn : left.length = n) (hN : ((num4 left : Nat) : Int) = N) :
    Calls Try.prog 37 #[.slice A n c] (grw z) fun e w'' => e = .returned (.int .u32 N) ∧ ∃ z' : Gr u0, w'' = grw z' := by
  subst hn
  subst hN
  refine (number_r (grw z) B A c left (hb.out.below (z.b.mono hB)) h hl).mono ?_
  rintro e w' ⟨rfl, k, rfl⟩
  exact ⟨rfl, ⟨(grw z).drewN k, bel_drewN z.b k⟩, rfl⟩
theorem step_a {t : Tm} {op n : Nat} (h1 : op ≤ 18) (h2 : 255 < n) : stepT t op n = none := by simp [stepT, h1, h2]
theorem step_b {t : Tm} {op n : Nat} (h1 : op ≤ 18) (h2 : ¬ 255 < n) : stepT t op n = some { t with c := t.c.set op (UInt8.ofNat n) } := by simp [stepT, h1, h2]
theorem step_c {t : Tm} {op n : Nat} (h : op = 128) : stepT t op n = some { t with i := n } := by subst h; simp [stepT]
theorem step_d {t : Tm} {op n : Nat} (h : op = 129) : stepT t op n = some { t with o := n } := by subst h; simp [stepT]
theorem step_e {t : Tm} {op n : Nat} (h1 : ¬ op ≤ 18) (h2 : ¬ op = 128) (h3 : ¬ op = 129) : stepT t op n = some (setT t op (decide (n ≠ 0))) := by simp [stepT, h1, h2, h3]
set_option maxRecDepth 100000 in
set_option maxHeartbeats 4000000 in
theorem decoder_any (w : World) (t : Tm) (ht : t.Ok) (A : Option Addr) (c n : Nat) (bs : List UInt8) (hb : SlB w w.heap.size A c bs) (hn : bs.length = n) (hm : n ≤ 1000000) :
    Calls Try.prog 23 #[.slice A n c, .agg t.cs] w fun e w' => e = .returned (.tuple #[.agg (decT bs t).1.cs, .int .i64 (decT bs t).2]) ∧ Hid (Below w.heap.size w w') := by
  have hs := cs_size ht.len
  have H0 := hid (Pair.new w t)
  have hz : Hid (Tm.zero.cs.size = 24) := hid (cs_size rfl)
  have HB := hid (hb.below (w' := (w.alloc (.cells t.cs 26)).alloc (.cells Tm.zero.cs 26)) H0.out.bel)
  clear hb
  obtain ⟨E, hE⟩ : ∃ z, decT bs t = z := ⟨_, rfl⟩
  rw [hE]
  have HD : Hid (decT bs t = E) := hid hE
  clear hE
  have HT := hid ht
  clear ht
  subst hn
  have HM : Hid (bs.length ≤ 1000000) := hid hm
  clear hm
  go_enter Try.func23, Try.ntmps23
  go_wp2_with (refine bx26 (by rfl) _ (by rfl) _ (by rfl) hs ?_; intro _)
  go_loopw [0] (fun s wr => ∃ (A2 : Option Addr) (c2 : Nat) (b2 : List UInt8) (u : Tm), s = .slice A2 b2.length c2 ∧ Hid (SlB wr w.heap.size A2 c2 b2) ∧ Hid u.Ok ∧ Hid (Pair w wr w.heap.size (w.heap.size + 1) u Tm.zero) ∧ Hid (decT b2 u = E) ∧ Hid (b2.length ≤ 1000000)) (fun s _ => lenV s)
  case atStart => exact ⟨A, c, bs, t, rfl, HB, HT, H0, HD, HM⟩
  case round =>
    clear HB HT H0 HD hs HM
    obtain ⟨A2, c2, b2, u, rfl, HB, HT, H0, HD, HM⟩ := hrel
    have hul := HT.out.len
    have hus := cs_size hul
    match b2 with
    | [] =>
      have he : Hid (E = (u, 0)) := hid (HD.out.symm.trans (dec_nil u))
      go_wp2_with (first
        | (refine ld26 (by rfl) _ (by rfl) _ (by rfl) u.cs H0.out.boxT hus ?_)
        | (refine st26 (by rfl) _ _ (by rfl) _ (by rfl) u hul (by rfl) _ H0.out.boxR hz.out ?_
           intro u2 hb2 ht2
           have H2 := hid (H0.out.turnR ht2.out hb2.out)))
      refine bodyPost_ret (results26_2 rfl _ _ _ u hul rfl (.int .i64 0) rfl H2.out.boxR) rfl ?_
      exact ⟨by rw [he.out], hid H2.out.bel⟩
    | x :: rest =>
      obtain ⟨b, o, rfl, hbl, cx⟩ := slb_cell HB.out
      have hcap : rest.length + 1 ≤ c2 ∧ c2 ≤ maxLen := ⟨by simpa using HB.out.1, HB.out.2.1⟩
      have hrm : Hid (rest.length ≤ 1000000) := hid (by have := HM.out; simp at this; omega)
      clear HM
      simp only [List.length_cons]
      have hpos : (0 : Int) < ((rest.length : Int) + 1) := by omega
      cases he : endB x
      · have e1 : (((x.toNat : Int) != 0) : Bool) = true := by simp [endB] at he; simp; omega
        have e2 : ((x.toNat : Int) < 160) := by simp [endB] at he; omega
        have e3 : Hid (1 ≤ x.toNat ∧ x.toNat < 160) := hid (by simp [endB] at he; have := x.toNat_lt; omega)
        by_cases h4 : rest.length < 4
        · have hd : Hid (E = (Tm.zero, 3)) := hid (HD.out.symm.trans (dec_short he h4))
          have k4 : ((rest.length : Int) + 1) < 5 := by omega
          go_wp2_with (first
            | (refine wpList_build_at rfl 26 _ rfl Tm.zero.cs ?hc ?_
               case hc => kernel_rfl)
            | (refine st26 (by rfl) _ _ (by rfl) _ (by rfl) Tm.zero rfl (by rfl) _ H0.out.boxR hz.out ?_
               intro u2 hb2 ht2
               have H2 := hid (H0.out.turnR ht2.out hb2.out)))
          refine bodyPost_ret (results26_2 rfl _ _ _ Tm.zero rfl rfl (.int .i64 3) rfl H2.out.boxR) rfl ?_
          exact ⟨by rw [hd.out], hid H2.out.bel⟩
        · have k4 : ¬ ((rest.length : Int) + 1) < 5 := by omega
          have k5 : ¬ (c2 = 1) := by omega
          have k6 : (5 : Int) ≤ (rest.length : Int) + 1 ∧ (rest.length : Int) + 1 ≤ (c2 : Int) ∧ (5 : Int) ≤ (c2 : Int) ∧ (1 : Int) ≤ (c2 : Int) ∧ (1 : Int) ≤ (rest.length : Int) + 1 := by omega
          have HL : Hid (Lies wr w.heap.size (some ⟨b, o + 1, none⟩) (bv rest)) := hid (by
            have h1 := HB.out.drop 1 (by simp)
            rw [if_neg k5, Addr.add_lit] at h1
            exact h1.2.2.2)
          have hr4 : 4 ≤ rest.length := by omega
          have hN := hid (num4_lt rest)
          have hwl := hid (wT_ok HT.out x.toNat (num4 rest) hN.out).len
          have cxz : ∀ z : Gr wr, (grw z).cell? ⟨b, o, none⟩ = some (.int .u8 (x.toNat : Int)) := fun z => gr_cell z cx
          have hst0 : Hid (∀ t', stepT u x.toNat (num4 rest) = some t' → decT (rest.drop 4) t' = E) := hid fun t' h => (dec_some he h4 h).symm.trans HD.out
          have hst1 : Hid (stepT u x.toNat (num4 rest) = none → E = (Tm.zero, 5)) := hid fun h => HD.out.symm.trans (dec_none he h4 h)
          have hst2 : Hid (∀ t', stepT u x.toNat (num4 rest) = some t' → t'.Ok) := hid fun t' h => step_ok HT.out hN.out h
          have hwr : IntKind.i64.wrap ((x.toNat : Nat) : Int) = ((x.toNat : Nat) : Int) := by
            have := x.toNat_lt
            rw [IntKind.wrap_i64]
            omega
          have hH : w.heap.size ≤ wr.heap.size := H0.out.bel.size
          clear he HD
          generalize x.toNat = y at *
          generalize hNN : num4 rest = N at *
          have hn4 : Hid (((num4 rest : Nat) : Int) = (N : Int)) := hid (by rw [hNN])
          clear hNN
          go_wp2
          refine wp_region_grown (by kernel_rfl) (by kernel_rfl) ?_
          repeat (go_big_quiet_step ((go_at_call 37; with_reducible exact q37 HL hH hr4 hrm.out rfl hn4.out)))
          refine wpQuiet_nil ?_
          intro z
          have H1 : Hid (Pair w (grw z) w.heap.size (w.heap.size + 1) u Tm.zero) := hid (H0.out.grow z.b)
          have HB1 : Hid (SlB (grw z) w.heap.size (some ⟨b, o, none⟩) c2 (x :: rest)) := hid (HB.out.below (z.b.mono hH))
          clear H0 HB cx cxz HL hH
          generalize grw z = u1 at H1 HB1 ⊢
          clear z
          have HS := hid (HB1.out.drop 5 (by simp; omega))
          have hrd : Hid ((rest.drop 4).length = rest.length - 4) := hid (by rw [List.length_drop])
          have hBu : ∀ u2 : World, Below w.heap.size u1 u2 → ∀ A c bs, SlB u1 w.heap.size A c bs → SlB u2 w.heap.size A c bs := fun u2 h A c bs k => k.below h
          have HBU := hid hBu
          clear hBu HB1
          rcases (by omega : y ≤ 18 ∨ y = 128 ∨ y = 129 ∨ (18 < y ∧ y ≠ 128 ∧ y ≠ 129)) with h18 | h18 | h18 | h18
          · have k18 : (y : Int) ≤ 18 := by omega
            by_cases h255 : 255 < N
            · by_cases hc5 : c2 = 5
              · have HS1 : Hid (SlB u1 w.heap.size (some ⟨b, o, none⟩) 0 (rest.drop 4)) := hid (by
                  have h9 := HS.out
                  rw [if_pos hc5, hc5] at h9
                  simpa using h9)
                clear HS
                have hse := hid (hst1.out (step_a h18 h255))
                have k255 : (255 : Int) < (N : Int) := by omega
                go_wp2_with (first
                  | (refine wpList_build_at rfl 26 _ rfl Tm.zero.cs ?hc ?_
                     case hc => kernel_rfl)
                  | (refine st26 (by rfl) _ _ (by rfl) _ (by rfl) Tm.zero rfl (by rfl) _ H1.out.boxR hz.out ?_
                     intro u2 hb2 ht2
                     have H2 := hid (H1.out.turnR ht2.out hb2.out)))
                refine bodyPost_ret (results26_2 rfl _ _ _ Tm.zero rfl rfl (.int .i64 5) rfl H2.out.boxR) rfl ?_
                exact ⟨by rw [hse.out], hid H2.out.bel⟩
              · have HS1 : Hid (SlB u1 w.heap.size (some ⟨b, o + 5, none⟩) (c2 - 5) (rest.drop 4)) := hid (by
                  have h9 := HS.out
                  rw [if_neg hc5, Addr.add_lit] at h9
                  simpa using h9)
                clear HS
                have hse := hid (hst1.out (step_a h18 h255))
                have k255 : (255 : Int) < (N : Int) := by omega
                go_wp2_with (first
                  | (refine wpList_build_at rfl 26 _ rfl Tm.zero.cs ?hc ?_
                     case hc => kernel_rfl)
                  | (refine st26 (by rfl) _ _ (by rfl) _ (by rfl) Tm.zero rfl (by rfl) _ H1.out.boxR hz.out ?_
                     intro u2 hb2 ht2
                     have H2 := hid (H1.out.turnR ht2.out hb2.out)))
                refine bodyPost_ret (results26_2 rfl _ _ _ Tm.zero rfl rfl (.int .i64 5) rfl H2.out.boxR) rfl ?_
                exact ⟨by rw [hse.out], hid H2.out.bel⟩
            · by_cases hc5 : c2 = 5
              · have HS1 : Hid (SlB u1 w.heap.size (some ⟨b, o, none⟩) 0 (rest.drop 4)) := hid (by
                  have h9 := HS.out
                  rw [if_pos hc5, hc5] at h9
                  simpa using h9)
                clear HS
                have hse := hid (step_b (t := u) h18 h255)
                have k255 : ¬ (255 : Int) < (N : Int) := by omega
                have ck := (H1.out.boxT.cell y).trans (cs_char2 hul y (by omega))
                have fk := H1.out.boxT.frozen y
                have H3 : Hid (Pair w (u1.setCell ⟨w.heap.size, y, none⟩ (.int .u8 (N : Int))) w.heap.size (w.heap.size + 1) { u with c := u.c.set y (UInt8.ofNat N) } Tm.zero) := hid (by
                  have h8 := H1.out.turnT (Turn.setCell _ w.heap.size y (.int .u8 ((UInt8.ofNat N).toNat : Int))) (box_c hul H1.out.boxT y (by omega) (UInt8.ofNat N))
                  rwa [ofNat_v h255] at h8)
                have k2 : (0 : Int) ≤ (y : Int) ∧ (y : Int) < 19 := by omega
                go_wp2
                exact ⟨⟨_, _, rest.drop 4, _, by rw [hrd.out], hid (HBU.out _ ((Turn.setCell u1 w.heap.size y _).below (Nat.le_refl _)) _ _ _ HS1.out), hid (hst2.out _ hse.out), H3, hid (hst0.out _ hse.out), hid (by rw [List.length_drop]; have := hrm.out; omega)⟩, by simp [lenV]; omega⟩
              · have HS1 : Hid (SlB u1 w.heap.size (some ⟨b, o + 5, none⟩) (c2 - 5) (rest.drop 4)) := hid (by
                  have h9 := HS.out
                  rw [if_neg hc5, Addr.add_lit] at h9
                  simpa using h9)
                clear HS
                have hse := hid (step_b (t := u) h18 h255)
                have k255 : ¬ (255 : Int) < (N : Int) := by omega
                have ck := (H1.out.boxT.cell y).trans (cs_char2 hul y (by omega))
                have fk := H1.out.boxT.frozen y
                have H3 : Hid (Pair w (u1.setCell ⟨w.heap.size, y, none⟩ (.int .u8 (N : Int))) w.heap.size (w.heap.size + 1) { u with c := u.c.set y (UInt8.ofNat N) } Tm.zero) := hid (by
                  have h8 := H1.out.turnT (Turn.setCell _ w.heap.size y (.int .u8 ((UInt8.ofNat N).toNat : Int))) (box_c hul H1.out.boxT y (by omega) (UInt8.ofNat N))
                  rwa [ofNat_v h255] at h8)
                have k2 : (0 : Int) ≤ (y : Int) ∧ (y : Int) < 19 := by omega
                go_wp2
                exact ⟨⟨_, _, rest.drop 4, _, by rw [hrd.out], hid (HBU.out _ ((Turn.setCell u1 w.heap.size y _).below (Nat.le_refl _)) _ _ _ HS1.out), hid (hst2.out _ hse.out), H3, hid (hst0.out _ hse.out), hid (by rw [List.length_drop]; have := hrm.out; omega)⟩, by simp [lenV]; omega⟩
          · have k18 : ¬ (y : Int) ≤ 18 := by omega
            · by_cases hc5 : c2 = 5
              · have HS1 : Hid (SlB u1 w.heap.size (some ⟨b, o, none⟩) 0 (rest.drop 4)) := hid (by
                  have h9 := HS.out
                  rw [if_pos hc5, hc5] at h9
                  simpa using h9)
                clear HS
                have hse := hid (step_c (t := u) (n := N) h18)
                have k128 : (((y : Int) == 128) : Bool) = true := by simp; omega
                have ck := (H1.out.boxT.cell 20).trans (cs_i hul)
                have fk := H1.out.boxT.frozen 20
                have H3 : Hid (Pair w (u1.setCell ⟨w.heap.size, 20, none⟩ (.int .u32 (N : Int))) w.heap.size (w.heap.size + 1) { u with i := N } Tm.zero) := hid (H1.out.turnT (Turn.setCell _ w.heap.size 20 _) (box_i hul H1.out.boxT N))
                go_wp2
                exact ⟨⟨_, _, rest.drop 4, _, by rw [hrd.out], hid (HBU.out _ ((Turn.setCell u1 w.heap.size 20 _).below (Nat.le_refl _)) _ _ _ HS1.out), hid (hst2.out _ hse.out), H3, hid (hst0.out _ hse.out), hid (by rw [List.length_drop]; have := hrm.out; omega)⟩, by simp [lenV]; omega⟩
              · have HS1 : Hid (SlB u1 w.heap.size (some ⟨b, o + 5, none⟩) (c2 - 5) (rest.drop 4)) := hid (by
                  have h9 := HS.out
                  rw [if_neg hc5, Addr.add_lit] at h9
                  simpa using h9)
                clear HS
                have hse := hid (step_c (t := u) (n := N) h18)
                have k128 : (((y : Int) == 128) : Bool) = true := by simp; omega
                have ck := (H1.out.boxT.cell 20).trans (cs_i hul)
                have fk := H1.out.boxT.frozen 20
                have H3 : Hid (Pair w (u1.setCell ⟨w.heap.size, 20, none⟩ (.int .u32 (N : Int))) w.heap.size (w.heap.size + 1) { u with i := N } Tm.zero) := hid (H1.out.turnT (Turn.setCell _ w.heap.size 20 _) (box_i hul H1.out.boxT N))
                go_wp2
                exact ⟨⟨_, _, rest.drop 4, _, by rw [hrd.out], hid (HBU.out _ ((Turn.setCell u1 w.heap.size 20 _).below (Nat.le_refl _)) _ _ _ HS1.out), hid (hst2.out _ hse.out), H3, hid (hst0.out _ hse.out), hid (by rw [List.length_drop]; have := hrm.out; omega)⟩, by simp [lenV]; omega⟩
          · have k18 : ¬ (y : Int) ≤ 18 := by omega
            · by_cases hc5 : c2 = 5
              · have HS1 : Hid (SlB u1 w.heap.size (some ⟨b, o, none⟩) 0 (rest.drop 4)) := hid (by
                  have h9 := HS.out
                  rw [if_pos hc5, hc5] at h9
                  simpa using h9)
                clear HS
                have hse := hid (step_d (t := u) (n := N) h18)
                have k128 : (((y : Int) == 128) : Bool) = false := by simp; omega
                have k129 : (((y : Int) == 129) : Bool) = true := by simp; omega
                have ck := (H1.out.boxT.cell 21).trans (cs_o hul)
                have fk := H1.out.boxT.frozen 21
                have H3 : Hid (Pair w (u1.setCell ⟨w.heap.size, 21, none⟩ (.int .u32 (N : Int))) w.heap.size (w.heap.size + 1) { u with o := N } Tm.zero) := hid (H1.out.turnT (Turn.setCell _ w.heap.size 21 _) (box_o hul H1.out.boxT N))
                go_wp2
                exact ⟨⟨_, _, rest.drop 4, _, by rw [hrd.out], hid (HBU.out _ ((Turn.setCell u1 w.heap.size 21 _).below (Nat.le_refl _)) _ _ _ HS1.out), hid (hst2.out _ hse.out), H3, hid (hst0.out _ hse.out), hid (by rw [List.length_drop]; have := hrm.out; omega)⟩, by simp [lenV]; omega⟩
              · have HS1 : Hid (SlB u1 w.heap.size (some ⟨b, o + 5, none⟩) (c2 - 5) (rest.drop 4)) := hid (by
                  have h9 := HS.out
                  rw [if_neg hc5, Addr.add_lit] at h9
                  simpa using h9)
                clear HS
                have hse := hid (step_d (t := u) (n := N) h18)
                have k128 : (((y : Int) == 128) : Bool) = false := by simp; omega
                have k129 : (((y : Int) == 129) : Bool) = true := by simp; omega
                have ck := (H1.out.boxT.cell 21).trans (cs_o hul)
                have fk := H1.out.boxT.frozen 21
                have H3 : Hid (Pair w (u1.setCell ⟨w.heap.size, 21, none⟩ (.int .u32 (N : Int))) w.heap.size (w.heap.size + 1) { u with o := N } Tm.zero) := hid (H1.out.turnT (Turn.setCell _ w.heap.size 21 _) (box_o hul H1.out.boxT N))
                go_wp2
                exact ⟨⟨_, _, rest.drop 4, _, by rw [hrd.out], hid (HBU.out _ ((Turn.setCell u1 w.heap.size 21 _).below (Nat.le_refl _)) _ _ _ HS1.out), hid (hst2.out _ hse.out), H3, hid (hst0.out _ hse.out), hid (by rw [List.length_drop]; have := hrm.out; omega)⟩, by simp [lenV]; omega⟩
          · have k18 : ¬ (y : Int) ≤ 18 := by omega
            have k128 : (((y : Int) == 128) : Bool) = false := by simp; omega
            have k129 : (((y : Int) == 129) : Bool) = false := by simp; omega
            · by_cases hc5 : c2 = 5
              · have HS1 : Hid (SlB u1 w.heap.size (some ⟨b, o, none⟩) 0 (rest.drop 4)) := hid (by
                  have h9 := HS.out
                  rw [if_pos hc5, hc5] at h9
                  simpa using h9)
                clear HS
                have hse := hid (step_e (t := u) (n := N) (by omega : ¬ y ≤ 18) h18.2.1 h18.2.2)
                have k0 := ne0_v N
                generalize decide (N ≠ 0) = on at hse k0
                have hl2 : (setT u y on).c.length = 19 := hul
                go_wp2_with (first
                  | (refine ld26 (by rfl) _ (by rfl) _ (by rfl) u.cs H1.out.boxT hus ?_)
                  | (go_at_call 15
                     (with_reducible refine (setr_any _ u HT.out y on).mono ?_)
                     rintro e u2 ⟨rfl, K2⟩
                     have H2 := hid (H1.out.grow K2.out)
                     have KB := hid (K2.out.mono H1.out.bel.size)
                     clear H1 K2)
                  | (refine st26 (by rfl) _ _ (by rfl) _ (by rfl) (setT u y on) hl2 (by rfl) _ H2.out.boxT hus ?_
                     intro u3 hb3 ht3
                     have H3 := hid (H2.out.turnT ht3.out hb3.out)
                     have KC := hid (KB.out.trans (ht3.out.below (Nat.le_refl _)))))
                dsimp only [Act.put]
                go_roundw
                case rel => exact ⟨_, _, rest.drop 4, _, by rw [hrd.out], hid (HBU.out _ KC.out _ _ _ HS1.out), hid (hst2.out _ hse.out), H3, hid (hst0.out _ hse.out), hid (by rw [List.length_drop]; have := hrm.out; omega)⟩
                case measure => simp [lenV]; omega
              · have HS1 : Hid (SlB u1 w.heap.size (some ⟨b, o + 5, none⟩) (c2 - 5) (rest.drop 4)) := hid (by
                  have h9 := HS.out
                  rw [if_neg hc5, Addr.add_lit] at h9
                  simpa using h9)
                clear HS
                have hse := hid (step_e (t := u) (n := N) (by omega : ¬ y ≤ 18) h18.2.1 h18.2.2)
                have k0 := ne0_v N
                generalize decide (N ≠ 0) = on at hse k0
                have hl2 : (setT u y on).c.length = 19 := hul
                go_wp2_with (first
                  | (refine ld26 (by rfl) _ (by rfl) _ (by rfl) u.cs H1.out.boxT hus ?_)
                  | (go_at_call 15
                     (with_reducible refine (setr_any _ u HT.out y on).mono ?_)
                     rintro e u2 ⟨rfl, K2⟩
                     have H2 := hid (H1.out.grow K2.out)
                     have KB := hid (K2.out.mono H1.out.bel.size)
                     clear H1 K2)
                  | (refine st26 (by rfl) _ _ (by rfl) _ (by rfl) (setT u y on) hl2 (by rfl) _ H2.out.boxT hus ?_
                     intro u3 hb3 ht3
                     have H3 := hid (H2.out.turnT ht3.out hb3.out)
                     have KC := hid (KB.out.trans (ht3.out.below (Nat.le_refl _)))))
                dsimp only [Act.put]
                go_roundw
                case rel => exact ⟨_, _, rest.drop 4, _, by rw [hrd.out], hid (HBU.out _ KC.out _ _ _ HS1.out), hid (hst2.out _ hse.out), H3, hid (hst0.out _ hse.out), hid (by rw [List.length_drop]; have := hrm.out; omega)⟩
                case measure => simp [lenV]; omega
      · have hd : Hid (E = (u, 0)) := hid (HD.out.symm.trans (dec_end he))
        rcases (by simp [endB] at he; omega : x.toNat = 0 ∨ (x.toNat ≠ 0 ∧ 160 ≤ x.toNat)) with h | h
        · have e1 : (((x.toNat : Int) != 0) : Bool) = false := by simp [h]
          go_wp2_with (first
            | (refine ld26 (by rfl) _ (by rfl) _ (by rfl) u.cs H0.out.boxT hus ?_)
            | (refine st26 (by rfl) _ _ (by rfl) _ (by rfl) u hul (by rfl) _ H0.out.boxR hz.out ?_
               intro u2 hb2 ht2
               have H2 := hid (H0.out.turnR ht2.out hb2.out)))
          refine bodyPost_ret (results26_2 rfl _ _ _ u hul rfl (.int .i64 0) rfl H2.out.boxR) rfl ?_
          exact ⟨by rw [hd.out], hid H2.out.bel⟩
        · have e1 : (((x.toNat : Int) != 0) : Bool) = true := by simp; omega
          have e2 : ¬ ((x.toNat : Int) < 160) := by omega
          go_wp2_with (first
            | (refine ld26 (by rfl) _ (by rfl) _ (by rfl) u.cs H0.out.boxT hus ?_)
            | (refine st26 (by rfl) _ _ (by rfl) _ (by rfl) u hul (by rfl) _ H0.out.boxR hz.out ?_
               intro u2 hb2 ht2
               have H2 := hid (H0.out.turnR ht2.out hb2.out)))
          refine bodyPost_ret (results26_2 rfl _ _ _ u hul rfl (.int .i64 0) rfl H2.out.boxR) rfl ?_
          exact ⟨by rw [hd.out], hid H2.out.bel⟩
end Go.Proofs.Ytgkcappcjlfloaa
