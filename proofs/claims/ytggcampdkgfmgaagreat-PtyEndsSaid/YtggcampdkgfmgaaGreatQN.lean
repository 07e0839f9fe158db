import Derived.Test.YtggcampdkgfmgaaGreatJZ
import Derived.Test.YtggcampdkgfmgaaGreatQJ
import Derived.Deep.DeepCutAuto
namespace Go.Proofs.YtggcampdkgfmgaaGreat
open Go.RowKit

/-! LdiscWrites: the walk. -/
theorem place16 (i n : Nat) (hn : n ≤ 1000000) : ∃ a : Nat, a < n + 1 ∧ (i : Int).tmod ((n : Int) + 1) = (a : Int) := by
  refine ⟨i % (n + 1), Nat.mod_lt i (by omega), ?_⟩
  rw [Int.tmod_eq_emod_of_nonneg (by omega)]
  push_cast
  rfl
theorem sizeWr : (Tryz.prog.info? 73).map (·.size) = some 27 := by kernel_rfl
theorem Al.keep {w0 w w' : World} {p : Nat} {S T : Nat → Prop} {D : Ds} (H : Al w0 w p S D) (k : ButP T w w') (hd : ∀ x, S x → ¬ T x) (hT : ∀ x, T x → w0.heap.size ≤ x) : Al w0 w' p S D :=
  ⟨H.at_.keep k hd, H.new, H.bel.trans (k.below H.bel.size hT)⟩
theorem own_ge16 {w : World} {base e size n c : Nat} {a : Addr} {xs : List Value} (h : w.ownsRow base e size (.slice (some a) n c) n xs) : base ≤ a.block := by
  rcases h.2 with ⟨e, _⟩ | ⟨g, cap, cur, e, hb, _⟩
  · cases e
  · injection e with e1 _ _
    injection e1 with e1
    subst e1
    exact hb
theorem own_lt16 {w : World} {base n c : Nat} {a : Addr} {xs : List Value} (h : w.ownsRow base 5 1 (.slice (some a) n c) n xs) : a.block < w.heap.size := by
  rcases h.2 with ⟨e, _⟩ | ⟨g, cap, cur, e, _, hg, _⟩
  · cases e
  · injection e with e1 _ _
    injection e1 with e1
    subst e1
    exact (show Box w g 5 cur from hg).lt
theorem dis_next {w0 w : World} {p : Nat} {S S1 S1' : Nat → Prop} {D : Ds} (H : Al w0 w p S D) (hd : ∀ x, S x → ¬ S1 x) (hN : ∀ x, S1' x → S1 x ∨ w.heap.size ≤ x) : ∀ x, S x → ¬ S1' x := fun x h1 h2 => by
  rcases hN x h2 with h | h
  · exact hd x h1 h
  · have := H.at_.top x h1; omega
theorem dis_next2 {w0 w : World} {p : Nat} {S S2 S2' : Nat → Prop} {D : Ds} (H : Al w0 w p S D) (hd : ∀ x, S2 x → ¬ S x) (hN : ∀ x, S2' x → S2 x ∨ w.heap.size ≤ x) : ∀ x, S2' x → ¬ S x := fun x h1 h2 => by
  rcases hN x h1 with h | h
  · exact hd x h h2
  · have := H.at_.top x h2; omega
attribute [local go_sem ↓] wp_st26 wp_ldR ex_ld26 wq_ld26 Go.wp_at_zero Go.wp_at_succ
attribute [local go_sem] isP_v blkV_v aggV_v
set_option maxRecDepth 100000 in
set_option maxHeartbeats 8000000 in
theorem writes_walk0 (w : World) (t : Tm) (ht : t.Ok) (A : Option Addr) (c n : Nat) (bs : List UInt8) (i : Nat) (hi : i ≤ 65535) (q : UInt8) (hb : Hid (SlB w w.heap.size A c bs)) (hn : Hid (bs.length = n)) (r : List Value) (hr : r = [.slice A n c, .int .u16 (i : Int), .int .u8 (q.toNat : Int)]) :
    Calls Tryz.prog 8 #[.agg (tmV t r)] w fun e w' => e = .returned (.bool true) ∧ Hid (Below w.heap.size w w') := by
  have hl := ht.len
  have hs := cs_size hl
  have hsz : Hid ((Tryz.prog.info? 73).map (·.size) = some (tmV t r).size) := hid (by rw [tmV_size ht, hr]; exact sizeWr)
  have HB0 : Hid (Box (w.alloc (.cells (tmV t r) 73)) w.heap.size 73 (tmV t r)) := hid (Box.new w _ _)
  have HK0 : Hid (Below w.heap.size w (w.alloc (.cells (tmV t r) 73))) := hid ((Below.refl _ w).alloc (Nat.le_refl _) _)
  have F24 : Hid ((tmV t r)[24]? = some (.slice A n c)) := hid (tmV_back ht (j := 0) (by rw [hr]; rfl))
  have F25 : Hid ((tmV t r)[25]? = some (.int .u16 (i : Int))) := hid (tmV_back ht (j := 1) (by rw [hr]; rfl))
  have F26 : Hid ((tmV t r)[26]? = some (.int .u8 (q.toNat : Int))) := hid (tmV_back ht (j := 2) (by rw [hr]; rfl))
  generalize hV : tmV t r = V at hsz HB0 HK0 F24 F25 F26 ⊢
  have F0 : Hid (∀ (j : Nat) (v : Value), t.cl[j]? = some v → V[j]? = some v) := hid (by rw [← hV]; exact tmV_front r)
  clear hV hr
  go_enter Tryz.func8, Tryz.ntmps8
  go_wp2_with (first
    | (refine bxT (by rfl) 73 _ (by rfl) _ (by rfl) hsz.out ?_)
    | (go_at_call 15
       (with_reducible refine (alive_any _).mono ?_)
       rintro e v1 ⟨rfl, k1⟩
       have HK1 := bel_t HK0 k1.out
       have HB1 := hid (box_below HB0.out k1.out)
       clear k1 HB0 HK0))
  go_cut [3, 4, 5, 6] (fun a b x y wx => ∃ g, a = .pointer (some ⟨g, 0, none⟩) ∧ b = .slice A n c ∧ x = .int .u16 (i : Int) ∧ y = .int .u8 (q.toNat : Int) ∧ w.heap.size ≤ g ∧ Hid (Below w.heap.size w wx) ∧ Hid (Box wx g 26 t.cs))
  case first =>
    obtain ⟨r1, r2⟩ := front_R (W := v1.drew) (g := w.heap.size) hl HB1.out F0.out
    obtain ⟨r3, r4⟩ := front_R (W := (v1.alloc (.cells #[.int .u8 0, .int .u8 0, .int .u8 0, .int .u8 0, .int .u8 0, .int .u8 0, .int .u8 0, .int .u8 0, .int .u8 0, .int .u8 0, .int .u8 0, .int .u8 0, .int .u8 0, .int .u8 0, .int .u8 0, .int .u8 0, .int .u8 0, .int .u8 0, .int .u8 0, .int .u64 0, .int .u32 0, .int .u32 0, .int .i64 0, .int .i64 0] 26)).drew) (g := w.heap.size) hl (box_dr (box_al HB1.out)) F0.out
    obtain ⟨r31, r41⟩ := front_R (W := v1.drew.alloc (.cells #[.int .u8 0, .int .u8 0, .int .u8 0, .int .u8 0, .int .u8 0, .int .u8 0, .int .u8 0, .int .u8 0, .int .u8 0, .int .u8 0, .int .u8 0, .int .u8 0, .int .u8 0, .int .u8 0, .int .u8 0, .int .u8 0, .int .u8 0, .int .u8 0, .int .u8 0, .int .u64 0, .int .u32 0, .int .u32 0, .int .i64 0, .int .i64 0] 26)) (g := w.heap.size) hl (box_al (box_dr HB1.out)) F0.out
    have r5 := isB_new v1 #[.int .u8 0, .int .u8 0, .int .u8 0, .int .u8 0, .int .u8 0, .int .u8 0, .int .u8 0, .int .u8 0, .int .u8 0, .int .u8 0, .int .u8 0, .int .u8 0, .int .u8 0, .int .u8 0, .int .u8 0, .int .u8 0, .int .u8 0, .int .u8 0, .int .u8 0, .int .u64 0, .int .u32 0, .int .u32 0, .int .i64 0, .int .i64 0] rfl
    have r51 := isB_new v1.drew #[.int .u8 0, .int .u8 0, .int .u8 0, .int .u8 0, .int .u8 0, .int .u8 0, .int .u8 0, .int .u8 0, .int .u8 0, .int .u8 0, .int .u8 0, .int .u8 0, .int .u8 0, .int .u8 0, .int .u8 0, .int .u8 0, .int .u8 0, .int .u8 0, .int .u8 0, .int .u64 0, .int .u32 0, .int .u32 0, .int .i64 0, .int .i64 0] rfl
    have r52 : isB (v1.alloc (.cells #[.int .u8 0, .int .u8 0, .int .u8 0, .int .u8 0, .int .u8 0, .int .u8 0, .int .u8 0, .int .u8 0, .int .u8 0, .int .u8 0, .int .u8 0, .int .u8 0, .int .u8 0, .int .u8 0, .int .u8 0, .int .u8 0, .int .u8 0, .int .u8 0, .int .u8 0, .int .u64 0, .int .u32 0, .int .u32 0, .int .i64 0, .int .i64 0] 26)).drew v1.heap.size = true := r5
    have r53 : isB (v1.drew.alloc (.cells #[.int .u8 0, .int .u8 0, .int .u8 0, .int .u8 0, .int .u8 0, .int .u8 0, .int .u8 0, .int .u8 0, .int .u8 0, .int .u8 0, .int .u8 0, .int .u8 0, .int .u8 0, .int .u8 0, .int .u8 0, .int .u8 0, .int .u8 0, .int .u8 0, .int .u8 0, .int .u64 0, .int .u32 0, .int .u32 0, .int .i64 0, .int .i64 0] 26)) v1.heap.size = true := r51
    have hne : w.heap.size ≠ v1.heap.size := by have := HB1.out.lt; omega
    have c24 : v1.cell? ⟨w.heap.size, 24, none⟩ = some (.slice A n c) := (HB1.out.cell 24).trans F24.out
    have d24 : ∀ o, (v1.alloc o).cell? ⟨w.heap.size, 24, none⟩ = some (.slice A n c) := fun o => cellOld o c24
    have e24 : ∀ o cs, ((v1.alloc o).drew.setRow v1.heap.size cs).cell? ⟨w.heap.size, 24, none⟩ = some (.slice A n c) := fun o cs => (cell_setRow_other _ _ _ _ hne).trans (d24 o)
    have c25 : v1.cell? ⟨w.heap.size, 25, none⟩ = some (.int .u16 (i : Int)) := (HB1.out.cell 25).trans F25.out
    have d25 : ∀ o, (v1.alloc o).cell? ⟨w.heap.size, 25, none⟩ = some (.int .u16 (i : Int)) := fun o => cellOld o c25
    have e25 : ∀ o cs, ((v1.alloc o).drew.setRow v1.heap.size cs).cell? ⟨w.heap.size, 25, none⟩ = some (.int .u16 (i : Int)) := fun o cs => (cell_setRow_other _ _ _ _ hne).trans (d25 o)
    have c26 : v1.cell? ⟨w.heap.size, 26, none⟩ = some (.int .u8 (q.toNat : Int)) := (HB1.out.cell 26).trans F26.out
    have d26 : ∀ o, (v1.alloc o).cell? ⟨w.heap.size, 26, none⟩ = some (.int .u8 (q.toNat : Int)) := fun o => cellOld o c26
    have e26 : ∀ o cs, ((v1.alloc o).drew.setRow v1.heap.size cs).cell? ⟨w.heap.size, 26, none⟩ = some (.int .u8 (q.toNat : Int)) := fun o cs => (cell_setRow_other _ _ _ _ hne).trans (d26 o)
    obtain ⟨r6, r7⟩ := okS_cs hl
    have hgw : w.heap.size ≤ v1.heap.size := HK1.out.size
    go_region
    all_goals
      obtain ⟨HK3, HG3, _⟩ := bel_new (g := v1.heap.size) t.cs #[.int .u8 0, .int .u8 0, .int .u8 0, .int .u8 0, .int .u8 0, .int .u8 0, .int .u8 0, .int .u8 0, .int .u8 0, .int .u8 0, .int .u8 0, .int .u8 0, .int .u8 0, .int .u8 0, .int .u8 0, .int .u8 0, .int .u8 0, .int .u8 0, .int .u8 0, .int .u64 0, .int .u32 0, .int .u32 0, .int .i64 0, .int .i64 0] rfl HK1
      generalize hW : World.setRow _ _ _ = u3 at HK3 HG3 ⊢
      clear hW r1 r2 r3 r4 r31 r41 r5 r51 r52 r53 c24 d24 e24 c25 d25 e25 c26 d26 e26 hne HB1 HK1
      go_wp2_with fail
      go_meet
      exact ⟨_, rfl, rfl, rfl, rfl, hgw, HK3, HG3⟩
  case rest =>
  obtain ⟨g, rfl, rfl, rfl, rfl, hgw, K2, X2⟩ := hcut
  obtain ⟨v2, hv2⟩ : ∃ v2, v2 = wc := ⟨_, rfl⟩
  subst hv2
  clear HB1 HK1 F24 F25 F26 F0 hsz
  by_cases h1 : 1500 < n
  · have k1 : (n : Int) > 1500 := by omega
    go_wp2_with fail
    go_ret
    exact ⟨rfl, K2⟩
  have k1 : ¬ (n : Int) > 1500 := by omega
  obtain ⟨a, ha, hmod⟩ := place16 i n (by omega)
  have hw16 : IntKind.i64.wrap (i : Int) = (i : Int) := by rw [IntKind.wrap_i64]; omega
  have hwn : IntKind.i64.wrap ((n : Int) + 1) = (n : Int) + 1 := by rw [IntKind.wrap_i64]; omega
  have hwa : IntKind.i64.wrap (a : Int) = (a : Int) := by rw [IntKind.wrap_i64]; omega
  have hn0 : ¬ (n : Int) + 1 = 0 := by omega
  go_upto_region 7 with fail
  go_cut [8, 9] (fun x y wx => ∃ (p1 p2 : Nat) (S1 S2 : Nat → Prop), x = .pointer (some ⟨p1, 0, none⟩) ∧ y = .pointer (some ⟨p2, 0, none⟩) ∧ Hid (Al v2 wx p1 S1 (newD t)) ∧ Hid (Al v2 wx p2 S2 (newD t)) ∧ Hid (∀ x, S2 x → ¬ S1 x))
  case first =>
    have X2d := hid (box_dr X2.out)
    obtain ⟨q1, q2⟩ := box_isB X2d.out hl
    obtain ⟨q3, q4⟩ := box_isB X2.out hl
    have cN : ∀ W, Calls Tryz.prog 19 #[.agg t.cs] W fun e w' => ∃ p S, e = .returned (.pointer (some ⟨p, 0, none⟩)) ∧ Hid (DAt w' p S (newD t)) ∧ Hid (∀ x, S x → W.heap.size ≤ x) ∧ Hid (Below W.heap.size W w') := fun W => newp_any W t ht
    have cD := cN v2.drew
    go_region_law (first
      | (go_simp
         go_at_call 19
         (with_reducible refine cD.mono ?_)
         rintro e v3 ⟨p1, S1, rfl, A3, N3, k3⟩
         have H3 := hid (Al.made (w0 := v2) A3 N3 (hid ((Below.refl v2.heap.size v2).drew.trans k3.out)))
         have X3 := hid (box_below X2d.out k3.out)
         have qq := box_isB X3.out hl
         have q5 := qq.1
         have q6 := qq.2
         clear qq)
      | (go_simp
         go_at_call 19
         (with_reducible refine (cN v3).mono ?_)
         rintro e v4 ⟨p2, S2, rfl, A4, N4, k4⟩
         have H4 := hid (Al.made (w0 := v2) A4 (hid (fun x hx => Nat.le_trans H3.out.bel.size (N4.out x hx))) (hid (H3.out.bel.trans (k4.out.mono H3.out.bel.size))))
         have H5 := hid (H3.out.grow k4.out)))
    all_goals
      go_wp2_with fail
      go_meet
      exact ⟨p1, p2, S1, S2, rfl, rfl, H5, H4, hid (fun x h2 h1 => by
        have k1 := H3.out.at_.top x h1
        have k2 := N4.out x h2
        omega)⟩
  case rest =>
  obtain ⟨p1, p2, S1, S2, rfl, rfl, H1, H2, hdis⟩ := hcut
  obtain ⟨v3, hv3⟩ : ∃ v3, v3 = wc := ⟨_, rfl⟩
  subst hv3
  have haN : a ≤ n := by omega
  have hf := run_front hb.out hn.out haN
  obtain ⟨A7, c7, hbk, L7⟩ := run_back hb.out hn.out haN
  have hbA : Hid (bs ≠ [] → ∀ x, A = some x → x.block < w.heap.size) := hid (slb_lt hb)
  obtain ⟨DF, hDF⟩ : ∃ z, Hid (writeD (newD t) bs = z) := ⟨_, hid rfl⟩
  obtain ⟨E1, hE1⟩ : ∃ z, Hid (writeD (newD t) (bs.take a) = z) := ⟨_, hid rfl⟩
  have htl : (bs.take a).length = a := by rw [List.length_take]; have := hn.out; omega
  have hdl : (bs.drop a).length = n - a := by rw [List.length_drop, hn.out]
  have hsum : (bs.take a).length + (bs.drop a).length = n := by omega
  have hN1 : Hid (writeN (newD t) bs = n) := hid (by rw [writeN_all (by show 0 + 2 * bs.length ≤ 4096; rw [hn.out]; omega), hn.out])
  have hN2 : Hid (writeN (newD t) (bs.take a) = a) := hid (by rw [writeN_all (by show 0 + 2 * (bs.take a).length ≤ 4096; omega), htl])
  have h2w := writeD_two (D := newD t) (a := bs.take a) (b := bs.drop a) (by show 0 + 2 * _ ≤ 4096; omega)
  rw [List.take_append_drop, hDF.out, hE1.out, hdl] at h2w
  have hN3 : Hid (writeN E1 (bs.drop a) = n - a) := hid h2w.1
  have hE2 : Hid (writeD E1 (bs.drop a) = DF) := hid h2w.2
  have IF : Hid (Inv DF) := hid (hDF.out ▸ (Inv.new ht).write bs)
  have IE : Hid (Inv E1) := hid (hE1.out ▸ (Inv.new ht).write _)
  have hDl : Hid (DF.ls = []) := hid (by rw [← hDF.out]; rfl)
  have fit0 := hid (Inv.new ht).fit
  have KA : Hid (Below w.heap.size w v3) := hid (K2.out.trans (H1.out.bel.mono K2.out.size))
  have LB3 := slb_at hb KA
  clear h2w hsum
  have hsub : IntKind.i64.wrap ((n : Int) - (a : Int)) = ((n - a : Nat) : Int) := by rw [IntKind.wrap_i64]; omega
  have cW2 : ∀ (W : World) (H : Hid (Al v2 W p2 S2 (newD t))), Calls Tryz.prog 33 #[.pointer (some ⟨p2, 0, none⟩), .slice A a c] W fun e w' => e = .returned (.int .i64 (a : Int)) ∧ DOut W p2 S2 E1 w' := fun W H => writep_any W p2 S2 (newD t) (hid H.out.at_) fit0 A a c (bs.take a) (hid ((slb_at hb (hid (K2.out.trans (H.out.bel.mono K2.out.size)))).out.take a)) (hid htl) (by omega) (hid (fun hb x hx hS => by have h1 := hbA.out (fun e => hb (by rw [e, List.take_nil])) x hx; have h2 := H.out.new _ hS; have h3 := K2.out.size; omega)) hE1 hN2
  have cW3 : ∀ (W : World) (S : Nat → Prop) (H : Hid (Al v2 W p2 S E1)), Calls Tryz.prog 33 #[.pointer (some ⟨p2, 0, none⟩), .slice A7 (n - a) c7] W fun e w' => e = .returned (.int .i64 ((n - a : Nat) : Int)) ∧ DOut W p2 S DF w' := fun W S H => writep_any W p2 S E1 (hid H.out.at_) (hid IE.out.fit) A7 (n - a) c7 (bs.drop a) (slb_at L7 (hid (K2.out.trans (H.out.bel.mono K2.out.size)))) (hid hdl) (by omega) (hid (fun hb x hx hS => by have h1 := slb_lt L7 hb x hx; have h2 := H.out.new _ hS; have h3 := K2.out.size; omega)) hE2 hN3
  go_upto_region 10 with (first
    | (go_at_call 33
       (first
         | ((with_reducible refine (writep_any v3 p1 S1 (newD t) (hid H1.out.at_) fit0 A n c bs LB3 hn (by omega) (hid (fun hb x hx hS => by have h1 := hbA.out hb x hx; have h2 := H1.out.new _ hS; have h3 := K2.out.size; omega)) hDF hN1).mono ?_)
            rintro e v4 ⟨rfl, O4⟩
            obtain ⟨S4, H4, N4, B4⟩ := H1.out.next O4
            have G4 := hid (H2.out.keep B4.out hdis.out H1.out.new)
            have D4 := hid (dis_next H2.out hdis.out N4.out)
            have LB4 := slb_at hb (hid (K2.out.trans (H4.out.bel.mono K2.out.size))))
         | ((with_reducible refine (cW2 v4 G4).mono ?_)
            rintro e v5 ⟨rfl, O5⟩
            obtain ⟨S5, G5, N5, B5⟩ := G4.out.next O5
            have H5 := hid (H4.out.keep B5.out (fun x h1 h2 => D4.out x h2 h1) G4.out.new)
            have D5 := hid (dis_next2 H4.out D4.out N5.out)
            skip)
         | ((with_reducible refine (cW3 v5 S5 G5).mono ?_)
            rintro e v6 ⟨rfl, O6⟩
            obtain ⟨S6, G6, N6, B6⟩ := G5.out.next O6
            have H6 := hid (H5.out.keep B6.out (fun x h1 h2 => D5.out x h2 h1) G5.out.new))))
    | (go_at_call 35
       (first
         | ((with_reducible refine (from16_any v6 p1 S4 DF (hid H6.out.at_) (hid IF.out.t) hDl).mono ?_)
            rintro e v7 ⟨hA, rfl, F7, k7⟩
            have H7 := hid (H6.out.grow k7.out)
            have G7 := hid (G6.out.grow k7.out))
         | ((with_reducible refine (from16_any v7 p2 S6 DF (hid G7.out.at_) (hid IF.out.t) hDl).mono ?_)
            rintro e v8 ⟨hB, rfl, F8, k8⟩
            have H8 := hid (H7.out.grow k8.out)
            have F7' := hid (F7.out.grow k8.out))))
    | (go_at_call 34
       (with_reducible refine (same16_any v8 DF hA hB F7' F8 (hid IF.out.fit)).mono ?_)
       rintro e v9 ⟨rfl, k9⟩
       have H9 := hid (H8.out.grow k9.out)))
  obtain ⟨⟨R, M⟩, hRM⟩ : ∃ z, Hid (L12.bytesP (L12.poF t) 0 bs = z) := ⟨_, hid rfl⟩
  have hRl := L12.bytesP_len (L12.poF t) bs 0
  rw [hRM.out] at hRl
  have hRl : R.length ≤ 2 * bs.length := hRl
  have hRl : R.length ≤ 3000 := by have := hn.out; omega
  have hDF2 : Hid (DF = { newD t with out := R, col := (M : Int) }) := hid (by
    rw [← hDF.out, writeD_all (by show 0 + 2 * bs.length ≤ 4096; rw [hn.out]; omega)]
    show ({ newD t with out := [] ++ (L12.bytesP (L12.poF t) 0 bs).1, col := ((L12.bytesP (L12.poF t) 0 bs).2 : Int) } : Ds) = _
    rw [hRM.out, List.nil_append])
  have X9 := hid (box_below X2.out H9.out.bel)
  have LB9 := slb_at hb (hid (K2.out.trans (H9.out.bel.mono K2.out.size)))
  have cB : ∀ (W : World) (h : Hid (SlB W W.heap.size A c bs)), Calls Tryz.prog 36 #[.agg t.cs, .int .i64 0, .slice A n c] W (L12.RetPO W (R, M)) := fun W h => by
    have := L12.bytespo_any W ht 0 A n c bs (f := L12.poF t) (hid rfl) h hn.out (by omega)
    rwa [show nrm 0 = 0 from rfl, hRM.out] at this
  have hq := q.toNat_lt
  obtain ⟨Q, hQ⟩ : ∃ Q, Hid (q.toNat + 1 = Q) := ⟨_, hid rfl⟩
  have hQ0 : 0 < Q := by have := hQ.out; omega
  have hQ1 : Q ≤ 256 := by have := hQ.out; omega
  have hw0 : IntKind.i64.wrap (1 + (q.toNat : Int)) = (Q : Int) := by rw [IntKind.wrap_i64, ← hQ.out]; omega
  have hw1 : IntKind.i64.wrap (q.toNat : Int) = (q.toNat : Int) := by rw [IntKind.wrap_i64]; omega
  have okQ : i64ok (Q : Int) := by unfold i64ok; omega
  clear hmod hw16 hwn hwa hn0 hf hbk cW2 cW3 hsub k1 ha haN htl hdl
  go_wp2_with (first
    | (refine ld26 (by rfl) _ (by rfl) _ (by rfl) t.cs X9.out hs ?_)
    | (go_at_call 36
       (with_reducible refine (cB _ LB9).mono ?_)
       rintro e v10 ⟨AW, nW, cW, rfl, hnW, OW, k10⟩
       have H10 := hid (H9.out.grow k10.out)
       have LW := slb_own hnW OW
       have FW : Hid (∀ x, AW = some x → ¬ S4 x.block ∧ x.block < v10.heap.size) := hid (fun x hx => by
         subst hx
         have g1 := own_ge16 OW.out
         exact ⟨fun hS => by have := H9.out.at_.top _ hS; omega, own_lt16 OW.out⟩)))
  have hnW : Hid (R.length = nW) := hnW
  have LW : Hid (SlB v10 v10.heap.size AW cW R) := LW
  have HR : Hid (Al v2 v10 p1 S4 { newD t with out := R, col := (M : Int) }) := by have := H10; rwa [hDF2.out] at this
  have HS4 : Hid (∀ x, S4 x → v2.heap.size ≤ x) := hid H10.out.new
  clear H10 H9 LB9 X9 cB
  go_loopg [12] R.length (fun gk a wr => ∃ (j : Nat) (S : Nat → Prop) (A9 : Option Addr) (m9 c9 : Nat), (R.drop j).length = gk ∧ a = .slice A9 m9 c9 ∧ Hid ((R.take j).length = m9) ∧ Hid (Al v2 wr p1 S { newD t with out := R.drop j, col := (M : Int) }) ∧ Hid (wr.ownsRow 0 5 1 (.slice A9 m9 c9) m9 (bv (R.take j))) ∧ Hid (∀ x, A9 = some x → v2.heap.size ≤ x.block ∧ ¬ S x.block ∧ x.block < wr.heap.size) ∧ Hid (SlB wr wr.heap.size AW cW R) ∧ Hid (∀ x, AW = some x → ¬ S x.block ∧ x.block < wr.heap.size ∧ ∀ y, A9 = some y → y.block ≠ x.block))
  case atStart => exact ⟨0, S4, none, 0, 0, by rw [List.drop_zero], rfl, hid rfl, by rw [List.drop_zero]; exact HR, by rw [List.take_zero]; exact own_nil0 _, hid (fun x h => by cases h), LW, hid (fun x hx => ⟨(FW.out x hx).1, (FW.out x hx).2, fun y hy => by cases hy⟩)⟩
  case round =>
    clear HR LW FW
    obtain ⟨j, S, A9, m9, c9, hj, rfl, hm9, H3, O9, F9, LW, FW⟩ := hrel
    obtain ⟨h, Hp⟩ := H3.out.at_
    have okt : ({ newD t with out := R.drop j, col := (M : Int) } : Ds).t.Ok := ht
    have c6h : Hid (World.cell? wr ⟨p1, 30, none⟩ = some (.slice h.oA (R.drop j).length h.oc)) := hid (Hp.cell okt 6 rfl)
    have c7 : World.cell? wr ⟨p1, 31, none⟩ = some (.int .i64 (M : Int)) := Hp.cell okt 7 rfl
    by_cases hre : R.drop j = []
    · have hRj : R.take j = R := List.take_of_length_le (by have := congrArg List.length hre; rw [List.length_drop] at this; simp at this; omega)
      have c6 : World.cell? wr ⟨p1, 30, none⟩ = some (.slice h.oA 0 h.oc) := by have := c6h.out; rw [hre] at this; exact this
      rw [hRj] at O9 hm9
      have LO := own0_slb hm9 O9
      go_wp2_with (first
        | (go_at_call 22
           (with_reducible refine (bytes_two _ A9 AW c9 cW m9 nW R R hm9.out hnW.out rfl LO LW (by have := hm9.out; unfold maxLen; omega)).mono ?_)
           rintro e w6 ⟨rfl, k6⟩
           have K7 := bel_t (hid (K2.out.trans (H3.out.bel.mono K2.out.size))) k6.out
           have c7' : World.cell? w6 ⟨p1, 31, none⟩ = some (.int .i64 (M : Int)) := (k6.out.cell (p := ⟨p1, 31, none⟩) (World.block_lt_of_cell? _ _ c7)).trans c7))
      go_ret
      exact ⟨rfl, K7⟩
    · obtain ⟨N, hN⟩ : ∃ N, Hid ((R.drop j).length = N) := ⟨_, hid rfl⟩
      have hN0 : N ≠ 0 := fun h => hre (List.eq_nil_of_length_eq_zero (hN.out.trans h))
      have hNi : (N : Int) > 0 := by omega
      have c6 : World.cell? wr ⟨p1, 30, none⟩ = some (.slice h.oA N h.oc) := by have := c6h.out; rwa [hN.out] at this
      obtain ⟨P, hP⟩ : ∃ P, Hid (min Q N = P) := ⟨_, hid rfl⟩
      have hP0 : P ≠ 0 := by have := hP.out; omega
      have hPQ : P ≤ Q := by have := hP.out; omega
      have hPi : ((P : Int) == 0) = false := beq_eq_false_iff_ne.2 (by omega)
      have hPq : ¬ (P : Int) > (Q : Int) := by omega
      have hout : Hid (outputB { newD t with out := R.drop j, col := (M : Int) } (Q : Int) = (R.drop j).take P) := hid (by
        unfold outputB outN16
        rw [if_neg (by show ¬ false = true; decide)]
        show (R.drop j).take (max 0 (min (Q : Int) (R.drop j).length)).toNat = _
        rw [hN.out]
        congr 1
        have := hP.out
        omega)
      have hod : Hid (outputD { newD t with out := R.drop j, col := (M : Int) } (Q : Int) = { newD t with out := R.drop (j + P), col := (M : Int) }) := hid (by
        unfold outputD outN16
        rw [if_neg (by show ¬ false = true; decide)]
        show ({ newD t with out := (R.drop j).drop (max 0 (min (Q : Int) (R.drop j).length)).toNat, col := (M : Int) } : Ds) = _
        rw [hN.out, show (max 0 (min (Q : Int) (N : Int))).toNat = P by have := hP.out; omega, List.drop_drop])
      have hfit : Hid (Fit { newD t with out := R.drop j, col := (M : Int) }) := hid ⟨ht, by simp [newD], by simp [newD], by show (R.drop j).length ≤ 13000; rw [List.length_drop]; omega, by simp [newD], by simp [newD, L13.usedL], by have := IF.out.c1; rw [hDF2.out] at this; have h2 : (M : Int) ≤ 65535 := this; show i64ok (M : Int); unfold i64ok; omega, ok0, ok0⟩
      have hlen : ((R.drop j).take P).length = P := by rw [List.length_take, hN.out]; have := hP.out; omega
      go_wp2_with (first
        | (go_at_call 37
           (with_reducible refine (outputp_any _ p1 S _ (hid H3.out.at_) hfit (Q : Int) okQ hod hout).mono ?_)
           rintro e w3 ⟨A3, n3, c3, rfl, hn3, L3, O3⟩
           obtain rfl : n3 = P := by rw [← hn3.out, hlen]
           obtain ⟨S5, H5, N5, B5, F5⟩ := H3.out.nextF O3
           have P9 := own_but O9 B5.out (fun x hx => (F9.out x hx).2.1)
           have LW5 := slb_but LW B5.out (fun _ x hx => (FW.out x hx).1))
        | (refine app_but w3 rfl _ _ rfl m9 c9 A9 (R.take j) (by rfl) P9 A3 n3 c3 _ (by rfl) L3 hlen (by have h1 := hm9.out; simp only [List.length_take] at h1; omega) ?_
           intro A10 c10 w4 P10 B10 F10))
      go_roundg (R.drop (j + n3)).length
      case measure => rw [← hj]; rw [hN.out, List.length_drop]; have h1 := hN.out; rw [List.length_drop] at h1; omega
      case rel => exact ⟨j + n3, S5, A10, m9 + n3, c10, rfl, rfl, hid (by rw [← drop_take, List.length_append, hm9.out, hlen]),
        hid ⟨H5.out.at_.keep B10.out (fun x hx => by
          rintro ⟨a, ha, rfl⟩
          rcases N5.out _ hx with h | h
          · exact (F9.out a ha).2.1 h
          · have := (F9.out a ha).2.2; omega), H5.out.new, H5.out.bel.trans (B10.out.below H5.out.bel.size (fun x hx => by obtain ⟨a, ha, rfl⟩ := hx; exact (F9.out a ha).1))⟩,
        by rw [← drop_take]; exact P10,
        hid (fun x hx => by
          rcases F10.out x hx with ⟨a, ha, e⟩ | h
          · rw [← e]
            refine ⟨(F9.out a ha).1, fun hx => ?_, Nat.lt_of_lt_of_le (F9.out a ha).2.2 (Nat.le_trans B5.out.size B10.out.size)⟩
            rcases N5.out _ hx with h | h
            · exact (F9.out a ha).2.1 h
            · have := (F9.out a ha).2.2; omega
          · refine ⟨Nat.le_trans H5.out.bel.size h, fun hx => by have := H5.out.at_.top _ hx; omega, ?_⟩
            subst hx
            exact own_lt P10 rfl),
        slb_but LW5 B10.out (fun _ x hx => by
          rintro ⟨a, ha, e⟩
          exact (FW.out x hx).2.2 a ha e),
        hid (fun x hx => by
          have h1 := FW.out x hx
          refine ⟨fun hS => ?_, Nat.lt_of_lt_of_le h1.2.1 (Nat.le_trans B5.out.size B10.out.size), fun y hy => ?_⟩
          · rcases N5.out _ hS with h | h
            · exact h1.1 h
            · have := h1.2.1; omega
          · rcases F10.out y hy with ⟨a, ha, e⟩ | h
            · rw [← e]; exact h1.2.2 a ha
            · have h2 := h1.2.1; have h3 := B5.out.size; omega)⟩
end Go.Proofs.YtggcampdkgfmgaaGreat
