import Derived.Test.YtmbnjaahiopanaaFK
namespace Go.Proofs.Ytmbnjaahiopanaa
open Go.RowKit

theorem nextF_lt4 {s : List UInt8} (h : s.length < 4) : nextF s = (0, 3) := by unfold nextF; rw [if_pos h]
theorem nextF_bad {s : List UInt8} (h : ¬ s.length < 4) (h2 : num4 s < 1 ∨ 33792 < num4 s) : nextF s = (0, 5) := by unfold nextF; rw [if_neg h, if_pos h2]
theorem nextF_short {s : List UInt8} (h : ¬ s.length < 4) (h2 : ¬ (num4 s < 1 ∨ 33792 < num4 s)) (h3 : s.length < 4 + num4 s) : nextF s = (0, 3) := by unfold nextF; rw [if_neg h, if_neg h2, if_pos h3]
theorem nextF_full {s : List UInt8} (h : ¬ s.length < 4) (h2 : ¬ (num4 s < 1 ∨ 33792 < num4 s)) (h3 : ¬ s.length < 4 + num4 s) : nextF s = (4 + num4 s, 0) := by unfold nextF; rw [if_neg h, if_neg h2, if_neg h3]

theorem list_grown {wr w8 : World} {base k lc d : Nat} {LA : Option Addr} {cs : List Value} {o : Obj} (h : wr.ownsRow base 22 1 (.slice LA k lc) k cs) (hg : ((wr.drewN d).alloc o).grownBy w8 (Value.slice LA k lc).ownBlock) : Kept base [22] wr w8 :=
  (((Kept.refl base [22] wr).drewN d).alloc o).grown hg (fun k hk => by obtain ⟨a, cs, b⟩ := own_box (World.ownsRow.alloc (w := wr.drewN d) h o) k hk; exact ⟨a, 22, cs, by simp, b⟩)

set_option maxHeartbeats 2000000 in
set_option maxRecDepth 100000 in
theorem rfeed_any (w : World) (B : Nat) (FA A : Option Addr) (fc c : Nat) (fb b : List UInt8) (bad : Bool) (hf : SlB w B FA fc fb) (hb : SlB w B A c b) (hB : B ≤ w.heap.size) (hl : fb.length + b.length ≤ 900000) :
    Calls Try.prog 15 #[.agg #[.slice FA fb.length fc, .bool bad], .slice A b.length c] w (RFedR w (feedX bad (fb ++ b))) := by
  obtain ⟨i0, hi0, hz0, hz1, hz2⟩ := info_parts Try.info5
  obtain ⟨i1, hi1, hz10, hz11, hz12⟩ := info_parts Try.info22
  have HF := hid hf
  have HBB := hid hb
  clear hf hb
  cases bad with
  | true =>
    show Calls Try.prog 15 _ w (RFedR w ([], [], 9))
    go_enter Try.func15, Try.ntmps15
    go_wp2
    refine bodyPost_ret (v := .tuple #[.agg #[.slice none 0 0, .bool true], .slice none 0 0, .int .i64 9]) (by simp [results, Try.results15, go_sem]) rfl ?_
    have hb1 : Below w.heap.size w ((w.alloc (Obj.cells #[Value.slice FA fb.length fc, Value.bool true] 39)).alloc (Obj.cells #[Value.slice none 0 0, Value.bool true] 39)) := ((Below.refl _ _).alloc (Nat.le_refl _) _).alloc (by simp) _
    exact ⟨none, 0, none, 0, rfl, ⟨Nat.le_refl _, Nat.zero_le _, fun _ => rfl, Lies.nil_⟩, (fun a (h : none = some a) => by cases h), fun h => absurd rfl h, hb1⟩
  | false =>
    show Calls Try.prog 15 _ w (RFedR w (feedF (fb ++ b)))
    obtain ⟨N, HN⟩ : ∃ N, Hid ((fb ++ b).length = N) := ⟨_, hid rfl⟩
    have hNN : fb.length + b.length = N := by rw [← HN.out, List.length_append]
    have hN : N ≤ 900000 := by omega
    have hla := laid2_mk w (.slice FA fb.length fc) false
    generalize hW : (w.alloc (.cells #[.slice FA fb.length fc, .bool false] 39)).alloc (.cells #[.slice none 0 0, .bool false] 39) = w1 at hla
    have HW := hid hW
    have HLA := hid hla
    have hsz1 : w1.heap.size = w.heap.size + 1 + 1 := hla.size
    clear hW hla
    go_enter Try.func15, Try.ntmps15
    go_wp2_with (first
      | (at_builtin
         (
           rw [HW.out]
           refine wpList_app _ rfl (.tmp 13) (.tmp 15) 22 rfl w.heap.size 5 i0 _ 1 1 Try.underlying22 hi0 hz0 hz1 hz2 rfl (by decide) (some ⟨w.heap.size + 1 + 1, 0, none⟩) 0 0 [] rfl (lit_own (w := w1) (by omega) (by omega)) B FA fb.length fc (bv fb) rfl (by simp [bv]) (HF.out.2.2.2.below ((HLA.out.bel.mono hB).alloc (by omega) _)) (bv_one _) (by unfold maxLen; omega) (by omega) (by simp; omega) ?_
           intro A3 c3 w3 ho3 hg3
           have hb3 := lit_grown (w := w1) (by omega) hg3
           have HB3 := hid hb3
           have HO3 : Hid (w3.ownsRow w.heap.size 5 1 (.slice A3 fb.length c3) fb.length (bv fb)) := by
             show World.ownsRow _ _ _ _ _ _ _
             simpa using ho3
           have HB03 : Hid (Below w.heap.size w w3) := HLA.out.bel.trans (hb3.mono (by omega))
           have hz3 : w1.heap.size ≤ w3.heap.size := hb3.size
           clear ho3 hg3 hb3))
      | (at_builtin
         (
           refine wpList_app _ rfl (.tmp 16) (.tmp 17) 22 rfl w.heap.size 5 i0 _ 1 1 Try.underlying22 hi0 hz0 hz1 hz2 rfl (by decide) A3 fb.length c3 (bv fb) rfl HO3.out B A b.length c (bv b) rfl (by simp [bv]) (HBB.out.2.2.2.below (HB03.out.mono hB)) (bv_one _) (by unfold maxLen; omega) (by omega) (by omega) ?_
           intro A4 c4 w4 ho4 hg4
           have HX4 : Hid (Box w4 (w.heap.size + 1) 39 #[.slice none 0 0, .bool false]) := by
             have h := box_below HLA.out.res HB3.out
             exact h.same (hg4.block _ h.lt (fun e => own_ne HO3.out h (by decide) e.symm))
           have HB4 := hid (app_bel HB03.out HO3.out hg4)
           have HO4 : Hid (w4.ownsRow w.heap.size 5 1 (.slice A4 N c4) N (bv (fb ++ b))) := by
             show World.ownsRow _ _ _ _ _ _ _
             rw [bv_append, ← hNN]
             exact ho4
           have hz4 : w3.heap.size ≤ w4.heap.size := hg4.size
           clear ho4 hg4
           rw [hNN])))
    obtain ⟨hst4, HA4⟩ := ST.of_own2 HN.out HO4.out
    have HS4 := hid hst4
    have HA4 := hid HA4
    clear hst4
    go_loopw [7, 8] (fun v u wr => ∃ (Al : Option Addr) (cl : Nat) (left : List UInt8) (done : List (List UInt8)) (LA : Option Addr) (lc : Nat) (cs : List Value), v = .slice Al left.length cl ∧ u = .slice LA done.length lc ∧ Hid (ST wr w4.heap.size Al cl left) ∧ Hid (∀ a, Al = some a → w.heap.size ≤ a.block) ∧ Hid (wr.ownsRow w4.heap.size 22 1 (.slice LA done.length lc) done.length cs) ∧ Hid (RL wr w4.heap.size done cs) ∧ Hid (Box wr (w.heap.size + 1) 39 #[.slice none 0 0, .bool false]) ∧ Hid (Below w.heap.size w wr) ∧ w4.heap.size ≤ wr.heap.size ∧ Hid (feedF (fb ++ b) = (done ++ (feedF left).1, (feedF left).2)) ∧ done.length + left.length ≤ N) (fun v _ _ => match v with | .slice _ n _ => n | _ => 0)
    case atStart => exact ⟨A4, c4, fb ++ b, [], none, 0, [], by rw [HN.out], rfl, HS4, HA4, World.ownsRow_nil _ _ _ _, RL.nil_ _ _, HX4, HB4, Nat.le_refl _, by simp [Hid], by rw [HN.out]; simp⟩
    case round =>
      obtain ⟨Al, cl, left, done, LA, lc, cs, rfl, rfl, HST, HAL, HOL, HRL, HXR, HBW, hzw, HFE, hlen⟩ := hrel
      obtain ⟨n, Hn⟩ : ∃ n, Hid (left.length = n) := ⟨_, hid rfl⟩
      obtain ⟨k, Hk⟩ : ∃ k, Hid (done.length = k) := ⟨_, hid rfl⟩
      obtain ⟨q, Hq⟩ : ∃ q, Hid (num4 left = q) := ⟨_, hid rfl⟩
      rw [Hn.out, Hk.out] at hlen
      rw [Hk.out] at HOL
      rw [Hn.out, Hk.out]
      have HFIN : Hid (∀ (W : World) (left' : List UInt8) (er : Int) (A' : Option Addr) (c' n' : Nat), (∃ d, W = wr.drewN d) → feedF left = ([], left', er) → left'.length = n' → ST wr w4.heap.size A' c' left' → (∀ a, A' = some a → w.heap.size ≤ a.block) →
          RFedR w (feedF (fb ++ b)) (.returned (.tuple #[.agg #[.slice A' n' c', .bool (decide (er ≠ 0))], .slice LA k lc, .int .i64 er])) ((W.setCell ⟨w.heap.size + 1, 0, none⟩ (.slice A' n' c')).setCell ⟨w.heap.size + 1, 1, none⟩ (.bool (decide (er ≠ 0)))) ∧
          Box ((W.setCell ⟨w.heap.size + 1, 0, none⟩ (.slice A' n' c')).setCell ⟨w.heap.size + 1, 1, none⟩ (.bool (decide (er ≠ 0)))) (w.heap.size + 1) 39 #[.slice A' n' c', .bool (decide (er ≠ 0))]) := by
        rintro W left' er A' c' n' ⟨d, rfl⟩ h1 h2 h3 h4
        rw [HFE.out, h1, List.append_nil]
        exact rfed_fin (wr := wr.drewN d) (Nat.le_succ _) (bel_drewN HBW.out _) HXR.out HOL.out (HRL.out.kept ((Kept.refl 0 [] wr).drewN d)) hzw Hk.out h2 (h3.kept ((Kept.refl 0 [] wr).drewN d)) h4
      have c71 : wr.cell? ⟨w.heap.size + 1, 0, none⟩ = some (.slice none 0 0) := HXR.out.cell 0
      have c72 : wr.cell? ⟨w.heap.size + 1, 1, none⟩ = some (.bool false) := HXR.out.cell 1
      have f71 : wr.frozen? ⟨w.heap.size + 1, 0, none⟩ = false := HXR.out.frozen 0
      have f72 : wr.frozen? ⟨w.heap.size + 1, 1, none⟩ = false := HXR.out.frozen 1
      by_cases h4 : n < 4
      · have HE := hid (HFIN.out wr left 0 Al cl n ⟨0, rfl⟩ (feedF_short (nextF_lt4 (by rw [Hn.out]; exact h4))) Hn.out HST.out HAL.out)
        have t1 : ¬ ((4 : Int) ≤ n) := by omega
        go_wp2
        obtain ⟨hR, hX⟩ := HE.out
        rw [show decide ((0 : Int) ≠ 0) = false from rfl] at hR hX
        generalize (wr.setCell _ _).setCell _ _ = w9 at hR hX ⊢
        have HR := hid hR
        have d0 : w9.cell? ⟨w.heap.size + 1, 0, none⟩ = some (.slice Al n cl) := hX.cell 0
        have d1 : w9.cell? ⟨w.heap.size + 1, 1, none⟩ = some (.bool false) := hX.cell 1
        clear hR hX
        refine bodyPost_ret (v := .tuple #[.agg #[.slice Al n cl, .bool false], .slice LA k lc, .int .i64 0]) (by simp [results, Try.results15, go_sem, d0, d1]) rfl ?_
        exact HR.out
      · have h4' : 4 ≤ n := by omega
        have t1 : ((4 : Int) ≤ n) := by omega
        have hl4 : ¬ left.length < 4 := by rw [Hn.out]; exact h4
        by_cases hq : q < 1 ∨ 33792 < q
        · have HF5 := hid (feedF_bad (nextF_bad hl4 (by rw [Hq.out]; exact hq)))
          have HE : Hid (∀ d, _) := fun d => HFIN.out (wr.drewN d) [] 5 none 0 0 ⟨d, rfl⟩ HF5.out rfl (fun W' _ => ⟨Nat.le_refl _, Nat.zero_le _, fun _ => rfl, Lies.nil_⟩) (fun a h => by cases h)
          clear hl4
          by_cases hq0 : q = 0
          · subst hq0
            go_wp2_with (first
              | (go_at_call 18
                 ((with_reducible refine (number_n _ _ _ _ n 0 left Hq HST Hn h4' (by omega)).mono ?_); rintro e w5 ⟨d, rfl, rfl⟩)))
            have HE := hid (HE.out d)
            obtain ⟨hR, hX⟩ := HE.out
            rw [show decide ((5 : Int) ≠ 0) = true from rfl] at hR hX
            generalize ((wr.drewN d).setCell _ _).setCell _ _ = w9 at hR hX ⊢
            have HR := hid hR
            have d0 : w9.cell? ⟨w.heap.size + 1, 0, none⟩ = some (.slice none 0 0) := hX.cell 0
            have d1 : w9.cell? ⟨w.heap.size + 1, 1, none⟩ = some (.bool true) := hX.cell 1
            clear hR hX
            refine bodyPost_ret (v := .tuple #[.agg #[.slice none 0 0, .bool true], .slice LA k lc, .int .i64 5]) (by simp [results, Try.results15, go_sem, d0, d1]) rfl ?_
            exact HR.out
          · have t2 : ((q : Int) == 0) = false := by simp; omega
            have t3 : (33792 : Int) < q := by omega
            go_wp2_with (first
              | (go_at_call 18
                 ((with_reducible refine (number_n _ _ _ _ n q left Hq HST Hn h4' (by omega)).mono ?_); rintro e w5 ⟨d, rfl, rfl⟩)))
            have HE := hid (HE.out d)
            obtain ⟨hR, hX⟩ := HE.out
            rw [show decide ((5 : Int) ≠ 0) = true from rfl] at hR hX
            generalize ((wr.drewN d).setCell _ _).setCell _ _ = w9 at hR hX ⊢
            have HR := hid hR
            have d0 : w9.cell? ⟨w.heap.size + 1, 0, none⟩ = some (.slice none 0 0) := hX.cell 0
            have d1 : w9.cell? ⟨w.heap.size + 1, 1, none⟩ = some (.bool true) := hX.cell 1
            clear hR hX
            refine bodyPost_ret (v := .tuple #[.agg #[.slice none 0 0, .bool true], .slice LA k lc, .int .i64 5]) (by simp [results, Try.results15, go_sem, d0, d1]) rfl ?_
            exact HR.out
        · have t2 : ((q : Int) == 0) = false := by simp; omega
          have t3 : ¬ ((33792 : Int) < q) := by omega
          by_cases hs : n < 4 + q
          · have t4 : (n : Int) - 4 < q := by omega
            have HE : Hid (∀ d, _) := fun d => HFIN.out (wr.drewN d) left 0 Al cl n ⟨d, rfl⟩ (feedF_short (nextF_short hl4 (by rw [Hq.out]; exact hq) (by rw [Hn.out, Hq.out]; exact hs))) Hn.out HST.out HAL.out
            go_wp2_with (first
              | (go_at_call 18
                 ((with_reducible refine (number_n _ _ _ _ n q left Hq HST Hn h4' (by omega)).mono ?_); rintro e w5 ⟨d, rfl, rfl⟩)))
            have HE := hid (HE.out d)
            obtain ⟨hR, hX⟩ := HE.out
            rw [show decide ((0 : Int) ≠ 0) = false from rfl] at hR hX
            generalize ((wr.drewN d).setCell _ _).setCell _ _ = w9 at hR hX ⊢
            have HR := hid hR
            have d0 : w9.cell? ⟨w.heap.size + 1, 0, none⟩ = some (.slice Al n cl) := hX.cell 0
            have d1 : w9.cell? ⟨w.heap.size + 1, 1, none⟩ = some (.bool false) := hX.cell 1
            clear hR hX
            refine bodyPost_ret (v := .tuple #[.agg #[.slice Al n cl, .bool false], .slice LA k lc, .int .i64 0]) (by simp [results, Try.results15, go_sem, d0, d1]) rfl ?_
            exact HR.out
          · have t4 : ¬ ((n : Int) - 4 < q) := by omega
            have hnx : nextF left = (4 + q, 0) := by rw [← Hq.out]; exact nextF_full hl4 (by rw [Hq.out]; exact hq) (by rw [Hn.out, Hq.out]; exact hs)
            have HFE2 := hid (feed_split HFE.out hnx)
            have hne : left ≠ [] := by intro e; have h := Hn.out; rw [e] at h; simp at h; omega
            obtain ⟨ab, ao, rfl, _⟩ := HST.out.now.2.2.2 (by simpa [bv] using hne)
            have hcl : n ≤ cl := by have h := HST.out.now.1; rw [Hn.out] at h; exact h
            have hcm : cl ≤ 9223372036854775807 := by have h := HST.out.now.2.1; unfold maxLen at h; omega
            have hc4 : ¬ (cl = 4) := by omega
            have hq2 : q ≤ 33792 := by omega
            have hq3 : 4 + q ≤ n := by omega
            have hnl : 4 + q ≤ left.length := by rw [Hn.out]; exact hq3
            have HP : Hid (((left.take (4 + q)).drop 4).length = q) := by show _ = _; rw [List.length_drop, List.length_take]; omega
            have HD : Hid ((left.drop (4 + q)).length = n - (4 + q)) := by show _ = _; rw [List.length_drop, Hn.out]
            have HSP : Hid (ST wr w4.heap.size (some ⟨ab, ao + 4, none⟩) (cl - 4) ((left.take (4 + q)).drop 4)) := fun W' k => by
              have h := ((HST.out W' k).take (4 + q)).drop 4 (by rw [List.length_take]; omega)
              rw [if_neg hc4, Addr.add_lit] at h
              exact h
            have hab : w.heap.size ≤ ab := HAL.out _ rfl
            have hszw : w.heap.size ≤ wr.heap.size := HBW.out.size
            clear hne HFE HFIN hnx hl4 hq hs c71 c72 f71 f72
            go_wp2_with (first
              | (go_at_call 18
                 ((with_reducible refine (number_n _ _ _ _ n q left Hq HST Hn h4' (by omega)).mono ?_); rintro e w5 ⟨d, rfl, rfl⟩))
              | (at_builtin
                 (
                   refine wpList_app _ rfl (.tmp 38) (.tmp 43) 36 rfl w4.heap.size 22 i1 _ 1 24 Try.underlying36 hi1 hz10 hz11 hz12 rfl (by decide) LA k lc cs rfl (World.ownsRow.alloc (w := wr.drewN d) HOL.out _) (wr.heap.size + 1) (some ⟨wr.heap.size, 0, none⟩) 1 1 [.slice (some ⟨ab, ao + 4, none⟩) q (cl - 4)] rfl rfl (lies_lit (wr.drewN d) #[.slice (some ⟨ab, ao + 4, none⟩) q (cl - 4)] 22) (by intro u hu; simp at hu; subst hu; rfl) (by unfold maxLen; omega) (by omega) (by simp; omega) ?_
                   intro A8 c8 w8 ho8 hg8
                   have HK8 : Hid (Kept w4.heap.size [22] wr w8) := list_grown HOL.out hg8
                   have HO8 := hid ho8
                   clear ho8 hg8)))
            have hk4 : w.heap.size ≤ w4.heap.size := HB4.out.size
            refine ⟨⟨_, _, left.drop (4 + q), done ++ [(left.take (4 + q)).drop 4], A8, c8, cs ++ [.slice (some ⟨ab, ao + 4, none⟩) q (cl - 4)], by rw [HD.out], ?_, (ST.cut HST.out hnl).kept HK8.out, ?_, ?_, ?_, HK8.out.box HXR.out (by decide), HBW.out.trans ((HK8.out.mono hk4 (fun _ h => h)).below hszw), Nat.le_trans hzw HK8.out.size, HFE2.out, ?_⟩, ?_⟩
            · rw [List.length_append, List.length_singleton, Hk.out]
            · intro a ha
              have hb : a.block = ab := by
                split at ha <;> · injection ha with ha; rw [← ha]
              rw [hb]; exact hab
            · rw [List.length_append, List.length_singleton, Hk.out]; exact HO8.out
            · have h := (HRL.out.kept HK8.out).snoc (HSP.out.kept HK8.out)
              rw [HP.out] at h
              exact h
            · rw [HD.out, List.length_append, List.length_singleton, Hk.out]; omega
            · show n - (4 + q) < n
              omega
end Go.Proofs.Ytmbnjaahiopanaa
