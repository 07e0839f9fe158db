import Derived.Test.YtggcampdkgfmgaaOH
namespace Go.Proofs.Ytggcampdkgfmgaa.F2
open Go.RowKit

theorem next_n (w : World) (M : Nat) (A : Option Addr) (c n m : Nat) (er : Int) (s : List UInt8) (hX : Hid (nextF s = (m, er))) (h : Hid (ST w M A c s)) (hn : s.length = n) (hl : n ≤ 1000000) :
    Calls Try.prog 27 #[.slice A n c] w fun e w' => ∃ d, e = .returned (.tuple #[.int .i64 m, .int .i64 er]) ∧ w' = w.drewN d := by
  subst hn
  refine (next_any w M A c s h.out.now.2.2.2 hl).mono ?_
  rw [hX.out]
  rintro e w' ⟨rfl, d, rfl⟩
  exact ⟨d, rfl, rfl⟩

theorem add_n (w : World) (base g n B : Nat) (ps : List (List UInt8)) (A : Option Addr) (c : Nat) (p : List UInt8) (hs : Hid (Came w base g ps)) (hn : ps.length ≤ 1000000) (h : Hid (SlB w B A c p)) (hB : B ≤ w.heap.size) (hpn : Hid (p.length = n)) (hl : n ≤ 1000000) :
    Calls Try.prog 25 #[.pointer (some ⟨g, 0, none⟩), .slice A n c] w fun e w' => e = .returned (.tuple #[]) ∧ Hid (Came w' base g (ps ++ [p])) ∧ Hid (Kept base [78, 27] w w') :=
  add_any w base g n B ps A c p hs.out hn h.out hB hpn.out hl
theorem ST.at_ {w : World} {M c n b o : Nat} {left : List UInt8} (h : ST w M (some ⟨b, o, none⟩) c left) (hn : n ≤ left.length) (hc : ¬ c = n) : ST w M (some ⟨b, o + n, none⟩) (c - n) (left.drop n) := by
  have h := h.drop n hn
  rw [if_neg hc, Addr.add_lit] at h
  exact h
theorem ST.end_ {w : World} {M c n b o : Nat} {left : List UInt8} (h : ST w M (some ⟨b, o, none⟩) c left) (hn : n ≤ left.length) (hc : c = n) : ST w M (some ⟨b, o, none⟩) (c - n) (left.drop n) := by
  have h := h.drop n hn
  rw [if_pos hc] at h
  exact h
theorem feed_split {done : List (List UInt8)} {s l : List UInt8} (h : feedF s = (done ++ (feedF l).1, (feedF l).2)) {m : Nat} (hn : nextF l = (m, 0)) :
    feedF s = ((done ++ [(l.take m).drop 4]) ++ (feedF (l.drop m)).1, (feedF (l.drop m)).2) := by
  rw [h, feedF_next hn]
  simp

theorem ST.cut {w : World} {M c n b o : Nat} {left : List UInt8} (h : ST w M (some ⟨b, o, none⟩) c left) (hn : n ≤ left.length) : ST w M (if c = n then some ⟨b, o, none⟩ else some ⟨b, o + n, none⟩) (c - n) (left.drop n) := by
  split
  · exact h.end_ hn (by assumption)
  · exact h.at_ hn (by assumption)
theorem pl_lt {w : World} {base : Nat} {ps : List (List UInt8)} {cs : List Value} (h : PL w base ps cs) : ∀ v ∈ cs, ∀ g, v.ownBlock = some g → g < w.heap.size := by
  intro v hv g hg
  obtain ⟨k, hk, rfl⟩ := List.getElem_of_mem hv
  obtain ⟨A, c, h1, h2⟩ := h.2 k (by rw [← h.1]; exact hk)
  rw [List.getElem?_eq_getElem hk] at h1
  injection h1 with h1
  rw [h1] at hg
  exact (h2.lt g hg).2
theorem fed_fin {w wr w7 : World} {r n k c7 lc : Nat} {done : List (List UInt8)} {left : List UInt8} {LA A7 : Option Addr} {cs : List Value} {v0 v1 : Value} {er : Int} (hr : w.heap.size ≤ r) (hbw : Below w.heap.size w wr) (hx : Box wr r 50 #[v0, v1])
    (ho : wr.ownsRow w.heap.size 27 1 (.slice LA k lc) k cs) (hp : PL wr w.heap.size done cs) (hk : done.length = k) (hn : left.length = n) (ho7 : w7.ownsRow wr.heap.size 5 1 (.slice A7 n c7) n (bv left)) (hb7 : Below wr.heap.size wr w7) :
    FedR w (done, left, er) (.returned (.tuple #[.agg #[.slice A7 n c7, .bool (decide (er ≠ 0))], .slice LA k lc, .int .i64 er])) ((w7.setCell ⟨r, 0, none⟩ (.slice A7 n c7)).setCell ⟨r, 1, none⟩ (.bool (decide (er ≠ 0)))) ∧
    Box ((w7.setCell ⟨r, 0, none⟩ (.slice A7 n c7)).setCell ⟨r, 1, none⟩ (.bool (decide (er ≠ 0)))) r 50 #[.slice A7 n c7, .bool (decide (er ≠ 0))] := by
  subst hk; subst hn
  have h7 := hbw.trans (hb7.mono hbw.size)
  obtain ⟨hx9, hb9, hk9⟩ := two_fin (u0 := .slice A7 left.length c7) (u1 := .bool (decide (er ≠ 0))) h7 hr (box_below hx hb7)
  have k7 : Kept w.heap.size [50] wr _ := ((Kept.of_below hb7 _ _)).trans hk9
  refine ⟨⟨A7, c7, LA, lc, cs, wr.heap.size, rfl, hbw.size, ?_, hk9.own ho7 (by decide), k7.own ho (by decide), hp.kept k7 (by decide), pl_lt hp, hb9⟩, hx9⟩
  exact k7.size

set_option maxHeartbeats 1000000 in
set_option maxRecDepth 100000 in
theorem feed_any (w : World) (B : Nat) (FA A : Option Addr) (fc c : Nat) (fb b : List UInt8) (bad : Bool) (hf : SlB w B FA fc fb) (hb : SlB w B A c b) (hB : B ≤ w.heap.size) (hl : fb.length + b.length ≤ 900000) :
    Calls Try.prog 12 #[.agg #[.slice FA fb.length fc, .bool bad], .slice A b.length c] w (FedR w (feedX bad (fb ++ b))) := by
  have hmf : ∀ (fn : Fn) (first cap : Array Value) (w : World), (Instr.makeFunc fn first cap).run Try.prog w = .ok (.func fn first cap) w := fun _ _ _ _ => rfl
  have HF := hid hf
  have HBB := hid hb
  clear hf hb
  cases bad with
  | true =>
    show Calls Try.prog 12 _ w (FedR w ([], [], 9))
    go_enter Try.func12, Try.ntmps12
    go_wp2
    go_step3
    go_wp2
    rw [Exit.noGoto_ret]
    refine bodyPost_ret (v := .tuple #[.agg #[.slice none 0 0, .bool true], .slice none 0 0, .int .i64 9]) (by simp [results, Try.results12, go_sem]) rfl ?_
    have hb1 : Below w.heap.size w ((w.alloc (Obj.cells #[Value.slice FA fb.length fc, Value.bool true] 50)).alloc (Obj.cells #[Value.slice none 0 0, Value.bool true] 50)) := ((Below.refl _ _).alloc (Nat.le_refl _) _).alloc (by simp) _
    exact ⟨none, 0, none, 0, [], _, rfl, hb1.size, Nat.le_refl _, World.ownsRow_nil _ _ _ _, World.ownsRow_nil _ _ _ _, PL.nil_ _ _, fun v h => by simp at h, hb1⟩
  | false =>
    show Calls Try.prog 12 _ w (FedR w (feedF (fb ++ b)))
    obtain ⟨N, HN⟩ : ∃ N, Hid ((fb ++ b).length = N) := ⟨_, hid rfl⟩
    have hN : N ≤ 900000 := by rw [← HN.out, List.length_append]; exact hl
    have hla := laid_mk w (.slice FA fb.length fc) false
    generalize hW : ((w.alloc (.cells #[.slice FA fb.length fc, .bool false] 50)).alloc (.cells #[.slice none 0 0, .bool false] 50)).alloc (.cells #[.slice none 0 0] 78) = w1 at hla
    have HW := hid hW
    have HLA := hid hla
    have hHF : Hid (SlB w1 B FA fc fb) := HF.out.below (hla.bel.mono hB)
    have hHB : Hid (SlB w1 B A c b) := HBB.out.below (hla.bel.mono hB)
    have hBs : Hid (B ≤ w1.heap.size) := by have := hla.size; show _ ≤ _; omega
    have hgs : Hid (w1.heap.size = w.heap.size + 1 + 1 + 1) := hla.size
    clear hW hla
    go_enter Try.func12, Try.ntmps12
    go_wp2
    go_step3
    go_wp2_with (first
      | (go_at_call 26
         rw [HW.out]
         ((with_reducible refine (concat_g w1 B _ FA A fc c fb.length b.length N fb b hHF hHB hBs hgs rfl rfl HN (by omega)).mono ?_); rintro e w2 ⟨A2, c2, rfl, HO2, HB2⟩)))
    have hz12 : w1.heap.size ≤ w2.heap.size := HB2.out.size
    have hz1 : w1.heap.size = w.heap.size + 1 + 1 + 1 := hgs.out
    have HX2 : Hid (Box w2 (w.heap.size + 1) 50 #[.slice none 0 0, .bool false]) := box_below HLA.out.res HB2.out
    have HC2 : Hid (Came w2 w.heap.size (w.heap.size + 1 + 1) []) := came_nil (by omega) (box_below HLA.out.came HB2.out)
    have HS2 : Hid (ST w2 w2.heap.size A2 c2 (fb ++ b)) := ST.of_own HN.out HO2.out
    have HB02 : Hid (Below w.heap.size w w2) := HLA.out.bel.trans (HB2.out.mono (by omega))
    go_step3
    go_wp2
    go_loopw [9] (fun v wr => ∃ (Al : Option Addr) (cl : Nat) (left : List UInt8) (done : List (List UInt8)), v = .slice Al left.length cl ∧ Hid (ST wr w2.heap.size Al cl left) ∧ Hid (Came wr w.heap.size (w.heap.size + 1 + 1) done) ∧ Hid (Box wr (w.heap.size + 1) 50 #[.slice none 0 0, .bool false]) ∧ Hid (Below w.heap.size w wr) ∧ w2.heap.size ≤ wr.heap.size ∧ Hid (feedF (fb ++ b) = (done ++ (feedF left).1, (feedF left).2)) ∧ done.length + left.length ≤ N) (fun v _ => match v with | .slice _ n _ => n | _ => 0)
    case atStart => exact ⟨A2, c2, fb ++ b, [], by rw [HN.out], HS2, HC2, HX2, HB02, Nat.le_refl _, by simp [Hid], by rw [HN.out]; simp⟩
    case round =>
      obtain ⟨Al, cl, left, done, rfl, HST, HCA, HXR, HBW, hzw, HFE, hlen⟩ := hrel
      obtain ⟨n, Hn⟩ : ∃ n, Hid (left.length = n) := ⟨_, hid rfl⟩
      rw [Hn.out] at hlen ⊢
      by_cases he : (nextF left).2 = 0
      · obtain ⟨hm, hq1, hq2, hq3⟩ := nextF_zero he
        obtain ⟨q, Hq⟩ : ∃ q, Hid (num4 left = q) := ⟨_, hid rfl⟩
        rw [Hq.out] at hm hq1 hq2 hq3
        rw [Hn.out] at hq3
        have HNX : Hid (nextF left = (4 + q, 0)) := Prod.ext hm he
        have hne : left ≠ [] := by intro e; have h := Hn.out; rw [e] at h; simp at h; omega
        obtain ⟨ab, ao, rfl, _⟩ := HST.out.now.2.2.2 (by simpa [bv] using hne)
        have hcl : n ≤ cl := by have h := HST.out.now.1; rw [Hn.out] at h; exact h
        have hcm : cl ≤ 9223372036854775807 := by have h := HST.out.now.2.1; unfold maxLen at h; omega
        have hc4 : ¬ (cl = 4) := by omega
        have t0 : ¬ ((n : Int) < 4 + q) := by omega
        have hnl : 4 + q ≤ left.length := by rw [Hn.out]; exact hq3
        have HP : Hid (((left.take (4 + q)).drop 4).length = q) := by show _ = _; rw [List.length_drop, List.length_take]; omega
        have HD : Hid ((left.drop (4 + q)).length = n - (4 + q)) := by show _ = _; rw [List.length_drop, Hn.out]
        have HSP : Hid (∀ d, SlB (wr.drewN d) w2.heap.size (some ⟨ab, ao + 4, none⟩) (cl - 4) ((left.take (4 + q)).drop 4)) := fun d => by
          have h := (HST.out.now.take (4 + q)).drop 4 (by rw [List.length_take]; omega)
          rw [if_neg hc4, Addr.add_lit] at h
          exact h
        have HCAd : Hid (∀ d, Came (wr.drewN d) w.heap.size (w.heap.size + 1 + 1) done) := fun d => HCA.out
        have HKd : Hid (∀ d, Kept w.heap.size [78, 27] wr (wr.drewN d)) := fun d => (Kept.refl _ _ _).drewN d
        have HZd : Hid (∀ d, w2.heap.size ≤ (wr.drewN d).heap.size) := fun d => hzw
        have HFE2 := hid (feed_split HFE.out HNX.out)
        have hszw : w.heap.size ≤ wr.heap.size := HBW.out.size
        clear he hm hne HFE
        go_wp2_with (first
          | (go_at_call 27
             ((with_reducible refine (next_n _ _ _ _ n (4 + q) 0 left HNX HST Hn.out (by omega)).mono ?_); rintro e w4 ⟨d, rfl, rfl⟩))
          | (go_at_call 25
             ((with_reducible refine (add_n _ w.heap.size _ q w2.heap.size done _ _ _ (hid (HCAd.out d)) (by omega) (hid (HSP.out d)) (HZd.out d) HP (by omega)).mono ?_); rintro e w5 ⟨rfl, HC5, HK5⟩)
             have HK := hid ((HKd.out d).trans HK5.out)
             clear HK5))
        refine ⟨⟨_, _, left.drop (4 + q), done ++ [(left.take (4 + q)).drop 4], by rw [HD.out], (ST.cut HST.out hnl).kept HK.out, HC5, HK.out.box HXR.out (by decide), HBW.out.trans (HK.out.below hszw), Nat.le_trans hzw HK.out.size, HFE2.out, ?_⟩, ?_⟩
        · rw [HD.out, List.length_append, List.length_singleton]; omega
        · show n - (4 + q) < n
          omega
      · obtain ⟨_, LA, lc, cs, hxc, hol, hpl⟩ := HCA.out
        obtain ⟨k, Hk⟩ : ∃ k, Hid (done.length = k) := ⟨_, hid rfl⟩
        rw [Hk.out] at hlen hxc hol
        have HXC := hid hxc
        have HOL := hid hol
        have HPL := hid hpl
        clear hxc hol hpl
        rcases nextF_else he with h3 | h5
        · have HNX := hid h3
          have HE : Hid (feedF (fb ++ b) = (done, left, 0)) := by show _ = _; rw [HFE.out, feedF_short h3]; simp
          clear he h3
          have HcD : ∀ d, (wr.drewN d).cell? ⟨w.heap.size + 1 + 1, 0, none⟩ = some (.slice LA k lc) := fun d => HXC.out.cell 0
          have HXRd : Hid (∀ d, Box (wr.drewN d) (w.heap.size + 1) 50 #[.slice none 0 0, .bool false]) := fun d => HXR.out
          have HXCd : Hid (∀ d, Box (wr.drewN d) (w.heap.size + 1 + 1) 78 #[.slice LA k lc]) := fun d => HXC.out
          have HSd : Hid (∀ d, SlB (wr.drewN d) w2.heap.size Al cl left) := fun d => HST.out.now
          go_wp2_with (first
            | (go_at_call 27
               ((with_reducible refine (next_n _ _ _ _ n 0 3 left HNX HST Hn.out (by omega)).mono ?_); rintro e w4 ⟨d, rfl, rfl⟩)
               have cD := HcD d))
          go_region_law (first
            | (go_simp
               go_at_call 28
               ((with_reducible refine (copied_n _ _ _ _ n left (hid (HSd.out _)) Hn.out (by omega)).mono ?_); rintro e w7 ⟨A7, c7, rfl, HO7, HB7⟩)
               have hxr := box_below (HXRd.out _) HB7.out
               have hxc := box_below (HXCd.out _) HB7.out
               have c70 : w7.cell? ⟨w.heap.size + 1 + 1, 0, none⟩ = some (.slice LA k lc) := hxc.cell 0
               have c71 : w7.cell? ⟨w.heap.size + 1, 0, none⟩ = some (.slice none 0 0) := hxr.cell 0
               have c72 : w7.cell? ⟨w.heap.size + 1, 1, none⟩ = some (.bool false) := hxr.cell 1
               have f71 : w7.frozen? ⟨w.heap.size + 1, 0, none⟩ = false := hxr.frozen 0
               have f72 : w7.frozen? ⟨w.heap.size + 1, 1, none⟩ = false := hxr.frozen 1
               clear hxr hxc))
          all_goals
            go_wp2
            have hf := fed_fin (w := w) (wr := wr.drewN (d + 1)) (er := 0) (left := left) (done := done) (Nat.le_succ _) (bel_drewN HBW.out _) HXR.out HOL.out HPL.out Hk.out Hn.out HO7.out HB7.out
            rw [show decide ((0 : Int) ≠ 0) = false from rfl] at hf
            obtain ⟨hR, hX⟩ := hf
            rw [Exit.noGoto_ret, HE.out]
            generalize (w7.setCell _ _).setCell _ _ = w9 at hR hX ⊢
            have HR := hid hR
            have d0 : w9.cell? ⟨w.heap.size + 1, 0, none⟩ = some (.slice A7 n c7) := hX.cell 0
            have d1 : w9.cell? ⟨w.heap.size + 1, 1, none⟩ = some (.bool false) := hX.cell 1
            clear hR hX
            refine bodyPost_ret (v := .tuple #[.agg #[.slice A7 n c7, .bool false], .slice LA k lc, .int .i64 0]) (by simp [results, Try.results12, go_sem, d0, d1]) rfl ?_
            exact HR.out
        · have HNX := hid h5
          have HE : Hid (feedF (fb ++ b) = (done, [], 5)) := by show _ = _; rw [HFE.out, feedF_bad h5]; simp
          clear he h5
          have HXRd : Hid (∀ d, Box (wr.drewN d) (w.heap.size + 1) 50 #[.slice none 0 0, .bool false]) := fun d => HXR.out
          have HXCd : Hid (∀ d, Box (wr.drewN d) (w.heap.size + 1 + 1) 78 #[.slice LA k lc]) := fun d => HXC.out
          go_wp2_with (first
            | (go_at_call 27
               ((with_reducible refine (next_n _ _ _ _ n 0 5 left HNX HST Hn.out (by omega)).mono ?_); rintro e w4 ⟨d, rfl, rfl⟩)))
          have c70 : wr.cell? ⟨w.heap.size + 1 + 1, 0, none⟩ = some (.slice LA k lc) := HXC.out.cell 0
          have c71 : wr.cell? ⟨w.heap.size + 1, 0, none⟩ = some (.slice none 0 0) := HXR.out.cell 0
          have c72 : wr.cell? ⟨w.heap.size + 1, 1, none⟩ = some (.bool false) := HXR.out.cell 1
          have f71 : wr.frozen? ⟨w.heap.size + 1, 0, none⟩ = false := HXR.out.frozen 0
          have f72 : wr.frozen? ⟨w.heap.size + 1, 1, none⟩ = false := HXR.out.frozen 1
          go_region
          all_goals
            go_wp2
            have hf := fed_fin (w := w) (wr := wr.drewN (d + 1)) (w7 := wr.drewN (d + 1)) (er := 5) (left := []) (done := done) (A7 := none) (c7 := 0) (Nat.le_succ _) (bel_drewN HBW.out _) HXR.out HOL.out HPL.out Hk.out rfl (World.ownsRow_nil _ _ _ _) (Below.refl _ _)
            rw [show decide ((5 : Int) ≠ 0) = true from rfl] at hf
            obtain ⟨hR, hX⟩ := hf
            rw [Exit.noGoto_ret, HE.out]
            generalize ((wr.drewN (d + 1)).setCell _ _).setCell _ _ = w9 at hR hX ⊢
            have HR := hid hR
            have d0 : w9.cell? ⟨w.heap.size + 1, 0, none⟩ = some (.slice none 0 0) := hX.cell 0
            have d1 : w9.cell? ⟨w.heap.size + 1, 1, none⟩ = some (.bool true) := hX.cell 1
            clear hR hX
            refine bodyPost_ret (v := .tuple #[.agg #[.slice none 0 0, .bool true], .slice LA k lc, .int .i64 5]) (by simp [results, Try.results12, go_sem, d0, d1]) rfl ?_
            exact HR.out
end Go.Proofs.Ytggcampdkgfmgaa.F2
