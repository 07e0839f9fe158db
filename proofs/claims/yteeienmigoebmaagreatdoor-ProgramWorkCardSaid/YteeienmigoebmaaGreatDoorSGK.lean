import Derived.Test.YteeienmigoebmaaGreatDoorSGJ
namespace Go.Proofs.YteeienmigoebmaaGreatDoor.L18
open Go.RowKit

/-! Layer 18: what is done with a signal, changed. -/
def actV (a : List Int) (g how : Int) : Value := .tuple #[.agg (arr (actA a g how)), .int .i64 (actE g how)]
theorem results2P {fn : Func} {p q : Tmp} (h : fn.results = #[.cell p 109, .tmp q]) (tmps : Array Value) (w : World) (g : Nat) (l : List Int) (hl : l.length = 32) (v : Value)
    (hp : tmps.getD p undef = .pointer (some ⟨g, 0, none⟩)) (hq : tmps.getD q undef = v) (hb : Box w g 109 (arr l)) : (results fn tmps).run Tryz.prog w = .ok (.tuple #[.agg (arr l), v]) w := by
  have hp' : tmps[p]?.getD undef = .pointer (some ⟨g, 0, none⟩) := by simpa using hp
  have hq' : tmps[q]?.getD undef = v := by simpa using hq
  simp [results, h, hp', hq', asAddr, run_loadVar_row (P := Tryz.prog) w g 109 109 (arr l) (0, 0) _ hb Tryz.underlying109 rfl (by rw [arr_size hl]; exact Tryz.size32P)]
theorem results2R {fn : Func} {p q : Tmp} (h : fn.results = #[.cell p 86, .tmp q]) (tmps : Array Value) (w : World) (g : Nat) (l : List Int) (hl : l.length = 32) (v : Value)
    (hp : tmps.getD p undef = .pointer (some ⟨g, 0, none⟩)) (hq : tmps.getD q undef = v) (hb : Box w g 86 (arr l)) : (results fn tmps).run Tryz.prog w = .ok (.tuple #[.agg (arr l), v]) w := by
  have hp' : tmps[p]?.getD undef = .pointer (some ⟨g, 0, none⟩) := by simpa using hp
  have hq' : tmps[q]?.getD undef = v := by simpa using hq
  simp [results, h, hp', hq', asAddr, run_loadVar_row (P := Tryz.prog) w g 86 86 (arr l) (0, 0) _ hb Tryz.underlying86 rfl (by rw [arr_size hl]; exact Tryz.size32R)]
section
variable {w : World}
set_option maxRecDepth 100000 in
set_option maxHeartbeats 4000000 in
theorem act_any (H : Hid (TabW w)) {a : List Int} (ha : Hid (a.length = 32)) (g how : Int) : Calls Tryz.prog 66 #[.agg (arr a), .int .i64 g, .int .i64 how] w fun e w' => e = .returned (actV a g how) ∧ Hid (Below w.heap.size w w') := by
  have B1 : ∀ o, Hid (Below w.heap.size w (w.alloc o)) := fun o => bel_al (hid (Below.refl _ _))
  have B2 : ∀ o o2, Hid (Below w.heap.size w ((w.alloc o).alloc o2)) := fun o o2 => bel_al (B1 o)
  have H2 : ∀ o o2, Hid (TabW ((w.alloc o).alloc o2)) := fun o o2 => TabW.below H (B2 o o2).out
  have BR := B2 (.cells (arr a) 109) (.cells (arr zero32) 109)
  have HR := hid (Box.new (w.alloc (.cells (arr a) 109)) 109 (arr zero32))
  rw [zero_arr, World.size_alloc] at HR
  rw [zero_arr] at BR
  by_cases hb : badA g how = true
  · have HA : Hid (actA a g how = zero32) := hid (by simp [actA, hb])
    have HE : Hid (actE g how = 2) := hid (by simp [actE, hb])
    unfold badA at hb
    cases hk : known g
    · have HK := hid hk
      clear hk hb
      go_enter Tryz.func66, Tryz.ntmps66
      go_wp2_with (first
        | (refine bxP (by rfl) _ (by rfl) _ (by rfl) ?_
           intro _)
        | (go_at_call 82
           (with_reducible refine (isSig_b (H2 _ _) HK).mono ?_)
           rintro e w1 ⟨rfl, rfl⟩)
        | (go_at_call 83
           (with_reducible refine (fix_any _ HX).mono ?_)
           rintro e w1 ⟨rfl, rfl⟩)
        | (refine stP (by rfl) _ _ (by rfl) _ (by rfl) zero32 (hid rfl) (by rfl) _ HR (by rfl) ?_
           intro w9 HB9 HT9))
      refine bodyPost_ret (v := .tuple #[.agg (arr zero32), .int .i64 2]) (results2P rfl _ _ _ zero32 rfl _ (by rfl) (by rfl) HB9.out) rfl ?_
      refine ⟨by unfold actV; rw [HA.out, HE.out], ?_⟩
      exact hid (BR.out.trans (HT9.out.below (by simp)))
    · have HK := hid hk
      rw [hk] at hb
      clear hk
      cases hf : fixS g
      · have HX := hid hf
        rw [hf] at hb
        clear hf
        by_cases h0 : how < 0
        · clear hb
          go_enter Tryz.func66, Tryz.ntmps66
          go_wp2_with (first
            | (refine bxP (by rfl) _ (by rfl) _ (by rfl) ?_
               intro _)
            | (go_at_call 82
               (with_reducible refine (isSig_b (H2 _ _) HK).mono ?_)
               rintro e w1 ⟨rfl, rfl⟩)
            | (go_at_call 83
               (with_reducible refine (fix_any _ HX).mono ?_)
               rintro e w1 ⟨rfl, rfl⟩)
            | (refine stP (by rfl) _ _ (by rfl) _ (by rfl) zero32 (hid rfl) (by rfl) _ HR (by rfl) ?_
               intro w9 HB9 HT9))
          refine bodyPost_ret (v := .tuple #[.agg (arr zero32), .int .i64 2]) (results2P rfl _ _ _ zero32 rfl _ (by rfl) (by rfl) HB9.out) rfl ?_
          refine ⟨by unfold actV; rw [HA.out, HE.out], ?_⟩
          exact hid (BR.out.trans (HT9.out.below (by simp)))
        · have h2 : how > 2 := by simpa [h0] using hb
          clear hb
          go_enter Tryz.func66, Tryz.ntmps66
          go_wp2_with (first
            | (refine bxP (by rfl) _ (by rfl) _ (by rfl) ?_
               intro _)
            | (go_at_call 82
               (with_reducible refine (isSig_b (H2 _ _) HK).mono ?_)
               rintro e w1 ⟨rfl, rfl⟩)
            | (go_at_call 83
               (with_reducible refine (fix_any _ HX).mono ?_)
               rintro e w1 ⟨rfl, rfl⟩)
            | (refine stP (by rfl) _ _ (by rfl) _ (by rfl) zero32 (hid rfl) (by rfl) _ HR (by rfl) ?_
               intro w9 HB9 HT9))
          refine bodyPost_ret (v := .tuple #[.agg (arr zero32), .int .i64 2]) (results2P rfl _ _ _ zero32 rfl _ (by rfl) (by rfl) HB9.out) rfl ?_
          refine ⟨by unfold actV; rw [HA.out, HE.out], ?_⟩
          exact hid (BR.out.trans (HT9.out.below (by simp)))
      · have HX := hid hf
        clear hf hb
        go_enter Tryz.func66, Tryz.ntmps66
        go_wp2_with (first
          | (refine bxP (by rfl) _ (by rfl) _ (by rfl) ?_
             intro _)
          | (go_at_call 82
             (with_reducible refine (isSig_b (H2 _ _) HK).mono ?_)
             rintro e w1 ⟨rfl, rfl⟩)
          | (go_at_call 83
             (with_reducible refine (fix_any _ HX).mono ?_)
             rintro e w1 ⟨rfl, rfl⟩)
          | (refine stP (by rfl) _ _ (by rfl) _ (by rfl) zero32 (hid rfl) (by rfl) _ HR (by rfl) ?_
             intro w9 HB9 HT9))
        refine bodyPost_ret (v := .tuple #[.agg (arr zero32), .int .i64 2]) (results2P rfl _ _ _ zero32 rfl _ (by rfl) (by rfl) HB9.out) rfl ?_
        refine ⟨by unfold actV; rw [HA.out, HE.out], ?_⟩
        exact hid (BR.out.trans (HT9.out.below (by simp)))
  · have hb' : badA g how = false := by simpa using hb
    have HA : Hid (actA a g how = a.set g.toNat how) := hid (by simp [actA, hb'])
    have HE : Hid (actE g how = 0) := hid (by simp [actE, hb'])
    unfold badA at hb'
    simp only [Bool.or_eq_false_iff, Bool.not_eq_false', decide_eq_false_iff_not] at hb'
    obtain ⟨⟨⟨hk, hf⟩, h0⟩, h2⟩ := hb'
    obtain ⟨r1, r2⟩ := known_rng hk
    obtain ⟨k, hgk⟩ := Int.eq_ofNat_of_zero_le (show 0 ≤ g by omega)
    have ek : g.toNat = k := by omega
    rw [ek] at HA
    have HK := hid hk
    have HX := hid hf
    have hat := arr_at ha.out hk hgk
    subst hgk
    have h4 : (k : Int) < 32 := by omega
    clear hb hk hf ek
    have hne : w.heap.size ≠ w.heap.size + 1 := by omega
    have X0 : Box ((w.alloc (.cells (arr a) 109)).alloc (.cells (arr zero32) 109)) w.heap.size 109 (arr a) := box_below (Box.new w 109 (arr a)) ((Below.refl _ _).alloc (Nat.le_refl _) _)
    rw [zero_arr] at X0
    have c0 := (X0.cell k).trans hat
    have f0 := X0.frozen k
    have HS : Hid (Box ((w.alloc (.cells ((arr a).setIfInBounds k (.int .i64 how)) 109)).alloc (.cells (arr zero32) 109)) w.heap.size 109 (arr (a.set k how))) := hid (by
      rw [← arr_set]
      exact box_below (Box.new w 109 _) ((Below.refl _ _).alloc (Nat.le_refl _) _))
    have HL : Hid ((a.set k how).length = 32) := hid (by simpa using ha.out)
    have HR2 := hid (Box.new (w.alloc (.cells ((arr a).setIfInBounds k (.int .i64 how)) 109)) 109 (arr zero32))
    have BR2 := B2 (.cells ((arr a).setIfInBounds k (.int .i64 how)) 109) (.cells (arr zero32) 109)
    rw [zero_arr, World.size_alloc] at HR2
    rw [zero_arr] at HS BR2
    clear X0 hat
    go_enter Tryz.func66, Tryz.ntmps66
    go_wp2_with (first
      | (refine bxP (by rfl) _ (by rfl) _ (by rfl) ?_
         intro _)
      | (go_at_call 82
         (with_reducible refine (isSig_b (H2 _ _) HK).mono ?_)
         rintro e w1 ⟨rfl, rfl⟩)
      | (go_at_call 83
         (with_reducible refine (fix_any _ HX).mono ?_)
         rintro e w1 ⟨rfl, rfl⟩)
      | (refine ldP (by rfl) _ (by rfl) _ (by rfl) (a.set k how) HS HL ?_)
      | (refine stP (by rfl) _ _ (by rfl) _ (by rfl) (a.set k how) HL (by rfl) _ HR2 (by rfl) ?_
         intro w9 HB9 HT9))
    refine bodyPost_ret (v := .tuple #[.agg (arr (a.set k how)), .int .i64 0]) (results2P rfl _ _ _ (a.set k how) HL.out _ (by rfl) (by rfl) HB9.out) rfl ?_
    refine ⟨by unfold actV; rw [HA.out, HE.out], ?_⟩
    exact hid (BR2.out.trans (HT9.out.below (by simp)))
end
end Go.Proofs.YteeienmigoebmaaGreatDoor.L18
