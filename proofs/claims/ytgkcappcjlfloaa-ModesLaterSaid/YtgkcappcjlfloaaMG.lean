import Derived.Test.YtgkcappcjlfloaaMF
namespace Go.Proofs.Ytgkcappcjlfloaa
open Go.RowKit

theorem flagr_b (w : World) {op : Int} {b : Bool} (hg : flagB op = b) : Calls Try.prog 30 #[.int .i64 op] w fun e w' => e = .returned (.bool b) ∧ w' = w := by
  subst hg
  exact flagr_any w op
theorem hasr_b (w : World) (t : Tm) (ht : t.Ok) (op : Int) {b : Bool} (hb : hasN t.f op = b) : Calls Try.prog 13 #[.agg t.cs, .int .i64 op] w fun e w' => e = .returned (.bool b) ∧ Hid (Below w.heap.size w w') := by
  subst hb
  exact hasr_any w t ht op
theorem add_v {f : Nat} (hf : f < 18446744073709551616) {op : Int} (hg : flagB op = true) (h : hasN f op = false) : IntKind.u64.wrap ((f : Int) + bitV op) = ((setN f op true : Nat) : Int) := by
  obtain ⟨h1, h2⟩ := setN_add hf hg h
  rw [← h1, IntKind.wrap_u64]
  unfold bitV
  omega
theorem sub_v {f : Nat} (hf : f < 18446744073709551616) {op : Int} (hg : flagB op = true) (h : hasN f op = true) : IntKind.u64.wrap ((f : Int) - bitV op) = ((setN f op false : Nat) : Int) := by
  obtain ⟨h1, h2⟩ := setN_sub hf hg h
  unfold bitV
  rw [← h1, IntKind.wrap_u64]
  clear h1
  generalize 2 ^ kb op = z at h2 ⊢
  omega
theorem setT_same {t : Tm} (ht : t.Ok) {op : Int} {on : Bool} (h : hasN t.f op = on) : setT t op on = t := by simp [setT, setN_same ht.f h]
set_option maxRecDepth 100000 in
set_option maxHeartbeats 2000000 in
theorem setr_any (w : World) (t : Tm) (ht : t.Ok) (op : Int) (on : Bool) : Calls Try.prog 15 #[.agg t.cs, .int .i64 op, .bool on] w fun e w' => e = .returned (.agg (setT t op on).cs) ∧ Hid (Below w.heap.size w w') := by
  have hs := cs_size ht.len
  have hl := ht.len
  have H0 := hid (Pair.new w t)
  have hz : Hid (Tm.zero.cs.size = 24) := hid (cs_size rfl)
  cases hg : flagB op
  · have he : Hid (setT t op on = t) := hid (setT_no hg)
    go_enter Try.func15, Try.ntmps15
    go_wp2_with (first
      | (refine bx26 (by rfl) _ (by rfl) _ (by rfl) hs ?_
         intro _)
      | (go_at_call 30
         (with_reducible refine (flagr_b _ hg).mono ?_)
         rintro e u1 ⟨rfl, rfl⟩)
      | (refine ld26 (by rfl) _ (by rfl) _ (by rfl) t.cs H0.out.boxT hs ?_)
      | (refine st26 (by rfl) _ _ (by rfl) _ (by rfl) t hl (by rfl) _ H0.out.boxR hz.out ?_
         intro u2 hb2 ht2
         have H2 := hid (H0.out.turnR ht2.out hb2.out)))
    refine bodyPost_ret (results26 rfl _ _ _ t hl rfl H2.out.boxR) rfl ?_
    exact ⟨by rw [he.out], hid H2.out.bel⟩
  · cases on
    · cases hh : hasN t.f op
      · have he : Hid (setT t op false = t) := hid (setT_same ht hh)
        go_enter Try.func15, Try.ntmps15
        go_wp2_with (first
          | (refine bx26 (by rfl) _ (by rfl) _ (by rfl) hs ?_
             intro _)
          | (go_at_call 30
             (with_reducible refine (flagr_b _ hg).mono ?_)
             rintro e u1 ⟨rfl, rfl⟩)
          | (refine ld26 (by rfl) _ (by rfl) _ (by rfl) t.cs H0.out.boxT hs ?_)
          | (go_at_call 13
             (with_reducible refine (hasr_b _ t ht op hh).mono ?_)
             rintro e u1 ⟨rfl, K1⟩
             have H1 := hid (H0.out.grow K1.out)
             clear H0 K1)
          | (refine ld26 (by rfl) _ (by rfl) _ (by rfl) t.cs H1.out.boxT hs ?_)
          | (refine st26 (by rfl) _ _ (by rfl) _ (by rfl) t hl (by rfl) _ H1.out.boxR hz.out ?_
             intro u2 hb2 ht2
             have H2 := hid (H1.out.turnR ht2.out hb2.out)))
        refine bodyPost_ret (results26 rfl _ _ _ t hl rfl H2.out.boxR) rfl ?_
        exact ⟨by rw [he.out], hid H2.out.bel⟩
      · have hv := sub_v ht.f hg hh
        have hl2 : (setT t op false).c.length = 19 := hl
        go_enter Try.func15, Try.ntmps15
        go_wp2_with (first
          | (refine bx26 (by rfl) _ (by rfl) _ (by rfl) hs ?_
             intro _)
          | (go_at_call 30
             (with_reducible refine (flagr_b _ hg).mono ?_)
             rintro e u1 ⟨rfl, rfl⟩)
          | (refine ld26 (by rfl) _ (by rfl) _ (by rfl) t.cs H0.out.boxT hs ?_)
          | (go_at_call 13
             (with_reducible refine (hasr_b _ t ht op hh).mono ?_)
             rintro e u1 ⟨rfl, K1⟩
             have H1 := hid (H0.out.grow K1.out)
             clear H0 K1
             have c19 := H1.out.c19 hl
             have f19 := H1.out.boxT.frozen 19))
        have H2 : Hid (Pair w (u1.setCell ⟨w.heap.size, 19, none⟩ (.int .u64 ((setN t.f op false : Nat) : Int))).drew w.heap.size (w.heap.size + 1) (setT t op false) Tm.zero) := hid (H1.out.setF hl _).drew
        go_region_law (first | (go_simp; go_at_call 31; (with_reducible refine (bitr_any _ op hg).mono ?_); rintro e u2 ⟨rfl, rfl⟩))
        all_goals
          try rw [hv]
          generalize (World.setCell _ _ _).drew = u3 at H2 ⊢
          go_wp2_with (first
            | (refine ld26 (by rfl) _ (by rfl) _ (by rfl) (setT t op false).cs H2.out.boxT (cs_size hl2) ?_)
            | (refine st26 (by rfl) _ _ (by rfl) _ (by rfl) (setT t op false) hl2 (by rfl) _ H2.out.boxR hz.out ?_
               intro u4 hb4 ht4
               have H4 := hid (H2.out.turnR ht4.out hb4.out)))
          refine bodyPost_ret (results26 rfl _ _ _ (setT t op false) hl2 rfl H4.out.boxR) rfl ?_
          exact ⟨rfl, hid H4.out.bel⟩
    · cases hh : hasN t.f op
      · have hv := add_v ht.f hg hh
        have hl2 : (setT t op true).c.length = 19 := hl
        go_enter Try.func15, Try.ntmps15
        go_wp2_with (first
          | (refine bx26 (by rfl) _ (by rfl) _ (by rfl) hs ?_
             intro _)
          | (go_at_call 30
             (with_reducible refine (flagr_b _ hg).mono ?_)
             rintro e u1 ⟨rfl, rfl⟩)
          | (refine ld26 (by rfl) _ (by rfl) _ (by rfl) t.cs H0.out.boxT hs ?_)
          | (go_at_call 13
             (with_reducible refine (hasr_b _ t ht op hh).mono ?_)
             rintro e u1 ⟨rfl, K1⟩
             have H1 := hid (H0.out.grow K1.out)
             clear H0 K1
             have c19 := H1.out.c19 hl
             have f19 := H1.out.boxT.frozen 19))
        have H2 : Hid (Pair w (u1.setCell ⟨w.heap.size, 19, none⟩ (.int .u64 ((setN t.f op true : Nat) : Int))).drew w.heap.size (w.heap.size + 1) (setT t op true) Tm.zero) := hid (H1.out.setF hl _).drew
        go_region_law (first | (go_simp; go_at_call 31; (with_reducible refine (bitr_any _ op hg).mono ?_); rintro e u2 ⟨rfl, rfl⟩))
        all_goals
          try rw [hv]
          generalize (World.setCell _ _ _).drew = u3 at H2 ⊢
          go_wp2_with (first
            | (refine ld26 (by rfl) _ (by rfl) _ (by rfl) (setT t op true).cs H2.out.boxT (cs_size hl2) ?_)
            | (refine st26 (by rfl) _ _ (by rfl) _ (by rfl) (setT t op true) hl2 (by rfl) _ H2.out.boxR hz.out ?_
               intro u4 hb4 ht4
               have H4 := hid (H2.out.turnR ht4.out hb4.out)))
          refine bodyPost_ret (results26 rfl _ _ _ (setT t op true) hl2 rfl H4.out.boxR) rfl ?_
          exact ⟨rfl, hid H4.out.bel⟩
      · have he : Hid (setT t op true = t) := hid (setT_same ht hh)
        go_enter Try.func15, Try.ntmps15
        go_wp2_with (first
          | (refine bx26 (by rfl) _ (by rfl) _ (by rfl) hs ?_
             intro _)
          | (go_at_call 30
             (with_reducible refine (flagr_b _ hg).mono ?_)
             rintro e u1 ⟨rfl, rfl⟩)
          | (refine ld26 (by rfl) _ (by rfl) _ (by rfl) t.cs H0.out.boxT hs ?_)
          | (go_at_call 13
             (with_reducible refine (hasr_b _ t ht op hh).mono ?_)
             rintro e u1 ⟨rfl, K1⟩
             have H1 := hid (H0.out.grow K1.out)
             clear H0 K1)
          | (refine ld26 (by rfl) _ (by rfl) _ (by rfl) t.cs H1.out.boxT hs ?_)
          | (refine st26 (by rfl) _ _ (by rfl) _ (by rfl) t hl (by rfl) _ H1.out.boxR hz.out ?_
             intro u2 hb2 ht2
             have H2 := hid (H1.out.turnR ht2.out hb2.out)))
        refine bodyPost_ret (results26 rfl _ _ _ t hl rfl H2.out.boxR) rfl ?_
        exact ⟨by rw [he.out], hid H2.out.bel⟩
end Go.Proofs.Ytgkcappcjlfloaa
