import Derived.Test.YtjncahcigbdbgaaMG
namespace Go.Proofs.Ytjncahcigbdbgaa
open Go.RowKit

set_option maxRecDepth 100000 in
set_option maxHeartbeats 2000000 in
theorem setr_any (w : World) (t : Tm) (ht : t.Ok) (op : Int) (on : Bool) : Calls Try.prog 23 #[.agg t.cs, .int .i64 op, .bool on] w fun e w' => e = .returned (.agg (setT t op on).cs) ∧ Hid (Below w.heap.size w w') := by
  have hs := cs_size ht.len
  have hl := ht.len
  have H0 := hid (Pair.new w t)
  have hz : Hid (Tm.zero.cs.size = 24) := hid (cs_size rfl)
  cases hg : flagB op
  · have he : Hid (setT t op on = t) := hid (setT_no hg)
    go_enter Try.func23, Try.ntmps23
    go_wp2_with (first
      | (refine bx26 (by rfl) _ (by rfl) _ (by rfl) hs ?_
         intro _)
      | (go_at_call 32
         (with_reducible refine (flagr_b _ hg).mono ?_)
         rintro e u1 ⟨rfl, rfl⟩)
      | (refine ld26 (by rfl) _ (by rfl) _ (by rfl) t.cs H0.out.boxT hs ?_)
      | (refine st26 (by rfl) _ _ (by rfl) _ (by rfl) t hl (by rfl) _ H0.out.boxR hz.out ?_
         intro u2 hb2 ht2
         have H2 := hid (H0.out.turnR ht2.out hb2.out)))
    refine bodyPost_ret (results26 rfl _ _ _ t hl rfl H2.out.boxR) rfl ?_
    exact ⟨by rw [he.out], hid H2.out.bel⟩
  · cases on
    · cases hh : hasN t.f op
      · have he : Hid (setT t op false = t) := hid (setT_same ht hh)
        go_enter Try.func23, Try.ntmps23
        go_wp2_with (first
          | (refine bx26 (by rfl) _ (by rfl) _ (by rfl) hs ?_
             intro _)
          | (go_at_call 32
             (with_reducible refine (flagr_b _ hg).mono ?_)
             rintro e u1 ⟨rfl, rfl⟩)
          | (refine ld26 (by rfl) _ (by rfl) _ (by rfl) t.cs H0.out.boxT hs ?_)
          | (go_at_call 21
             (with_reducible refine (hasr_b _ t ht op hh).mono ?_)
             rintro e u1 ⟨rfl, K1⟩
             have H1 := hid (H0.out.grow K1.out)
             clear H0 K1)
          | (refine ld26 (by rfl) _ (by rfl) _ (by rfl) t.cs H1.out.boxT hs ?_)
          | (refine st26 (by rfl) _ _ (by rfl) _ (by rfl) t hl (by rfl) _ H1.out.boxR hz.out ?_
             intro u2 hb2 ht2
             have H2 := hid (H1.out.turnR ht2.out hb2.out)))
        refine bodyPost_ret (results26 rfl _ _ _ t hl rfl H2.out.boxR) rfl ?_
        exact ⟨by rw [he.out], hid H2.out.bel⟩
      · have hv := sub_v ht.f hg hh
        have hl2 : (setT t op false).c.length = 19 := hl
        go_enter Try.func23, Try.ntmps23
        go_wp2_with (first
          | (refine bx26 (by rfl) _ (by rfl) _ (by rfl) hs ?_
             intro _)
          | (go_at_call 32
             (with_reducible refine (flagr_b _ hg).mono ?_)
             rintro e u1 ⟨rfl, rfl⟩)
          | (refine ld26 (by rfl) _ (by rfl) _ (by rfl) t.cs H0.out.boxT hs ?_)
          | (go_at_call 21
             (with_reducible refine (hasr_b _ t ht op hh).mono ?_)
             rintro e u1 ⟨rfl, K1⟩
             have H1 := hid (H0.out.grow K1.out)
             clear H0 K1
             have c19 := H1.out.c19 hl
             have f19 := H1.out.boxT.frozen 19))
        have H2 : Hid (Pair w (u1.setCell ⟨w.heap.size, 19, none⟩ (.int .u64 ((setN t.f op false : Nat) : Int))).drew w.heap.size (w.heap.size + 1) (setT t op false) Tm.zero) := hid (H1.out.setF hl _).drew
        go_region_law (first | (go_simp; go_at_call 33; (with_reducible refine (bitr_any _ op hg).mono ?_); rintro e u2 ⟨rfl, rfl⟩))
        all_goals
          try rw [hv]
          generalize (World.setCell _ _ _).drew = u3 at H2 ⊢
          go_wp2_with (first
            | (refine ld26 (by rfl) _ (by rfl) _ (by rfl) (setT t op false).cs H2.out.boxT (cs_size hl2) ?_)
            | (refine st26 (by rfl) _ _ (by rfl) _ (by rfl) (setT t op false) hl2 (by rfl) _ H2.out.boxR hz.out ?_
               intro u4 hb4 ht4
               have H4 := hid (H2.out.turnR ht4.out hb4.out)))
          refine bodyPost_ret (results26 rfl _ _ _ (setT t op false) hl2 rfl H4.out.boxR) rfl ?_
          exact ⟨rfl, hid H4.out.bel⟩
    · cases hh : hasN t.f op
      · have hv := add_v ht.f hg hh
        have hl2 : (setT t op true).c.length = 19 := hl
        go_enter Try.func23, Try.ntmps23
        go_wp2_with (first
          | (refine bx26 (by rfl) _ (by rfl) _ (by rfl) hs ?_
             intro _)
          | (go_at_call 32
             (with_reducible refine (flagr_b _ hg).mono ?_)
             rintro e u1 ⟨rfl, rfl⟩)
          | (refine ld26 (by rfl) _ (by rfl) _ (by rfl) t.cs H0.out.boxT hs ?_)
          | (go_at_call 21
             (with_reducible refine (hasr_b _ t ht op hh).mono ?_)
             rintro e u1 ⟨rfl, K1⟩
             have H1 := hid (H0.out.grow K1.out)
             clear H0 K1
             have c19 := H1.out.c19 hl
             have f19 := H1.out.boxT.frozen 19))
        have H2 : Hid (Pair w (u1.setCell ⟨w.heap.size, 19, none⟩ (.int .u64 ((setN t.f op true : Nat) : Int))).drew w.heap.size (w.heap.size + 1) (setT t op true) Tm.zero) := hid (H1.out.setF hl _).drew
        go_region_law (first | (go_simp; go_at_call 33; (with_reducible refine (bitr_any _ op hg).mono ?_); rintro e u2 ⟨rfl, rfl⟩))
        all_goals
          try rw [hv]
          generalize (World.setCell _ _ _).drew = u3 at H2 ⊢
          go_wp2_with (first
            | (refine ld26 (by rfl) _ (by rfl) _ (by rfl) (setT t op true).cs H2.out.boxT (cs_size hl2) ?_)
            | (refine st26 (by rfl) _ _ (by rfl) _ (by rfl) (setT t op true) hl2 (by rfl) _ H2.out.boxR hz.out ?_
               intro u4 hb4 ht4
               have H4 := hid (H2.out.turnR ht4.out hb4.out)))
          refine bodyPost_ret (results26 rfl _ _ _ (setT t op true) hl2 rfl H4.out.boxR) rfl ?_
          exact ⟨rfl, hid H4.out.bel⟩
      · have he : Hid (setT t op true = t) := hid (setT_same ht hh)
        go_enter Try.func23, Try.ntmps23
        go_wp2_with (first
          | (refine bx26 (by rfl) _ (by rfl) _ (by rfl) hs ?_
             intro _)
          | (go_at_call 32
             (with_reducible refine (flagr_b _ hg).mono ?_)
             rintro e u1 ⟨rfl, rfl⟩)
          | (refine ld26 (by rfl) _ (by rfl) _ (by rfl) t.cs H0.out.boxT hs ?_)
          | (go_at_call 21
             (with_reducible refine (hasr_b _ t ht op hh).mono ?_)
             rintro e u1 ⟨rfl, K1⟩
             have H1 := hid (H0.out.grow K1.out)
             clear H0 K1)
          | (refine ld26 (by rfl) _ (by rfl) _ (by rfl) t.cs H1.out.boxT hs ?_)
          | (refine st26 (by rfl) _ _ (by rfl) _ (by rfl) t hl (by rfl) _ H1.out.boxR hz.out ?_
             intro u2 hb2 ht2
             have H2 := hid (H1.out.turnR ht2.out hb2.out)))
        refine bodyPost_ret (results26 rfl _ _ _ t hl rfl H2.out.boxR) rfl ?_
        exact ⟨by rw [he.out], hid H2.out.bel⟩
theorem setr_b (w : World) {t t' : Tm} (ht : t.Ok) {op : Int} {on : Bool} (h : setT t op on = t') : Calls Try.prog 23 #[.agg t.cs, .int .i64 op, .bool on] w fun e w' => e = .returned (.agg t'.cs) ∧ Hid (Below w.heap.size w w') := by
  subst h
  exact setr_any w t ht op on
end Go.Proofs.Ytjncahcigbdbgaa
