import Derived.Test.YthaecflakefklaaFLA
namespace Go.Proofs.Ythaecflakefklaa
open Go.RowKit

/-! Layer 15: the document's Mark. -/
theorem slb_none (w : World) : SlB w w.heap.size none 0 [] := ⟨Nat.le_refl _, Nat.zero_le _, fun _ => rfl, Lies.nil_⟩
def RetM (w : World) (r : (Bool × Bool) × List UInt8) (e : Ending) (w' : World) : Prop := ∃ A n c, e = .returned (.tuple #[.agg #[.bool r.1.1, .bool r.1.2], .slice A n c]) ∧ Hid (r.2.length = n) ∧ Hid (SlB w' w'.heap.size A c r.2) ∧ Hid (Below w.heap.size w w')
theorem st2_others (W : World) (g : Nat) (a b : Value) : ∀ x, x ≠ g → ((W.setCell ⟨g, 0, none⟩ a).setCell ⟨g, 1, none⟩ b).heap[x]? = W.heap[x]? := fun x hx =>
  (heap_setCell_other _ ⟨g, 1, none⟩ x b hx).trans (heap_setCell_other W ⟨g, 0, none⟩ x a hx)
/-- A flow's bools are no bytes: what is stored to them leaves bytes as they are. -/
theorem slb_flow {W W' : World} {g c : Nat} {A : Option Addr} {bs : List UInt8} {x y : Bool} (h : Hid (SlB W W.heap.size A c bs)) (k : ∀ b, b ≠ g → W'.heap[b]? = W.heap[b]?) (hb : Box W g 33 #[.bool x, .bool y]) (hz : W'.heap.size = W.heap.size := by simp [World.setCell]) : SlB W' W'.heap.size A c bs := by
  refine ⟨h.out.1, h.out.2.1, h.out.2.2.1, fun hn => ?_⟩
  obtain ⟨b, o, hA, hlt, hc⟩ := h.out.2.2.2 hn
  refine ⟨b, o, hA, by rw [hz]; exact hlt, fun j u hu => ?_⟩
  have h1 := hc j u hu
  by_cases e : b = g
  · subst e
    exfalso
    rw [hb.cell] at h1
    obtain ⟨c0, _, rfl⟩ : ∃ c0 : UInt8, c0 ∈ bs ∧ u = .int .u8 (c0.toNat : Int) := by
      have := List.mem_of_getElem? hu
      simp only [bv, List.mem_map] at this
      obtain ⟨c0, h2, h3⟩ := this
      exact ⟨c0, h2, h3.symm⟩
    rcases (by omega : o + j = 0 ∨ o + j = 1 ∨ 2 ≤ o + j) with h4 | h4 | h4
    · rw [h4] at h1; cases h1
    · rw [h4] at h1; cases h1
    · rw [Array.getElem?_eq_none (by simpa using h4)] at h1; cases h1
  · have := k b e
    unfold World.cell? at h1 ⊢
    rw [this]
    exact h1
attribute [local go_sem ↓] wp_ld26 Go.wp_at_zero Go.wp_at_succ
attribute [local go_sem] isP_v blkV_v aggV_v
set_option maxRecDepth 100000 in
set_option maxHeartbeats 4000000 in
theorem markr_any (w : World) (t : Tm) (ht : t.Ok) (s h : Bool) (used low high : Int) {r : (Bool × Bool) × List UInt8} (hr : Hid (markF t s h used low high = r)) :
    Calls Try.prog 11 #[.agg t.cs, .agg #[.bool s, .bool h], .int .i64 used, .int .i64 low, .int .i64 high] w (RetM w r) := by
  have hs := cs_size ht.len
  have H0 := hid (T3.new w t s h)
  cases h
  · cases h40 : hasN t.f 40
    · have hv : markF t s false used low high = ((s, false), []) := by unfold markF; simp [h40]
      obtain rfl : ((s, false), []) = r := hv.symm.trans hr.out
      clear hv
      go_enter Try.func11, Try.ntmps11
      go_wp2_with (first
        | (refine bx26 (by rfl) _ (by rfl) _ (by rfl) hs ?_
           intro _)
        | (refine ld26 (by rfl) _ (by rfl) _ (by rfl) t.cs H0.out.bt hs ?_)
        | (go_at_call 20
           (with_reducible refine (hasr_b _ t ht _ h40).mono ?_)
           rintro e v1 ⟨rfl, k1⟩
           have H1 := hid (H0.out.grow k1.out)
           have f0 := H1.out.f0
           have f1 := H1.out.f1
           have r0 := H1.out.r0
           have r1 := H1.out.r1
           have z0 := H1.out.bf.frozen 0
           have z1 := H1.out.bf.frozen 1
           have y0 := H1.out.br.frozen 0
           have y1 := H1.out.br.frozen 1))
      have H4 := hid (H1.out.res s false)
      have R0 := H4.out.r0
      have R1 := H4.out.r1
      generalize World.setCell _ _ _ = v4 at H4 R0 R1 ⊢
      refine bodyPost_ret (v := .tuple #[.agg #[.bool s, .bool false], .slice none 0 0]) (by simp [results, Try.results11, R0, R1, go_sem]) rfl ?_
      exact ⟨none, 0, 0, rfl, hid rfl, hid (slb_none _), hid H4.out.bel⟩
    · by_cases hu : high ≤ used
      · have hv : markF t s false used low high = ((s, true), toldF t 9) := by unfold markF; simp [h40, hu]
        obtain rfl : ((s, true), toldF t 9) = r := hv.symm.trans hr.out
        clear hv
        obtain ⟨l, hl⟩ : ∃ l, Hid (toldF t 9 = l) := ⟨_, hid rfl⟩
        go_enter Try.func11, Try.ntmps11
        go_wp2_with (first
          | (refine bx26 (by rfl) _ (by rfl) _ (by rfl) hs ?_
             intro _)
          | (refine ld26 (by rfl) _ (by rfl) _ (by rfl) t.cs H0.out.bt hs ?_)
          | (go_at_call 20
             (with_reducible refine (hasr_b _ t ht _ h40).mono ?_)
             rintro e v1 ⟨rfl, k1⟩
             have H1 := hid (H0.out.grow k1.out)
             have f0 := H1.out.f0
             have f1 := H1.out.f1
             have r0 := H1.out.r0
             have r1 := H1.out.r1
             have z0 := H1.out.bf.frozen 0
             have z1 := H1.out.bf.frozen 1
             have y0 := H1.out.br.frozen 0
             have y1 := H1.out.br.frozen 1))
        have H1d := hid H1.out.drew
        clear f0 f1 r0 r1 z0 z1 y0 y1
        have f0 := H1d.out.f0
        have f1 := H1d.out.f1
        have r0 := H1d.out.r0
        have r1 := H1d.out.r1
        have z0 := H1d.out.bf.frozen 0
        have z1 := H1d.out.bf.frozen 1
        have y0 := H1d.out.br.frozen 0
        have y1 := H1d.out.br.frozen 1
        obtain ⟨q1, q2⟩ := box_isB H1d.out.bt ht.len
        go_region_law (first
          | (go_simp
             go_at_call 23
             (with_reducible refine (toldr_any _ t ht 9 hl).mono ?_)
             rintro e v2 ⟨A, n, c, rfl, hn, hS, k2⟩
             have H2 := hid (H1d.out.grow k2.out)
             have f0' := H2.out.f0
             have y0' := H2.out.br.frozen 0
             have y1' := H2.out.br.frozen 1
             have r0' := H2.out.r0
             have r1' := H2.out.r1))
        all_goals
          obtain ⟨g, hg⟩ : ∃ g, w.heap.size + 1 + 1 = g := ⟨_, rfl⟩
          have H4 := hid (H2.out.res s true)
          have R0 := H4.out.r0
          have R1 := H4.out.r1
          have k4 : Hid (Below w.heap.size v2 ((v2.setCell ⟨w.heap.size + 1 + 1, 0, none⟩ (.bool s)).setCell ⟨w.heap.size + 1 + 1, 1, none⟩ (.bool true))) := hid (((Turn.setCell v2 (w.heap.size + 1 + 1) 0 (.bool s)).below (by omega)).trans ((Turn.setCell _ (w.heap.size + 1 + 1) 1 (.bool true)).below (by omega)))
          have S4 := slb_flow hS (st2_others v2 (w.heap.size + 1 + 1) (.bool s) (.bool true)) (H2.out.br)
          clear hg k4
          generalize World.setCell _ _ _ = v4 at H4 R0 R1 S4 ⊢
          try go_wp2
          refine bodyPost_ret (v := .tuple #[.agg #[.bool s, .bool true], .slice A n c]) (by simp [results, Try.results11, R0, R1, go_sem]) rfl ?_
          exact ⟨A, n, c, rfl, hid (by rw [hl.out]; exact hn.out), hid (by rw [hl.out]; exact S4), hid H4.out.bel⟩
      · have hv : markF t s false used low high = ((s, false), []) := by unfold markF; simp [h40, hu]
        obtain rfl : ((s, false), []) = r := hv.symm.trans hr.out
        clear hv
        go_enter Try.func11, Try.ntmps11
        go_wp2_with (first
          | (refine bx26 (by rfl) _ (by rfl) _ (by rfl) hs ?_
             intro _)
          | (refine ld26 (by rfl) _ (by rfl) _ (by rfl) t.cs H0.out.bt hs ?_)
          | (go_at_call 20
             (with_reducible refine (hasr_b _ t ht _ h40).mono ?_)
             rintro e v1 ⟨rfl, k1⟩
             have H1 := hid (H0.out.grow k1.out)
             have f0 := H1.out.f0
             have f1 := H1.out.f1
             have r0 := H1.out.r0
             have r1 := H1.out.r1
             have z0 := H1.out.bf.frozen 0
             have z1 := H1.out.bf.frozen 1
             have y0 := H1.out.br.frozen 0
             have y1 := H1.out.br.frozen 1))
        have H4 := hid (H1.out.res s false)
        have R0 := H4.out.r0
        have R1 := H4.out.r1
        generalize World.setCell _ _ _ = v4 at H4 R0 R1 ⊢
        refine bodyPost_ret (v := .tuple #[.agg #[.bool s, .bool false], .slice none 0 0]) (by simp [results, Try.results11, R0, R1, go_sem]) rfl ?_
        exact ⟨none, 0, 0, rfl, hid rfl, hid (slb_none _), hid H4.out.bel⟩
  · by_cases hu : low < used
    · cases h40 : hasN t.f 40
      all_goals
        have hv : markF t s true used low high = ((s, true), []) := by unfold markF; simp [hu]
        obtain rfl : ((s, true), []) = r := hv.symm.trans hr.out
        clear hv
        go_enter Try.func11, Try.ntmps11
        go_wp2_with (first
          | (refine bx26 (by rfl) _ (by rfl) _ (by rfl) hs ?_
             intro _)
          | (refine ld26 (by rfl) _ (by rfl) _ (by rfl) t.cs H0.out.bt hs ?_)
          | (go_at_call 20
             (with_reducible refine (hasr_b _ t ht _ h40).mono ?_)
             rintro e v1 ⟨rfl, k1⟩
             have H1 := hid (H0.out.grow k1.out)
             have f0 := H1.out.f0
             have f1 := H1.out.f1
             have r0 := H1.out.r0
             have r1 := H1.out.r1
             have z0 := H1.out.bf.frozen 0
             have z1 := H1.out.bf.frozen 1
             have y0 := H1.out.br.frozen 0
             have y1 := H1.out.br.frozen 1))
        have H4 := hid (H1.out.res s true)
        have R0 := H4.out.r0
        have R1 := H4.out.r1
        generalize World.setCell _ _ _ = v4 at H4 R0 R1 ⊢
        refine bodyPost_ret (v := .tuple #[.agg #[.bool s, .bool true], .slice none 0 0]) (by simp [results, Try.results11, R0, R1, go_sem]) rfl ?_
        exact ⟨none, 0, 0, rfl, hid rfl, hid (slb_none _), hid H4.out.bel⟩
    · cases h40 : hasN t.f 40
      · have hv : markF t s true used low high = ((s, false), []) := by unfold markF; simp [h40, hu]
        obtain rfl : ((s, false), []) = r := hv.symm.trans hr.out
        clear hv
        go_enter Try.func11, Try.ntmps11
        go_wp2_with (first
          | (refine bx26 (by rfl) _ (by rfl) _ (by rfl) hs ?_
             intro _)
          | (refine ld26 (by rfl) _ (by rfl) _ (by rfl) t.cs H0.out.bt hs ?_)
          | (go_at_call 20
             (with_reducible refine (hasr_b _ t ht _ h40).mono ?_)
             rintro e v1 ⟨rfl, k1⟩
             have H1 := hid (H0.out.grow k1.out)
             have f0 := H1.out.f0
             have f1 := H1.out.f1
             have r0 := H1.out.r0
             have r1 := H1.out.r1
             have z0 := H1.out.bf.frozen 0
             have z1 := H1.out.bf.frozen 1
             have y0 := H1.out.br.frozen 0
             have y1 := H1.out.br.frozen 1))
        have H4 := hid (H1.out.res s false)
        have R0 := H4.out.r0
        have R1 := H4.out.r1
        generalize World.setCell _ _ _ = v4 at H4 R0 R1 ⊢
        refine bodyPost_ret (v := .tuple #[.agg #[.bool s, .bool false], .slice none 0 0]) (by simp [results, Try.results11, R0, R1, go_sem]) rfl ?_
        exact ⟨none, 0, 0, rfl, hid rfl, hid (slb_none _), hid H4.out.bel⟩
      · have hv : markF t s true used low high = ((s, false), toldF t 8) := by unfold markF; simp [h40, hu]
        obtain rfl : ((s, false), toldF t 8) = r := hv.symm.trans hr.out
        clear hv
        obtain ⟨l, hl⟩ : ∃ l, Hid (toldF t 8 = l) := ⟨_, hid rfl⟩
        go_enter Try.func11, Try.ntmps11
        go_wp2_with (first
          | (refine bx26 (by rfl) _ (by rfl) _ (by rfl) hs ?_
             intro _)
          | (refine ld26 (by rfl) _ (by rfl) _ (by rfl) t.cs H0.out.bt hs ?_)
          | (go_at_call 20
             (with_reducible refine (hasr_b _ t ht _ h40).mono ?_)
             rintro e v1 ⟨rfl, k1⟩
             have H1 := hid (H0.out.grow k1.out)
             have f0 := H1.out.f0
             have f1 := H1.out.f1
             have r0 := H1.out.r0
             have r1 := H1.out.r1
             have z0 := H1.out.bf.frozen 0
             have z1 := H1.out.bf.frozen 1
             have y0 := H1.out.br.frozen 0
             have y1 := H1.out.br.frozen 1))
        have H1d := hid H1.out.drew
        clear f0 f1 r0 r1 z0 z1 y0 y1
        have f0 := H1d.out.f0
        have f1 := H1d.out.f1
        have r0 := H1d.out.r0
        have r1 := H1d.out.r1
        have z0 := H1d.out.bf.frozen 0
        have z1 := H1d.out.bf.frozen 1
        have y0 := H1d.out.br.frozen 0
        have y1 := H1d.out.br.frozen 1
        obtain ⟨q1, q2⟩ := box_isB H1d.out.bt ht.len
        go_region_law (first
          | (go_simp
             go_at_call 23
             (with_reducible refine (toldr_any _ t ht 8 hl).mono ?_)
             rintro e v2 ⟨A, n, c, rfl, hn, hS, k2⟩
             have H2 := hid (H1d.out.grow k2.out)
             have f0' := H2.out.f0
             have y0' := H2.out.br.frozen 0
             have y1' := H2.out.br.frozen 1
             have r0' := H2.out.r0
             have r1' := H2.out.r1))
        all_goals
          obtain ⟨g, hg⟩ : ∃ g, w.heap.size + 1 + 1 = g := ⟨_, rfl⟩
          have H4 := hid (H2.out.res s false)
          have R0 := H4.out.r0
          have R1 := H4.out.r1
          have k4 : Hid (Below w.heap.size v2 ((v2.setCell ⟨w.heap.size + 1 + 1, 0, none⟩ (.bool s)).setCell ⟨w.heap.size + 1 + 1, 1, none⟩ (.bool false))) := hid (((Turn.setCell v2 (w.heap.size + 1 + 1) 0 (.bool s)).below (by omega)).trans ((Turn.setCell _ (w.heap.size + 1 + 1) 1 (.bool false)).below (by omega)))
          have S4 := slb_flow hS (st2_others v2 (w.heap.size + 1 + 1) (.bool s) (.bool false)) (H2.out.br)
          clear hg k4
          generalize World.setCell _ _ _ = v4 at H4 R0 R1 S4 ⊢
          try go_wp2
          refine bodyPost_ret (v := .tuple #[.agg #[.bool s, .bool false], .slice A n c]) (by simp [results, Try.results11, R0, R1, go_sem]) rfl ?_
          exact ⟨A, n, c, rfl, hid (by rw [hl.out]; exact hn.out), hid (by rw [hl.out]; exact S4), hid H4.out.bel⟩
end Go.Proofs.Ythaecflakefklaa
