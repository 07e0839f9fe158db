import Derived.Test.YtgkcappcjlfloaaMH
namespace Go.Proofs.Ytgkcappcjlfloaa
open Go.RowKit

theorem setr_n (w : World) (t : Tm) (ht : t.Ok) (op : Int) : Calls Try.prog 15 #[.agg t.cs, .int .i64 op, .bool false] w fun e w' => e = .returned (.agg (setT t op false).cs) ∧ Hid (Below w.heap.size w w') := setr_any w t ht op false
def clr (t : Tm) (n : Nat) : Tm := { t with f := restN t.f n }
theorem clr_ok {t : Tm} (h : t.Ok) (n : Nat) : (clr t n).Ok := ⟨h.len, restN_lt h.f n, h.i, h.o, h.m, h.s⟩
theorem rest_v {f : Nat} (hf : f < 18446744073709551616) : ((((restN f 64 : Nat) : Int) == 0) : Bool) = decide (okF f) := by
  have h := right_eq hf
  generalize restN f 64 = z at h ⊢
  by_cases hz : z = 0
  · subst hz
    have : okF f := h.2 rfl
    simp [this]
  · have : ¬ okF f := fun k => hz (h.1 k)
    simp [this, hz]
theorem pair_one {w : World} {t : Tm} : Pair w ((w.alloc (.cells t.cs 26)).alloc (.cells #[.int .u8 0, .int .u8 0, .int .u8 0, .int .u8 0, .int .u8 0, .int .u8 0, .int .u8 0, .int .u8 0, .int .u8 0, .int .u8 0, .int .u8 0, .int .u8 0, .int .u8 0, .int .u8 0, .int .u8 0, .int .u8 0, .int .u8 0, .int .u8 0, .int .u8 0, .int .u64 0, .int .u32 0, .int .u32 0, .int .i64 0, .int .i64 0] 26)) w.heap.size (w.heap.size + 1) t Tm.zero := Pair.new w t
set_option maxRecDepth 100000 in
set_option maxHeartbeats 4000000 in
theorem rightr_any (w : World) (t : Tm) (ht : t.Ok) : Calls Try.prog 19 #[.agg t.cs] w fun e w' => e = .returned (.bool (rightB t)) ∧ Hid (Below w.heap.size w w') := by
  have hs := cs_size ht.len
  have hl := ht.len
  have HB0 : Hid (Box (w.alloc (.cells t.cs 26)) w.heap.size 26 t.cs) := hid (Box.new w 26 t.cs)
  have H0 := hid (Pair.new w t)
  have hz : Hid (Tm.zero.cs.size = 24) := hid (cs_size rfl)
  have hA := rest_v ht.f
  have hC := (c0_v ht.len).2
  have hr : Hid (rightB t = (decide (okF t.f) && decide (t.c.getD 0 0 = 0) && fitsB t.m && fitsB t.s)) := hid rfl
  go_enter Try.func19, Try.ntmps19
  go_wp2_with (first
    | (refine bx26 (by rfl) _ (by rfl) _ (by rfl) hs ?_
       intro _)
    | (refine ld26 (by rfl) _ (by rfl) _ (by rfl) t.cs HB0.out hs ?_)
    | (refine st26 (by rfl) _ _ (by rfl) _ (by rfl) t hl (by rfl) _ H0.out.boxR hz.out ?_
       intro u2 hb2 ht2
       have H2 := hid (H0.out.turnR ht2.out hb2.out)
       clear H0 HB0))
  go_loopw [4] (fun i wr => ∃ n : Nat, n ≤ 64 ∧ i = .int .i64 (30 + (n : Int)) ∧ Hid (Pair w wr w.heap.size (w.heap.size + 1) t (clr t n))) (fun i _ => (94 - intOf i).toNat)
  case atStart => exact ⟨0, by omega, rfl, H2⟩
  case round =>
    obtain ⟨n, hn, rfl, H3⟩ := hrel
    clear H2 hb2 ht2
    have hcl : (clr t n).c.length = 19 := hl
    have hcs := cs_size hcl
    by_cases hlt : n < 64
    · go_wp2_with (first
        | (refine ld26 (by rfl) _ (by rfl) _ (by rfl) (clr t n).cs H3.out.boxR hcs ?_)
        | (go_at_call 15
           (with_reducible refine (setr_n _ (clr t n) (clr_ok ht n) (30 + (n : Int))).mono ?_)
           rintro e u4 ⟨rfl, K4⟩
           have H4 := hid (H3.out.grow K4.out)
           clear H3 K4)
        | (refine st26 (by rfl) _ _ (by rfl) _ (by rfl) (setT (clr t n) (30 + (n : Int)) false) hl (by rfl) _ H4.out.boxR hcs ?_
           intro u5 hb5 ht5
           have H5 := hid (H4.out.turnR ht5.out hb5.out)))
      go_roundw
      case rel => exact ⟨n + 1, by omega, by go_num, H5⟩
      case measure => simp [intOf]; omega
    · obtain rfl : n = 64 := by omega
      have c19 : wr.cell? ⟨w.heap.size + 1, 19, none⟩ = some (.int .u64 ((restN t.f 64 : Nat) : Int)) := (H3.out.boxR.cell 19).trans (cs_f hl)
      have c0 := (H3.out.boxT.cell 0).trans (c0_v hl).1
      have c22 := (H3.out.boxT.cell 22).trans (cs_m hl)
      have c23 := (H3.out.boxT.cell 23).trans (cs_s hl)
      clear hcs hcl
      generalize decide (okF t.f) = A at hA hr
      generalize decide (t.c.getD 0 0 = 0) = C at hC hr
      generalize (t.c.getD 0 0).toNat = y at c0 hC
      generalize restN t.f 64 = y2 at c19 hA
      cases A
      · skip
        go_wp2
        go_ret
        exact ⟨by rw [hr.out]; refine ret_bool ?_; rw [Bool.eq_iff_iff]; simp [fitsB]; try omega, hid H3.out.bel⟩
      · cases C
        · skip
          go_wp2
          go_ret
          exact ⟨by rw [hr.out]; refine ret_bool ?_; rw [Bool.eq_iff_iff]; simp [fitsB]; try omega, hid H3.out.bel⟩
        · rcases (by omega : t.m < 0 ∨ (0 ≤ t.m ∧ t.m ≤ 255) ∨ 255 < t.m) with hm | hm | hm
          · skip
            go_wp2
            go_ret
            exact ⟨by rw [hr.out]; refine ret_bool ?_; rw [Bool.eq_iff_iff]; simp [fitsB]; try omega, hid H3.out.bel⟩
          · rcases (by omega : t.s < 0 ∨ (0 ≤ t.s ∧ t.s ≤ 255) ∨ 255 < t.s) with hq | hq | hq
            · skip
              go_wp2
              go_ret
              exact ⟨by rw [hr.out]; refine ret_bool ?_; rw [Bool.eq_iff_iff]; simp [fitsB]; try omega, hid H3.out.bel⟩
            · skip
              go_wp2
              go_ret
              exact ⟨by rw [hr.out]; refine ret_bool ?_; rw [Bool.eq_iff_iff]; simp [fitsB]; try omega, hid H3.out.bel⟩
            · skip
              go_wp2
              go_ret
              exact ⟨by rw [hr.out]; refine ret_bool ?_; rw [Bool.eq_iff_iff]; simp [fitsB]; try omega, hid H3.out.bel⟩
          · skip
            go_wp2
            go_ret
            exact ⟨by rw [hr.out]; refine ret_bool ?_; rw [Bool.eq_iff_iff]; simp [fitsB]; try omega, hid H3.out.bel⟩
end Go.Proofs.Ytgkcappcjlfloaa
