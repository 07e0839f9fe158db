import Derived.Test.YtidgbojgdllghaaRE
namespace Go.Proofs.Ytidgbojgdllghaa
open Go.RowKit

theorem rf_store {w w3 w4 : World} {base g size l c : Nat} {A A4 : Option Addr} {v : Value} {q : List UInt8} {c4 : Nat} (hx : Box w g 42 #[.int .i64 size, v]) (hb3 : Below w.heap.size w w3) (hg : w3.grownBy w4 (Value.slice A l c).ownBlock) (hA : ∀ x, (Value.slice A l c).ownBlock = some x → w.heap.size ≤ x)
    (_hl : q.length = l + 0 ∨ True) (n : Nat) (hn : q.length = n) (ho : w4.ownsRow w.heap.size 5 1 (.slice A4 n c4) n (bv q)) (hbase : base ≤ w.heap.size) :
    (∃ ob, Rf (w4.setCell ⟨g, 1, none⟩ (.slice A4 n c4)) base g size q ob ∧ ∀ x, ob = some x → w.heap.size ≤ x) ∧ But [g] w (w4.setCell ⟨g, 1, none⟩ (.slice A4 n c4)) := by
  subst hn
  have k4 : But [] w w4 := (But.of_below hb3 []).grown hg (fun x hx => .inr (hA x hx))
  have hx4 : Box w4 g 42 #[.int .i64 size, v] := k4.box hx (by simp)
  have hlt := hx.lt
  refine ⟨⟨_, ⟨A4, c4, ?_, ?_, rfl⟩, fun x hx => (ho.lt x hx).1⟩, (k4.mono (by simp)).store (.inl (by simp)) _⟩
  · have := hx4.store 1 (.slice A4 q.length c4)
    simpa using this
  · refine own_mono ((But.refl [g] w4).store (.inl (by simp)) _ |>.own ho (fun x hx => ?_)) hbase
    have := (ho.lt x hx).1
    simp; omega

set_option maxHeartbeats 2000000 in
set_option maxRecDepth 100000 in
theorem rdrop_any (w : World) {base g size : Nat} {q : List UInt8} {ob : Option Nat} (n : Int) (hr : Hid (Rf w base g size q ob)) (hq : q.length ≤ 65536) (hbase : base ≤ w.heap.size) :
    Calls Try.prog 25 #[.pointer (some ⟨g, 0, none⟩), .int .i64 n] w fun e w' => e = .returned (.int .i64 (had n q.length)) ∧ Hid ((∃ ob, Rf w' base g size (q.drop (had n q.length)) ob ∧ ∀ x, ob = some x → w.heap.size ≤ x) ∧ But [g] w w') := by
  obtain ⟨i0, hi0, hz0, hz1, hz2⟩ := info_parts Try.info5
  have HP := rpeek_any w n hr hq
  obtain ⟨m, HM⟩ : ∃ m, Hid (had n q.length = m) := ⟨_, hid rfl⟩
  have hm := had_le n q.length
  rw [HM.out] at hm HP ⊢
  obtain ⟨A0, c0, hx, hown, _⟩ := hr.out
  obtain ⟨ql, HQL⟩ : ∃ x, Hid (q.length = x) := ⟨_, hid rfl⟩
  rw [HQL.out] at hx hown hq hm
  have HX := hid hx
  have HO := hid hown
  have hcap := own_caps hown
  have hcap2 : ql ≤ c0 := hcap.1
  have HLD : Hid ((q.drop m).length = ql - m) := by show _ = _; rw [List.length_drop, HQL.out]
  have k0 : m ≤ ql := hm
  rcases hown.2 with ⟨hv, h0⟩ | ⟨gb, cap, cur, hv, _⟩
  · injection hv with e1 e2 e3
    subst e1; subst e3; subst h0
    have hm0 : m = 0 := by omega
    subst hm0
    have HE : Hid (bv (q.drop 0) = []) := by
      show _ = _
      rw [List.eq_nil_of_length_eq_zero HQL.out]; rfl
    clear hx hown hcap hcap2
    go_enter Try.func25, Try.ntmps25
    go_wp2_with (first
      | (go_at_call 24
         ((with_reducible refine HP.mono ?_); rintro e w2 ⟨A2, c2, rfl, HO2, HB2⟩)
         have hx2 := box_below HX.out HB2.out
         have c21 := (box_below hx2 ((Below.refl _ _).alloc (Nat.le_refl _) (.cells #[] 5))).cell 1
         have HX2 := hid hx2
         clear hx2)
      | (at_builtin
         (refine wpList_app _ rfl (.tmp 11) (.tmp 17) 32 rfl w.heap.size 5 i0 _ 1 1 Try.underlying32 hi0 hz0 hz1 hz2 rfl (by decide) (some ⟨w2.heap.size, 0, none⟩) 0 0 [] rfl (lit_own (w := w2) HB2.out.size rfl) 0 none 0 0 [] rfl rfl Lies.nil_ (by simp) (by unfold maxLen; omega) (by omega) (by have := HB2.out.size; simp; omega) ?_
          intro A4 c4 w4 ho4 hg4
          have hxx := box_below HX2.out (lit_grown (w := w2) rfl hg4)
          have f41 := hxx.frozen 1
          have c41 := hxx.cell 1
          have HF := hid (rf_store (w := w) (q := q.drop 0) (base := base) (n := 0) HX.out (HB2.out.alloc HB2.out.size (.cells #[] 5)) hg4 (fun x hx => by simp [Value.ownBlock] at hx; have := HB2.out.size; omega) (.inr trivial) (by rw [HLD.out]) (by rw [HE.out]; exact ho4) hbase)
          clear ho4 hg4 hxx)))
    go_ret
    exact ⟨rfl, HF⟩
  · injection hv with e1 e2 e3
    subst e1; subst e3
    have hSL : SlB w w.heap.size (some ⟨gb, 0, none⟩) c0 q := own_slb (base := base) (_n := 0) (by rw [HQL.out]; exact hown)
    have hSD := (hSL.drop m (by rw [HQL.out]; exact hm)).2.2.2
    by_cases hcm : c0 = m
    · rw [if_pos hcm] at hSD
      have HL : Hid (∀ w', Below w.heap.size w w' → Lies w' w.heap.size (some ⟨gb, 0, none⟩) (bv (q.drop m))) := fun w' hb => hSD.below hb
      have e3 : m = ql := by omega
      have e4 : m = c0 := by omega
      clear hx hown hcap hcap2 hSL hSD
      subst e3
      subst e4
      go_enter Try.func25, Try.ntmps25
      go_wp2_with (first
        | (go_at_call 24
           ((with_reducible refine HP.mono ?_); rintro e w2 ⟨A2, c2, rfl, HO2, HB2⟩)
           have hx2 := box_below HX.out HB2.out
           have c21 := (box_below hx2 ((Below.refl _ _).alloc (Nat.le_refl _) (.cells #[] 5))).cell 1
           have HX2 := hid hx2
           clear hx2)
        | (at_builtin
           (refine wpList_app _ rfl (.tmp 11) (.tmp 17) 32 rfl w.heap.size 5 i0 _ 1 1 Try.underlying32 hi0 hz0 hz1 hz2 rfl (by decide) (some ⟨w2.heap.size, 0, none⟩) 0 0 [] rfl (lit_own (w := w2) HB2.out.size rfl) w.heap.size (some ⟨gb, 0, none⟩) 0 0 (bv (q.drop m)) rfl (by rw [bv_length, HLD.out] <;> omega) (HL.out _ (HB2.out.alloc HB2.out.size (.cells #[] 5))) (bv_one _) (by unfold maxLen; omega) (by omega) (by have := HB2.out.size; simp; omega) ?_
            intro A4 c4 w4 ho4 hg4
            have hxx := box_below HX2.out (lit_grown (w := w2) rfl hg4)
            have f41 := hxx.frozen 1
            have c41 := hxx.cell 1
            have HF := hid (rf_store (w := w) (q := q.drop m) (base := base) (n := 0) HX.out (HB2.out.alloc HB2.out.size (.cells #[] 5)) hg4 (fun x hx => by simp [Value.ownBlock] at hx; have := HB2.out.size; omega) (.inr trivial) (by rw [HLD.out] <;> omega) (by first | exact ho4 | simpa using ho4) hbase)
            clear ho4 hg4 hxx)))
      go_ret
      exact ⟨rfl, HF⟩
    · rw [if_neg hcm, Addr.add_lit] at hSD
      have HL : Hid (∀ w', Below w.heap.size w w' → Lies w' w.heap.size (some ⟨gb, m, none⟩) (bv (q.drop m))) := fun w' hb => by
        have := hSD.below hb
        simpa using this
      clear hx hown hcap hSL hSD
      go_enter Try.func25, Try.ntmps25
      go_wp2_with (first
        | (go_at_call 24
           ((with_reducible refine HP.mono ?_); rintro e w2 ⟨A2, c2, rfl, HO2, HB2⟩)
           have hx2 := box_below HX.out HB2.out
           have c21 := (box_below hx2 ((Below.refl _ _).alloc (Nat.le_refl _) (.cells #[] 5))).cell 1
           have HX2 := hid hx2
           clear hx2)
        | (at_builtin
           (refine wpList_app _ rfl (.tmp 11) (.tmp 17) 32 rfl w.heap.size 5 i0 _ 1 1 Try.underlying32 hi0 hz0 hz1 hz2 rfl (by decide) (some ⟨w2.heap.size, 0, none⟩) 0 0 [] rfl (lit_own (w := w2) HB2.out.size rfl) w.heap.size (some ⟨gb, m, none⟩) (ql - m) (c0 - m) (bv (q.drop m)) rfl (by rw [bv_length, HLD.out] <;> omega) (HL.out _ (HB2.out.alloc HB2.out.size (.cells #[] 5))) (bv_one _) (by unfold maxLen; omega) (by omega) (by have := HB2.out.size; simp; omega) ?_
            intro A4 c4 w4 ho4 hg4
            have hxx := box_below HX2.out (lit_grown (w := w2) rfl hg4)
            have f41 := hxx.frozen 1
            have c41 := hxx.cell 1
            have HF := hid (rf_store (w := w) (q := q.drop m) (base := base) (n := (ql - m)) HX.out (HB2.out.alloc HB2.out.size (.cells #[] 5)) hg4 (fun x hx => by simp [Value.ownBlock] at hx; have := HB2.out.size; omega) (.inr trivial) (by rw [HLD.out] <;> omega) (by first | exact ho4 | simpa using ho4) hbase)
            clear ho4 hg4 hxx)))
      go_ret
      exact ⟨rfl, HF⟩
end Go.Proofs.Ytidgbojgdllghaa
