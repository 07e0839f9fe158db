/- For every setting and steps, a queue at the landed commit is too full from its high mark on, not too full at its low mark, and as it was between them; what is refused changes nothing; nothing that came in changes. Conditions: none. -/
import Derived.Test.YtibkbcffoabhfaaKO
namespace Go.Proofs.Ytibkbcffoabhfaa
open Go.ChangeShapes Go.WideShapes Go.ChangeAt Go.RowKit Go.Deep

theorem marks_any (w : World) (b r hi lo : Int) (A : Option Addr) (c : Nat) (l : List OpV) (hl : OpsV w w.heap.size A l) (hl2 : l.length ≤ maxLen) :
    Calls Try.prog 5 #[.agg #[.int .i64 b, .int .i64 r, .int .i64 hi, .int .i64 lo], .slice A l.length c] w fun e w' => e = .returned (.bool true) ∧ Hid (Below w.heap.size w w') := by
  cases hg : greatO l with
  | true => exact marks_great w b r hi lo A c _ l hl (hid rfl) hl2 hg
  | false =>
    by_cases hs : okI b r hi lo
    · obtain ⟨x, rfl⟩ := Int.eq_ofNat_of_zero_le (show 0 ≤ b by unfold okI at hs; omega)
      obtain ⟨y, rfl⟩ := Int.eq_ofNat_of_zero_le (show 0 ≤ r by unfold okI at hs; omega)
      obtain ⟨z, rfl⟩ := Int.eq_ofNat_of_zero_le (show 0 ≤ hi by unfold okI at hs; omega)
      obtain ⟨t, rfl⟩ := Int.eq_ofNat_of_zero_le (show 0 ≤ lo by unfold okI at hs; omega)
      exact marks_walk w ⟨x, y, z, t⟩ (by show Cf.ok _; unfold Cf.ok; unfold okI at hs; simp only; omega) A c _ l hl (hid rfl) hl2 hg
    · exact marks_bad w b r hi lo A c _ l hl (hid rfl) hl2 hg hs

theorem queueMarks_reads (os : Os) {H : Type} (enc : TypeId × Value → H) : ∃ places, DataW.whole enc Try.prog ((startWorld os).forCall (fun _ _ => 0) ⟨#[], #[.agg #[.int .i64 0, .int .i64 0, .int .i64 0, .int .i64 0], .slice none 0 0], []⟩).memory Try.f5.params.toList Rows.queueMarksSpec.vars false #[.agg #[.int .i64 0, .int .i64 0, .int .i64 0, .int .i64 0], .slice none 0 0].toList 8 = some ([.agg [.lit (.int .i64 0), .lit (.int .i64 0), .lit (.int .i64 0), .lit (.int .i64 0)], .nil], [], places) :=
  ⟨[], by kernel_rfl⟩

set_option maxRecDepth 100000 in
theorem queueMarks_lifted (os : Os) (started : os.Started) (H : Type) (enc : TypeId × Value → H) (F : Stop.Interp) :
    ReturnsInHanded {} Try.checked os 5 .any ((OpenSpec.ofChange Rows.queueMarksSpec).preRow enc Try.prog Try.f5 Rows.queueMarksRow.domain false Rows.queueMarksRow.laid) (((OpenSpec.ofChange Rows.queueMarksSpec).at F).post enc Try.prog Try.f5 false true false false) := by
  obtain ⟨places, hx⟩ := queueMarks_reads os enc
  refine returnsInHanded_of_row (C := Try.checked) (s := OpenSpec.ofChange Rows.queueMarksSpec) ownK started (by kernel_rfl) Try.func5
    (witness_row_at (enc := enc) (C := Try.checked) false (startWorld os) #[.agg #[.int .i64 0, .int .i64 0, .int .i64 0, .int .i64 0], .slice none 0 0] rfl (by kernel_rfl) (by kernel_rfl) (by kernel_rfl)
      (OpenSpec.preRow_of_cond 8 hx (by kernel_rfl) (fun k hk => by cases hk) (by kernel_rfl) (laidMet_nil _ _))) ?_
  intro W base args ds gs before hval0 hW _ _ _ _ _ _
  have hval : ∀ (j : Nat) t v, Try.f5.params[j]? = some t → args[j]? = some v → Value.okWide Try.prog W .any base t v := hval0
  have hW' := hW
  obtain ⟨p, q, hA0, hV, rfl, hfz, hnd⟩ := hW
  have hA : DataW.TrodAll enc Try.prog W 0 (fun _ => true) true Try.f5.params.toList args.toList ds p := hA0
  obtain ⟨rfl, rfl⟩ := trodVars_none hV
  simp only [List.append_nil] at hW'
  have hA2 := hA
  rw [Try.params5] at hA2 hval
  obtain ⟨v0, v1, d0, d1, p0, p1, hargs, rfl, rfl, h0, h1⟩ := trodAll_two hA2
  obtain rfl : args = #[v0, v1] := by cases args; simp_all
  obtain ⟨b, r, hi, lo, rfl⟩ := conf_open h0 (okWide_struct Try.underlying23 (hval 0 23 v0 rfl rfl))
  obtain ⟨A, c, l, rfl, hc, hc2, _, hl⟩ := ops_open h1 (okWide_slice Try.underlying24 (hval 1 24 v1 rfl rfl))
  refine (marks_any W b r hi lo A c l hl (Nat.le_trans hc hc2)).mono fun e W' ⟨he, hbel⟩ => ?_
  exact ⟨_, he, law_post laidOutK Try.underlying4 rfl rfl (by decide +kernel) ⟨rfl, rfl, rfl⟩ hW' hA hbel.out⟩

theorem queueMarks_holds : Rows.QueueMarksSaid :=
  OpenClaim.holds_of_cond 5 Try.f5 rfl rfl rfl rfl rfl rfl rfl ⟨rfl, rfl, rfl, rfl, rfl⟩ rfl rfl rfl rfl rfl (by kernel_rfl) Try.func5 (by kernel_rfl)
    (of_decide_eq_true (by kernel_rfl)) (by unfold Func.isWrapper; rw [if_neg (of_decide_eq_false (by kernel_rfl))]; exact ⟨rfl, rfl⟩)
    (fun os started H enc _ F => by rw [OpenClaim.pre_eq_preRow]; exact queueMarks_lifted os started H enc F)
#print axioms queueMarks_holds
end Go.Proofs.Ytibkbcffoabhfaa
