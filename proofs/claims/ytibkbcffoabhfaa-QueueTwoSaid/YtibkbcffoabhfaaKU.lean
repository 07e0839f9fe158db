/- For every setting, steps and turns, two queues at the landed commit whose steps are mixed answer each as it answers alone; nothing that came in changes. Conditions: none. -/
import Derived.Test.YtibkbcffoabhfaaKT
namespace Go.Proofs.Ytibkbcffoabhfaa
open Go.ChangeShapes Go.WideShapes Go.ChangeAt Go.RowKit Go.Deep

theorem two_any (w : World) (b r hi lo : Int) (A A2 : Option Addr) (c c2 : Nat) (l : List OpV) (ts : List Bool) (hl : OpsV w w.heap.size A l) (hl2 : l.length ≤ maxLen) (ht : BoolsV w w.heap.size A2 ts) (ht2 : ts.length ≤ maxLen) :
    Calls Try.prog 6 #[.agg #[.int .i64 b, .int .i64 r, .int .i64 hi, .int .i64 lo], .slice A l.length c, .slice A2 ts.length c2] w fun e w' => e = .returned (.bool true) ∧ Hid (Below w.heap.size w w') := by
  cases hg : greatO l with
  | true => exact two_great w b r hi lo A A2 c _ c2 _ l hl (hid rfl) hl2 hg
  | false =>
    by_cases hs : okI b r hi lo
    · obtain ⟨x, rfl⟩ := Int.eq_ofNat_of_zero_le (show 0 ≤ b by unfold okI at hs; omega)
      obtain ⟨y, rfl⟩ := Int.eq_ofNat_of_zero_le (show 0 ≤ r by unfold okI at hs; omega)
      obtain ⟨z, rfl⟩ := Int.eq_ofNat_of_zero_le (show 0 ≤ hi by unfold okI at hs; omega)
      obtain ⟨t, rfl⟩ := Int.eq_ofNat_of_zero_le (show 0 ≤ lo by unfold okI at hs; omega)
      exact two_walk w ⟨x, y, z, t⟩ (by show Cf.ok _; unfold Cf.ok; unfold okI at hs; simp only; omega) A A2 c _ c2 _ l ts hl (hid rfl) hl2 hg ht (hid rfl) ht2
    · exact two_bad w b r hi lo A A2 c _ c2 _ l hl (hid rfl) hl2 hg hs

theorem queueTwo_reads (os : Os) {H : Type} (enc : TypeId × Value → H) : ∃ places, DataW.whole enc Try.prog ((startWorld os).forCall (fun _ _ => 0) ⟨#[], #[.agg #[.int .i64 0, .int .i64 0, .int .i64 0, .int .i64 0], .slice none 0 0, .slice none 0 0], []⟩).memory Try.f6.params.toList Rows.queueTwoSpec.vars false #[.agg #[.int .i64 0, .int .i64 0, .int .i64 0, .int .i64 0], .slice none 0 0, .slice none 0 0].toList 8 = some ([.agg [.lit (.int .i64 0), .lit (.int .i64 0), .lit (.int .i64 0), .lit (.int .i64 0)], .nil, .nil], [], places) :=
  ⟨[], by kernel_rfl⟩

set_option maxRecDepth 100000 in
theorem queueTwo_lifted (os : Os) (started : os.Started) (H : Type) (enc : TypeId × Value → H) (F : Stop.Interp) :
    ReturnsInHanded {} Try.checked os 6 .any ((OpenSpec.ofChange Rows.queueTwoSpec).preRow enc Try.prog Try.f6 Rows.queueTwoRow.domain false Rows.queueTwoRow.laid) (((OpenSpec.ofChange Rows.queueTwoSpec).at F).post enc Try.prog Try.f6 false true false false) := by
  obtain ⟨places, hx⟩ := queueTwo_reads os enc
  refine returnsInHanded_of_row (C := Try.checked) (s := OpenSpec.ofChange Rows.queueTwoSpec) ownK started (by kernel_rfl) Try.func6
    (witness_row_at (enc := enc) (C := Try.checked) false (startWorld os) #[.agg #[.int .i64 0, .int .i64 0, .int .i64 0, .int .i64 0], .slice none 0 0, .slice none 0 0] rfl (by kernel_rfl) (by kernel_rfl) (by kernel_rfl)
      (OpenSpec.preRow_of_cond 8 hx (by kernel_rfl) (fun k hk => by cases hk) (by kernel_rfl) (laidMet_nil _ _))) ?_
  intro W base args ds gs before hval0 hW _ _ _ _ _ _
  have hval : ∀ (j : Nat) t v, Try.f6.params[j]? = some t → args[j]? = some v → Value.okWide Try.prog W .any base t v := hval0
  have hW' := hW
  obtain ⟨p, q, hA0, hV, rfl, hfz, hnd⟩ := hW
  have hA : DataW.TrodAll enc Try.prog W 0 (fun _ => true) true Try.f6.params.toList args.toList ds p := hA0
  obtain ⟨rfl, rfl⟩ := trodVars_none hV
  simp only [List.append_nil] at hW'
  have hA2 := hA
  rw [Try.params6] at hA2 hval
  obtain ⟨v0, v1, v2, d0, d1, d2, p0, p1, p2, hargs, rfl, rfl, h0, h1, h2⟩ := trodAll_three hA2
  obtain rfl : args = #[v0, v1, v2] := by cases args; simp_all
  obtain ⟨b, r, hi, lo, rfl⟩ := conf_open h0 (okWide_struct Try.underlying23 (hval 0 23 v0 rfl rfl))
  obtain ⟨A, c, l, rfl, hc, hc2, _, hl⟩ := ops_open h1 (okWide_slice Try.underlying24 (hval 1 24 v1 rfl rfl))
  obtain ⟨A2, c2, ts, rfl, ht2, ht⟩ := bools_open h2 (okWide_slice Try.underlying49 (hval 2 49 v2 rfl rfl))
  refine (two_any W b r hi lo A A2 c c2 l ts hl (Nat.le_trans hc hc2) ht ht2).mono fun e W' ⟨he, hbel⟩ => ?_
  exact ⟨_, he, law_post laidOutK Try.underlying4 rfl rfl (by decide +kernel) ⟨rfl, rfl, rfl⟩ hW' hA hbel.out⟩

theorem queueTwo_holds : Rows.QueueTwoSaid :=
  OpenClaim.holds_of_cond 6 Try.f6 rfl rfl rfl rfl rfl rfl rfl ⟨rfl, rfl, rfl, rfl, rfl⟩ rfl rfl rfl rfl rfl (by kernel_rfl) Try.func6 (by kernel_rfl)
    (of_decide_eq_true (by kernel_rfl)) (by unfold Func.isWrapper; rw [if_neg (of_decide_eq_false (by kernel_rfl))]; exact ⟨rfl, rfl⟩)
    (fun os started H enc _ F => by rw [OpenClaim.pre_eq_preRow]; exact queueTwo_lifted os started H enc F)
#print axioms queueTwo_holds
end Go.Proofs.Ytibkbcffoabhfaa
