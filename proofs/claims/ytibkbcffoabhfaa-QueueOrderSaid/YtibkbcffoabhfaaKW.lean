/- For every setting and steps, records come out of a queue at the landed commit as they went in, in order, and what is handed out as the first one can be written over; nothing that came in changes. Conditions: none. -/
import Derived.Test.YtibkbcffoabhfaaKV
namespace Go.Proofs.Ytibkbcffoabhfaa
open Go.ChangeShapes Go.WideShapes Go.ChangeAt Go.RowKit Go.Deep

theorem order_any (w : World) (b r hi lo : Int) (A : Option Addr) (c : Nat) (l : List OpV) (hl : OpsV w w.heap.size A l) (hl2 : l.length ≤ maxLen) :
    Calls Try.prog 4 #[.agg #[.int .i64 b, .int .i64 r, .int .i64 hi, .int .i64 lo], .slice A l.length c] w fun e w' => e = .returned (.bool true) ∧ Hid (Below w.heap.size w w') := by
  cases hg : greatO l with
  | true => exact order_great w b r hi lo A c _ l hl (hid rfl) hl2 hg
  | false =>
    by_cases hs : okI b r hi lo
    · obtain ⟨x, rfl⟩ := Int.eq_ofNat_of_zero_le (show 0 ≤ b by unfold okI at hs; omega)
      obtain ⟨y, rfl⟩ := Int.eq_ofNat_of_zero_le (show 0 ≤ r by unfold okI at hs; omega)
      obtain ⟨z, rfl⟩ := Int.eq_ofNat_of_zero_le (show 0 ≤ hi by unfold okI at hs; omega)
      obtain ⟨t, rfl⟩ := Int.eq_ofNat_of_zero_le (show 0 ≤ lo by unfold okI at hs; omega)
      exact order_walk w ⟨x, y, z, t⟩ (by show Cf.ok _; unfold Cf.ok; unfold okI at hs; simp only; omega) A c _ l hl (hid rfl) hl2 hg
    · exact order_bad w b r hi lo A c _ l hl (hid rfl) hl2 hg hs

theorem queueOrder_reads (os : Os) {H : Type} (enc : TypeId × Value → H) : ∃ places, DataW.whole enc Try.prog ((startWorld os).forCall (fun _ _ => 0) ⟨#[], #[.agg #[.int .i64 0, .int .i64 0, .int .i64 0, .int .i64 0], .slice none 0 0], []⟩).memory Try.f4.params.toList Rows.queueOrderSpec.vars false #[.agg #[.int .i64 0, .int .i64 0, .int .i64 0, .int .i64 0], .slice none 0 0].toList 8 = some ([.agg [.lit (.int .i64 0), .lit (.int .i64 0), .lit (.int .i64 0), .lit (.int .i64 0)], .nil], [], places) :=
  ⟨[], by kernel_rfl⟩

set_option maxRecDepth 100000 in
theorem queueOrder_lifted (os : Os) (started : os.Started) (H : Type) (enc : TypeId × Value → H) (F : Stop.Interp) :
    ReturnsInHanded {} Try.checked os 4 .any ((OpenSpec.ofChange Rows.queueOrderSpec).preRow enc Try.prog Try.f4 Rows.queueOrderRow.domain false Rows.queueOrderRow.laid) (((OpenSpec.ofChange Rows.queueOrderSpec).at F).post enc Try.prog Try.f4 false true false false) := by
  obtain ⟨places, hx⟩ := queueOrder_reads os enc
  refine returnsInHanded_of_row (C := Try.checked) (s := OpenSpec.ofChange Rows.queueOrderSpec) ownK started (by kernel_rfl) Try.func4
    (witness_row_at (enc := enc) (C := Try.checked) false (startWorld os) #[.agg #[.int .i64 0, .int .i64 0, .int .i64 0, .int .i64 0], .slice none 0 0] rfl (by kernel_rfl) (by kernel_rfl) (by kernel_rfl)
      (OpenSpec.preRow_of_cond 8 hx (by kernel_rfl) (fun k hk => by cases hk) (by kernel_rfl) (laidMet_nil _ _))) ?_
  intro W base args ds gs before hval0 hW _ _ _ _ _ _
  have hval : ∀ (j : Nat) t v, Try.f4.params[j]? = some t → args[j]? = some v → Value.okWide Try.prog W .any base t v := hval0
  have hW' := hW
  obtain ⟨p, q, hA0, hV, rfl, hfz, hnd⟩ := hW
  have hA : DataW.TrodAll enc Try.prog W 0 (fun _ => true) true Try.f4.params.toList args.toList ds p := hA0
  obtain ⟨rfl, rfl⟩ := trodVars_none hV
  simp only [List.append_nil] at hW'
  have hA2 := hA
  rw [Try.params4] at hA2 hval
  obtain ⟨v0, v1, d0, d1, p0, p1, hargs, rfl, rfl, h0, h1⟩ := trodAll_two hA2
  obtain rfl : args = #[v0, v1] := by cases args; simp_all
  obtain ⟨b, r, hi, lo, rfl⟩ := conf_open h0 (okWide_struct Try.underlying23 (hval 0 23 v0 rfl rfl))
  obtain ⟨A, c, l, rfl, hc, hc2, _, hl⟩ := ops_open h1 (okWide_slice Try.underlying24 (hval 1 24 v1 rfl rfl))
  refine (order_any W b r hi lo A c l hl (Nat.le_trans hc hc2)).mono fun e W' ⟨he, hbel⟩ => ?_
  exact ⟨_, he, law_post laidOutK Try.underlying4 rfl rfl (by decide +kernel) ⟨rfl, rfl, rfl⟩ hW' hA hbel.out⟩

theorem queueOrder_holds : Rows.QueueOrderSaid :=
  OpenClaim.holds_of_cond 4 Try.f4 rfl rfl rfl rfl rfl rfl rfl ⟨rfl, rfl, rfl, rfl, rfl⟩ rfl rfl rfl rfl rfl (by kernel_rfl) Try.func4 (by kernel_rfl)
    (of_decide_eq_true (by kernel_rfl)) (by unfold Func.isWrapper; rw [if_neg (of_decide_eq_false (by kernel_rfl))]; exact ⟨rfl, rfl⟩)
    (fun os started H enc _ F => by rw [OpenClaim.pre_eq_preRow]; exact queueOrder_lifted os started H enc F)
#print axioms queueOrder_holds
end Go.Proofs.Ytibkbcffoabhfaa
