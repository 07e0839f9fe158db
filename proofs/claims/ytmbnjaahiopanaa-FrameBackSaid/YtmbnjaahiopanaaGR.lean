/- For every list of payloads and every step, without the document's answer: the stream of their packets, handed to frame.Feed in pieces of any length, is those payloads, in order, and nothing is left. Conditions: none. -/
import Derived.Test.YtmbnjaahiopanaaGQ
namespace Go.Proofs.Ytmbnjaahiopanaa
open Go.ChangeShapes Go.WideShapes Go.ChangeAt Go.RowKit Go.Deep

theorem backs_reads (os : Os) {H : Type} (enc : TypeId × Value → H) : ∃ places, DataW.whole enc Try.prog ((startWorld os).forCall (fun _ _ => 0) ⟨#[], #[.slice none 0 0, .int .u8 0], []⟩).memory Try.f6.params.toList Rows.frameBackSpec.vars false #[Value.slice none 0 0, Value.int .u8 0].toList 8 = some ([.nil, .lit (.int .u8 0)], [], places) :=
  ⟨[], by kernel_rfl⟩

set_option maxRecDepth 100000 in
theorem backs_lifted (os : Os) (started : os.Started) (H : Type) (enc : TypeId × Value → H) (F : Stop.Interp) :
    ReturnsInHanded {} Try.checked os 6 .any ((OpenSpec.ofChange Rows.frameBackSpec).preRow enc Try.prog Try.f6 Rows.frameBackRow.domain false Rows.frameBackRow.laid) (((OpenSpec.ofChange Rows.frameBackSpec).at F).post enc Try.prog Try.f6 false true false false) := by
  obtain ⟨places, hx⟩ := backs_reads os enc
  refine returnsInHanded_of_row (C := Try.checked) (s := OpenSpec.ofChange Rows.frameBackSpec) ownK started (by kernel_rfl) Try.func6
    (witness_row_at (enc := enc) (C := Try.checked) false (startWorld os) #[.slice none 0 0, .int .u8 0] rfl (by kernel_rfl) (by kernel_rfl) (by kernel_rfl)
      (OpenSpec.preRow_of_cond 8 hx (by kernel_rfl) (fun k hk => by cases hk) (by kernel_rfl) (laidMet_nil _ _))) ?_
  intro W base args ds gs before hval0 hW _ _ hsz0 _ _ _
  have hval : ∀ (j : Nat) t v, Try.f6.params[j]? = some t → args[j]? = some v → Value.okWide Try.prog W .any base t v := hval0
  have hW' := hW
  obtain ⟨p, q, hA0, hV, rfl, hfz, hnd⟩ := hW
  have hA : DataW.TrodAll enc Try.prog W 0 (fun _ => true) true Try.f6.params.toList args.toList ds p := hA0
  obtain ⟨rfl, rfl⟩ := trodVars_none hV
  simp only [List.append_nil] at hW'
  have hA2 := hA
  rw [Try.params6] at hA2 hval
  obtain ⟨v0, v1, d0, d1, p0, p1, hargs, rfl, rfl, h0, h1⟩ := trodAll_two hA2
  obtain rfl : args = #[v0, v1] := by cases args; simp_all
  obtain ⟨zs, rfl, rfl, rfl, ws⟩ := open_int Try.underlying5 (hval 1 5 v1 rfl rfl) h1
  have hbs := bounds_u8 ws
  obtain ⟨Al, cl, ll, hvl, hcl, hdl, hnl, hl⟩ := lists_open h0 (okWide_slice Try.underlying36 (hval 0 36 v0 rfl rfl))
  have hst := hbs.1
  obtain ⟨sN, rfl⟩ := Int.eq_ofNat_of_zero_le hst
  subst hvl
  refine (backs_any W Al cl ll sN hl hcl hdl (by have := hbs.2; omega)).mono fun e W' ⟨he, hbel⟩ => ?_
  exact ⟨_, he, law_post laidOutK Try.underlying4 rfl rfl (by decide +kernel) ⟨rfl, rfl, rfl⟩ hW' hA hbel⟩

theorem frameBack_holds : Rows.FrameBackSaid :=
  OpenClaim.holds_of_cond 6 Try.f6 rfl rfl rfl rfl rfl rfl rfl ⟨rfl, rfl, rfl, rfl, rfl⟩ rfl rfl rfl rfl rfl (by kernel_rfl) Try.func6 (by kernel_rfl)
    (of_decide_eq_true (by kernel_rfl)) (by unfold Func.isWrapper; rw [if_neg (of_decide_eq_false (by kernel_rfl))]; exact ⟨rfl, rfl⟩)
    (fun os started H enc _ F => by rw [OpenClaim.pre_eq_preRow]; exact backs_lifted os started H enc F)
#print axioms frameBack_holds
end Go.Proofs.Ytmbnjaahiopanaa
