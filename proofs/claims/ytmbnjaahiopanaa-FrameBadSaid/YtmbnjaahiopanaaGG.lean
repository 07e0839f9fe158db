/- For every framer and all bytes, without the document's answer: a framer that frame.Feed leaves Bad has no Buf, stays Bad and hands nothing out, and one that isn't Bad holds less than a packet, its length within bounds. Conditions: none. -/
import Derived.Test.YtmbnjaahiopanaaGF
namespace Go.Proofs.Ytmbnjaahiopanaa
open Go.ChangeShapes Go.WideShapes Go.ChangeAt Go.RowKit Go.Deep

theorem bads_reads (os : Os) {H : Type} (enc : TypeId × Value → H) : ∃ places, DataW.whole enc Try.prog ((startWorld os).forCall (fun _ _ => 0) ⟨#[], #[.agg #[.slice none 0 0, .bool false], .slice none 0 0, .slice none 0 0], []⟩).memory Try.f7.params.toList Rows.frameBadSpec.vars false #[Value.agg #[.slice none 0 0, .bool false], Value.slice none 0 0, Value.slice none 0 0].toList 8 = some ([.agg [.nil, .lit (.bool false)], .nil, .nil], [], places) :=
  ⟨[], by kernel_rfl⟩

set_option maxRecDepth 100000 in
theorem bads_lifted (os : Os) (started : os.Started) (H : Type) (enc : TypeId × Value → H) (F : Stop.Interp) :
    ReturnsInHanded {} Try.checked os 7 .any ((OpenSpec.ofChange Rows.frameBadSpec).preRow enc Try.prog Try.f7 Rows.frameBadRow.domain false Rows.frameBadRow.laid) (((OpenSpec.ofChange Rows.frameBadSpec).at F).post enc Try.prog Try.f7 false true false false) := by
  obtain ⟨places, hx⟩ := bads_reads os enc
  refine returnsInHanded_of_row (C := Try.checked) (s := OpenSpec.ofChange Rows.frameBadSpec) ownK started (by kernel_rfl) Try.func7
    (witness_row_at (enc := enc) (C := Try.checked) false (startWorld os) #[.agg #[.slice none 0 0, .bool false], .slice none 0 0, .slice none 0 0] rfl (by kernel_rfl) (by kernel_rfl) (by kernel_rfl)
      (OpenSpec.preRow_of_cond 8 hx (by kernel_rfl) (fun k hk => by cases hk) (by kernel_rfl) (laidMet_nil _ _))) ?_
  intro W base args ds gs before hval0 hW _ _ hsz0 _ _ _
  have hval : ∀ (j : Nat) t v, Try.f7.params[j]? = some t → args[j]? = some v → Value.okWide Try.prog W .any base t v := hval0
  have hW' := hW
  obtain ⟨p, q, hA0, hV, rfl, hfz, hnd⟩ := hW
  have hA : DataW.TrodAll enc Try.prog W 0 (fun _ => true) true Try.f7.params.toList args.toList ds p := hA0
  obtain ⟨rfl, rfl⟩ := trodVars_none hV
  simp only [List.append_nil] at hW'
  have hA2 := hA
  rw [Try.params7] at hA2 hval
  obtain ⟨v0, v1, v2, d0, d1, d2, p0, p1, p2, hargs, rfl, rfl, h0, h1, h2⟩ := trodAll_three hA2
  obtain rfl : args = #[v0, v1, v2] := by cases args; simp_all
  obtain ⟨Af, cf, bf, badf, rfl, hf⟩ := framer_open h0 (okWide_struct Try.underlying33 (hval 0 33 v0 rfl rfl))
  obtain ⟨Ab, cb, bb, rfl, hb⟩ := sl_open h1 (okWide_slice Try.underlying22 (hval 1 22 v1 rfl rfl))
  obtain ⟨Ac, cc, bc, rfl, hc⟩ := sl_open h2 (okWide_slice Try.underlying22 (hval 2 22 v2 rfl rfl))
  refine (bads_any W Af Ab Ac cf cb cc bf bb bc badf hf hb hc).mono fun e W' ⟨he, hbel⟩ => ?_
  exact ⟨_, he, law_post laidOutK Try.underlying4 rfl rfl (by decide +kernel) ⟨rfl, rfl, rfl⟩ hW' hA hbel⟩

theorem frameBad_holds : Rows.FrameBadSaid :=
  OpenClaim.holds_of_cond 7 Try.f7 rfl rfl rfl rfl rfl rfl rfl ⟨rfl, rfl, rfl, rfl, rfl⟩ rfl rfl rfl rfl rfl (by kernel_rfl) Try.func7 (by kernel_rfl)
    (of_decide_eq_true (by kernel_rfl)) (by unfold Func.isWrapper; rw [if_neg (of_decide_eq_false (by kernel_rfl))]; exact ⟨rfl, rfl⟩)
    (fun os started H enc _ F => by rw [OpenClaim.pre_eq_preRow]; exact bads_lifted os started H enc F)
#print axioms frameBad_holds
end Go.Proofs.Ytmbnjaahiopanaa
