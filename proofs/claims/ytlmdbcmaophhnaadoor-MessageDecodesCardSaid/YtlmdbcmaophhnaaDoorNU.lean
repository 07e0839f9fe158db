/- For every payload of at most 100000 bytes, the message that it is and the number of an error are those that the document says, nothing of the payload is changed by writing over the message, and the document's examples hold: message.Decode at the landed commit. Conditions: none (the row's own tables are laid as the program lays them). -/
import Derived.Test.YtlmdbcmaophhnaaDoorNP
import Derived.Test.YtlmdbcmaophhnaaDoorSH
namespace Go.Proofs.YtlmdbcmaophhnaaDoor
open Go.ChangeShapes Go.WideShapes Go.ChangeAt Go.RowKit Go.Deep

set_option maxRecDepth 100000 in
theorem decodes_met (os : Os) (args : Array Value) : laidMet Tryd.prog Rows.messageDecodesRow.laid ((laidWorld os).forCall (fun _ _ => 0) ⟨#[], args, []⟩).memory :=
  laidMet_of_run' 8 (by kernel_rfl) (by kernel_rfl)

theorem decodes_reads (os : Os) {H : Type} (enc : TypeId × Value → H) : ∃ places, DataW.whole enc Tryd.prog ((laidWorld os).forCall (fun _ _ => 0) ⟨#[], #[.slice none 0 0], []⟩).memory Tryd.f4.params.toList Rows.messageDecodesSpec.vars false #[Value.slice none 0 0].toList 8 = some ([.nil], [], places) :=
  ⟨[], by kernel_rfl⟩

set_option maxRecDepth 100000 in
theorem decodes_lifted (os : Os) (started : os.Started) (H : Type) (enc : TypeId × Value → H) (F : Stop.Interp) :
    ReturnsInHanded {} Tryd.checked os 4 .any ((OpenSpec.ofChange Rows.messageDecodesSpec).preRow enc Tryd.prog Tryd.f4 Rows.messageDecodesRow.domain false Rows.messageDecodesRow.laid) (((OpenSpec.ofChange Rows.messageDecodesSpec).at F).post enc Tryd.prog Tryd.f4 false true false false) := by
  obtain ⟨places, hx⟩ := decodes_reads os enc
  refine returnsInHanded_of_row (C := Tryd.checked) (s := OpenSpec.ofChange Rows.messageDecodesSpec) ownK started (by kernel_rfl) Tryd.func4
    (witness_row_at (enc := enc) (C := Tryd.checked) false (laidWorld os) #[.slice none 0 0] rfl (by kernel_rfl) (by kernel_rfl) (by kernel_rfl)
      (OpenSpec.preRow_of_cond 8 hx (by kernel_rfl) (fun k hk => by cases hk) (by kernel_rfl) (decodes_met os _))) ?_
  intro W base args ds gs before hval0 hW _ _ hsz0 hL hS _
  have hval : ∀ (j : Nat) t v, Tryd.f4.params[j]? = some t → args[j]? = some v → Value.okWide Tryd.prog W .any base t v := hval0
  have hS' : W.ShapedOpen Tryd.prog := hS
  obtain ⟨m, hm⟩ := max_len hS'
  have hW' := hW
  obtain ⟨p, q, hA0, hV, rfl, hfz, hnd⟩ := hW
  have hA : DataW.TrodAll enc Tryd.prog W 0 (fun _ => true) true Tryd.f4.params.toList args.toList ds p := hA0
  obtain ⟨rfl, rfl⟩ := trodVars_none hV
  simp only [List.append_nil] at hW'
  have hA2 := hA
  rw [Tryd.params4] at hA2 hval
  obtain ⟨v0, d0, hargs, rfl, h0⟩ := trodAll_one hA2
  obtain rfl : args = #[v0] := by cases args; simp_all
  obtain ⟨Aa, ca, ba, rfl, hsa⟩ := sl_open h0 (okWide_slice Tryd.underlying23 (hval 0 23 v0 rfl rfl))
  refine (decodes_any W Aa ca ba.length ba m hsa rfl hm).mono fun e W' ⟨he, hbel⟩ => ?_
  exact ⟨_, he, law_post laidOutK Tryd.underlying4 rfl rfl (by decide +kernel) ⟨rfl, rfl, rfl⟩ hW' hA hbel⟩

theorem decodes_said : Rows.MessageDecodesSaid :=
  OpenClaim.holds_of_cond 4 Tryd.f4 rfl rfl rfl rfl rfl rfl rfl ⟨rfl, rfl, rfl, rfl, rfl⟩ rfl rfl rfl rfl rfl (by kernel_rfl) Tryd.func4 (by kernel_rfl)
    (of_decide_eq_true (by kernel_rfl)) (by unfold Func.isWrapper; rw [if_neg (of_decide_eq_false (by kernel_rfl))]; exact ⟨rfl, rfl⟩)
    (fun os started H enc _ F => by rw [OpenClaim.pre_eq_preRow]; exact decodes_lifted os started H enc F)

theorem decodes_plain (f : FuncId) (fn : Func) (hf : Tryd.pinned.checked.prog.funcNamed Rows.messageDecodesRow.func = some f) (hfn : Tryd.pinned.checked.prog.funcs[f]? = some fn) :
    false = Tryd.pinned.checked.prog.looks [] ∧ ∀ (j : Nat) t, fn.params[j]? = some t → Tryd.pinned.checked.prog.wantsStandIn t = false := by
  obtain rfl : f = 4 := Option.some.inj ((show Tryd.prog.funcNamed Rows.messageDecodesRow.func = some 4 by kernel_rfl).symm.trans hf) |>.symm
  obtain rfl : fn = Tryd.f4 := (Option.some.inj (Tryd.func4.symm.trans hfn)).symm
  refine ⟨by kernel_rfl, fun j t ht => ?_⟩
  have hm := Array.mem_of_getElem? ht
  rw [Tryd.params4] at hm
  have : t = 23 := by simpa using hm
  subst this
  exact (show Tryd.prog.wantsStandIn 23 = false by kernel_rfl)

theorem messageDecodes_holds : Rows.MessageDecodesCardSaid :=
  Claim7.holds_tied_plain_at .later [] _ _ _ _ decodes_said (fun _ h => by cases h) (by kernel_rfl) (fun _ h => by cases h) messageDecodes_row_tie rfl ⟨rfl, rfl⟩ (by kernel_rfl) rfl decodes_plain (by kernel_rfl)
#print axioms messageDecodes_holds
end Go.Proofs.YtlmdbcmaophhnaaDoor
