/- For every lines and two numbers: a read in two parts within one line is one read; a read of nothing changes nothing; nothing that came in changes. Conditions: none. -/
import Derived.Test.YtjncahcigbdbgabLQ
namespace Go.Proofs.Ytjncahcigbdbgab
open Go.ChangeShapes Go.WideShapes Go.ChangeAt Go.RowKit Go.Deep

theorem canonParts_reads (os : Os) {H : Type} (enc : TypeId × Value → H) : ∃ places, DataW.whole enc Try.prog ((startWorld os).forCall (fun _ _ => 0) ⟨#[], #[.slice none 0 0, .int .u8 0, .int .u8 0], []⟩).memory Try.f5.params.toList Rows.canonPartsSpec.vars false #[.slice none 0 0, .int .u8 0, .int .u8 0].toList 8 = some ([.nil, .lit (.int .u8 0), .lit (.int .u8 0)], [], places) :=
  ⟨[], by kernel_rfl⟩

set_option maxRecDepth 100000 in
theorem canonParts_lifted (os : Os) (started : os.Started) (H : Type) (enc : TypeId × Value → H) (F : Stop.Interp) :
    ReturnsInHanded {} Try.checked os 5 .any ((OpenSpec.ofChange Rows.canonPartsSpec).preRow enc Try.prog Try.f5 Rows.canonPartsRow.domain false Rows.canonPartsRow.laid) (((OpenSpec.ofChange Rows.canonPartsSpec).at F).post enc Try.prog Try.f5 false true false false) := by
  obtain ⟨places, hx⟩ := canonParts_reads os enc
  refine returnsInHanded_of_row (C := Try.checked) (s := OpenSpec.ofChange Rows.canonPartsSpec) ownK started (by kernel_rfl) Try.func5
    (witness_row_at (enc := enc) (C := Try.checked) false (startWorld os) #[.slice none 0 0, .int .u8 0, .int .u8 0] rfl (by kernel_rfl) (by kernel_rfl) (by kernel_rfl)
      (OpenSpec.preRow_of_cond 8 hx (by kernel_rfl) (fun k hk => by cases hk) (by kernel_rfl) (laidMet_nil _ _))) ?_
  intro W base args ds gs before hval0 hW _ _ hsz0 _ _ _
  have hval : ∀ (j : Nat) t v, Try.f5.params[j]? = some t → args[j]? = some v → Value.okWide Try.prog W .any base t v := hval0
  have hW' := hW
  obtain ⟨p, q, hA0, hV, rfl, hfz, hnd⟩ := hW
  have hA : DataW.TrodAll enc Try.prog W 0 (fun _ => true) true Try.f5.params.toList args.toList ds p := hA0
  obtain ⟨rfl, rfl⟩ := trodVars_none hV
  simp only [List.append_nil] at hW'
  have hA2 := hA
  rw [Try.params5] at hA2 hval
  obtain ⟨v0, v1, v2, d0, d1, d2, p0, p1, p2, hargs, rfl, rfl, h0, h1, h2⟩ := trodAll_three hA2
  obtain rfl : args = #[v0, v1, v2] := by cases args; simp_all
  have hsz : (DataW.weightsEach Try.prog [22, 5, 5] [d0, d1, d2]).all (fun x => decide (x ≤ reachBytes)) = true := hsz0
  have hw0 : ∀ k ∈ d0.weights Try.prog 22, k ≤ reachBytes := fun k hk => by
    have := List.all_eq_true.1 hsz k (DataW.weights_mem_each (j := 0) (t := 22) rfl rfl k hk)
    simpa using this
  obtain ⟨A0, c0, rs, rfl, hl, hn32, ht⟩ := lns_open h0 (okWide_slice Try.underlying22 (hval 0 22 v0 rfl rfl)) hw0
  obtain ⟨i1, rfl, hi1⟩ := u8_open h1 (okWide_int Try.underlying5 (hval 1 5 v1 rfl rfl))
  obtain ⟨i2, rfl, hi2⟩ := u8_open h2 (okWide_int Try.underlying5 (hval 2 5 v2 rfl rfl))
  rw [reach_is] at hn32
  have ht : ∀ r ∈ rs, r.bs.length ≤ 140737488351232 := fun r hr => by have := ht r hr; rwa [reach_is] at this
  refine (parts_walk W A0 _ c0 rs i1 i2 hi1 hi2 (hid hl) (hid rfl) (by omega) (hid ht)).mono fun e W' ⟨he, hbel⟩ => ?_
  exact ⟨_, he, law_post laidOutK Try.underlying4 rfl rfl (by decide +kernel) ⟨rfl, rfl, rfl⟩ hW' hA hbel.out⟩

theorem canonParts_holds : Rows.CanonPartsSaid :=
  OpenClaim.holds_of_cond 5 Try.f5 rfl rfl rfl rfl rfl rfl rfl ⟨rfl, rfl, rfl, rfl, rfl⟩ rfl rfl rfl rfl rfl (by kernel_rfl) Try.func5 (by kernel_rfl)
    (of_decide_eq_true (by kernel_rfl)) (by unfold Func.isWrapper; rw [if_neg (of_decide_eq_false (by kernel_rfl))]; exact ⟨rfl, rfl⟩)
    (fun os started H enc _ F => by rw [OpenClaim.pre_eq_preRow]; exact canonParts_lifted os started H enc F)
#print axioms canonParts_holds
end Go.Proofs.Ytjncahcigbdbgab
