/- For every lines and one line more: what is put uses as many bytes more as it has and is read behind all others; what does not fit changes nothing; nothing that came in changes. Conditions: none. -/
import Derived.Test.YtjncahcigbdbgabLN
import Derived.Test.YtjncahcigbdbgabLQ
namespace Go.Proofs.Ytjncahcigbdbgab
open Go.ChangeShapes Go.WideShapes Go.ChangeAt Go.RowKit Go.Deep

theorem canonRoom_reads (os : Os) {H : Type} (enc : TypeId × Value → H) : ∃ places, DataW.whole enc Try.prog ((startWorld os).forCall (fun _ _ => 0) ⟨#[], #[.slice none 0 0, .agg #[.slice none 0 0, .bool false]], []⟩).memory Try.f6.params.toList Rows.canonRoomSpec.vars false #[.slice none 0 0, .agg #[.slice none 0 0, .bool false]].toList 8 = some ([.nil, .agg [.nil, .lit (.bool false)]], [], places) :=
  ⟨[], by kernel_rfl⟩

set_option maxRecDepth 100000 in
theorem canonRoom_lifted (os : Os) (started : os.Started) (H : Type) (enc : TypeId × Value → H) (F : Stop.Interp) :
    ReturnsInHanded {} Try.checked os 6 .any ((OpenSpec.ofChange Rows.canonRoomSpec).preRow enc Try.prog Try.f6 Rows.canonRoomRow.domain false Rows.canonRoomRow.laid) (((OpenSpec.ofChange Rows.canonRoomSpec).at F).post enc Try.prog Try.f6 false true false false) := by
  obtain ⟨places, hx⟩ := canonRoom_reads os enc
  refine returnsInHanded_of_row (C := Try.checked) (s := OpenSpec.ofChange Rows.canonRoomSpec) ownK started (by kernel_rfl) Try.func6
    (witness_row_at (enc := enc) (C := Try.checked) false (startWorld os) #[.slice none 0 0, .agg #[.slice none 0 0, .bool false]] rfl (by kernel_rfl) (by kernel_rfl) (by kernel_rfl)
      (OpenSpec.preRow_of_cond 8 hx (by kernel_rfl) (fun k hk => by cases hk) (by kernel_rfl) (laidMet_nil _ _))) ?_
  intro W base args ds gs before hval0 hW _ _ hsz0 _ _ _
  have hval : ∀ (j : Nat) t v, Try.f6.params[j]? = some t → args[j]? = some v → Value.okWide Try.prog W .any base t v := hval0
  have hW' := hW
  obtain ⟨p, q, hA0, hV, rfl, hfz, hnd⟩ := hW
  have hA : DataW.TrodAll enc Try.prog W 0 (fun _ => true) true Try.f6.params.toList args.toList ds p := hA0
  obtain ⟨rfl, rfl⟩ := trodVars_none hV
  simp only [List.append_nil] at hW'
  have hA2 := hA
  rw [Try.params6] at hA2 hval
  obtain ⟨v0, v1, d0, d1, p0, p1, hargs, rfl, rfl, h0, h1⟩ := trodAll_two hA2
  obtain rfl : args = #[v0, v1] := by cases args; simp_all
  have hsz : (DataW.weightsEach Try.prog [22, 25] [d0, d1]).all (fun x => decide (x ≤ reachBytes)) = true := hsz0
  have hw0 : ∀ k ∈ d0.weights Try.prog 22, k ≤ reachBytes := fun k hk => by
    have := List.all_eq_true.1 hsz k (DataW.weights_mem_each (j := 0) (t := 22) rfl rfl k hk)
    simpa using this
  have hw1 : ∀ k ∈ d1.weights Try.prog 25, k ≤ reachBytes := fun k hk => by
    have := List.all_eq_true.1 hsz k (DataW.weights_mem_each (j := 1) (t := 25) rfl rfl k hk)
    simpa using this
  obtain ⟨A0, c0, rs, rfl, hl, hn32, ht⟩ := lns_open h0 (okWide_slice Try.underlying22 (hval 0 22 v0 rfl rfl)) hw0
  obtain ⟨xA, xc, xb, xe, rfl, hx, hxb⟩ := rec_open h1 (okWide_struct Try.underlying25 (hval 1 25 v1 rfl rfl)) hw1
  rw [reach_is] at hn32 hxb
  have ht : ∀ r ∈ rs, r.bs.length ≤ 140737488351232 := fun r hr => by have := ht r hr; rwa [reach_is] at this
  refine (room_walk W A0 _ c0 rs xA xc xb xe (hid hl) (hid rfl) (hid hx) (by omega) (hid ht) (hid hxb)).mono fun e W' ⟨he, hbel⟩ => ?_
  exact ⟨_, he, law_post laidOutK Try.underlying4 rfl rfl (by decide +kernel) ⟨rfl, rfl, rfl⟩ hW' hA hbel.out⟩

theorem canonRoom_holds : Rows.CanonRoomSaid :=
  OpenClaim.holds_of_cond 6 Try.f6 rfl rfl rfl rfl rfl rfl rfl ⟨rfl, rfl, rfl, rfl, rfl⟩ rfl rfl rfl rfl rfl (by kernel_rfl) Try.func6 (by kernel_rfl)
    (of_decide_eq_true (by kernel_rfl)) (by unfold Func.isWrapper; rw [if_neg (of_decide_eq_false (by kernel_rfl))]; exact ⟨rfl, rfl⟩)
    (fun os started H enc _ F => by rw [OpenClaim.pre_eq_preRow]; exact canonRoom_lifted os started H enc F)
#print axioms canonRoom_holds
end Go.Proofs.Ytjncahcigbdbgab
