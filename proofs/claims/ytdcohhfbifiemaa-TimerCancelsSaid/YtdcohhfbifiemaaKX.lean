/- For every steps, id and time, timers at the landed commit in which a timer is set and cancelled again, or set anew and then as it was, tell what timers without that tell; nothing that came in changes. Conditions: none. -/
import Derived.Test.YtdcohhfbifiemaaKW
namespace Go.Proofs.Ytdcohhfbifiemaa
open Go.ChangeShapes Go.WideShapes Go.ChangeAt Go.RowKit Go.Deep

theorem cancels_any (w : World) (A : Option Addr) (c : Nat) (id at_ : Int) (l : List OpV) (hl : OpsV w w.heap.size A l) (hok : okO l) (hi : okI id) (ha : okI at_) (hm : l.length ≤ maxLen) :
    Calls Try.prog 6 #[.slice A l.length c, .int .i64 id, .int .i64 at_] w fun e w' => e = .returned (.bool true) ∧ Hid (Below w.heap.size w w') := by
  by_cases hg : l.length ≤ 200
  · exact cancels_walk w A c _ id at_ l hl hok ⟨hi, ha⟩ (hid rfl) hg
  · exact cancels_great w A c _ id at_ l (hid rfl) (by omega) hm

theorem timerCancels_reads (os : Os) {H : Type} (enc : TypeId × Value → H) : ∃ places, DataW.whole enc Try.prog ((startWorld os).forCall (fun _ _ => 0) ⟨#[], #[.slice none 0 0, .int .i64 0, .int .i64 0], []⟩).memory Try.f6.params.toList Rows.timerCancelsSpec.vars false #[.slice none 0 0, .int .i64 0, .int .i64 0].toList 8 = some ([.nil, .lit (.int .i64 0), .lit (.int .i64 0)], [], places) :=
  ⟨[], by kernel_rfl⟩

set_option maxRecDepth 100000 in
theorem timerCancels_lifted (os : Os) (started : os.Started) (H : Type) (enc : TypeId × Value → H) (F : Stop.Interp) :
    ReturnsInHanded {} Try.checked os 6 .any ((OpenSpec.ofChange Rows.timerCancelsSpec).preRow enc Try.prog Try.f6 Rows.timerCancelsRow.domain false Rows.timerCancelsRow.laid) (((OpenSpec.ofChange Rows.timerCancelsSpec).at F).post enc Try.prog Try.f6 false true false false) := by
  obtain ⟨places, hx⟩ := timerCancels_reads os enc
  refine returnsInHanded_of_row (C := Try.checked) (s := OpenSpec.ofChange Rows.timerCancelsSpec) ownK started (by kernel_rfl) Try.func6
    (witness_row_at (enc := enc) (C := Try.checked) false (startWorld os) #[.slice none 0 0, .int .i64 0, .int .i64 0] rfl (by kernel_rfl) (by kernel_rfl) (by kernel_rfl)
      (OpenSpec.preRow_of_cond 8 hx (by kernel_rfl) (fun k hk => by cases hk) (by kernel_rfl) (laidMet_nil _ _))) ?_
  intro W base args ds gs before hval0 hW _ _ _ _ _ _
  have hval : ∀ (j : Nat) t v, Try.f6.params[j]? = some t → args[j]? = some v → Value.okWide Try.prog W .any base t v := hval0
  have hW' := hW
  obtain ⟨p, q, hA0, hV, rfl, hfz, hnd⟩ := hW
  have hA : DataW.TrodAll enc Try.prog W 0 (fun _ => true) true Try.f6.params.toList args.toList ds p := hA0
  obtain ⟨rfl, rfl⟩ := trodVars_none hV
  simp only [List.append_nil] at hW'
  have hA2 := hA
  rw [Try.params6] at hA2 hval
  obtain ⟨v0, v1, v2, d0, d1, d2, p0, p1, p2, hargs, rfl, rfl, h0, h1, h2⟩ := trodAll_three hA2
  obtain rfl : args = #[v0, v1, v2] := by cases args; simp_all
  obtain ⟨A, c, l, rfl, hc, hc2, hl, hok⟩ := ops_open h0 (okWide_slice Try.underlying22 (hval 0 22 v0 rfl rfl))
  obtain ⟨i, rfl, hi⟩ := int_open Try.underlying3 h1 (okWide_int Try.underlying3 (hval 1 3 v1 rfl rfl))
  obtain ⟨t, rfl, ht⟩ := int_open Try.underlying2 h2 (okWide_int Try.underlying2 (hval 2 2 v2 rfl rfl))
  refine (cancels_any W A c i t l hl hok hi ht (Nat.le_trans hc hc2)).mono fun e W' ⟨he, hbel⟩ => ?_
  exact ⟨_, he, law_post laidOutK Try.underlying4 rfl rfl (by decide +kernel) ⟨rfl, rfl, rfl⟩ hW' hA hbel.out⟩

theorem timerCancels_holds : Rows.TimerCancelsSaid :=
  OpenClaim.holds_of_cond 6 Try.f6 rfl rfl rfl rfl rfl rfl rfl ⟨rfl, rfl, rfl, rfl, rfl⟩ rfl rfl rfl rfl rfl (by kernel_rfl) Try.func6 (by kernel_rfl)
    (of_decide_eq_true (by kernel_rfl)) (by unfold Func.isWrapper; rw [if_neg (of_decide_eq_false (by kernel_rfl))]; exact ⟨rfl, rfl⟩)
    (fun os started H enc _ F => by rw [OpenClaim.pre_eq_preRow]; exact timerCancels_lifted os started H enc F)
#print axioms timerCancels_holds
end Go.Proofs.Ytdcohhfbifiemaa
