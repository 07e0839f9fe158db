/- For every size, steps and turns, two rings at the landed commit whose steps are mixed answer each as it answers alone, and nothing that came in changes. Conditions: none. -/
import Derived.Test.YtidgbojgdllghaaRO
namespace Go.Proofs.Ytidgbojgdllghaa
open Go.ChangeShapes Go.WideShapes Go.ChangeAt Go.RowKit Go.Deep

theorem two_any (w : World) (size : Int) (A A2 : Option Addr) (c c2 : Nat) (l : List OpV) (ts : List Bool) (hl : OpsV w w.heap.size A l) (hl2 : l.length ≤ maxLen) (ht : BoolsV w w.heap.size A2 ts) (ht2 : ts.length ≤ maxLen) :
    Calls Try.prog 5 #[.int .i64 size, .slice A l.length c, .slice A2 ts.length c2] w fun e w' => e = .returned (.bool true) ∧ Hid (Below w.heap.size w w') := by
  cases hg : greatO l with
  | true => exact two_great w size A A2 c _ c2 _ l hl (hid rfl) hl2 hg
  | false =>
    by_cases hs : size < 1 ∨ 65536 < size
    · exact two_bad w size A A2 c _ c2 _ l hl (hid rfl) hl2 hg hs
    · obtain ⟨n, rfl⟩ := Int.eq_ofNat_of_zero_le (show 0 ≤ size by omega)
      exact two_walk w n A A2 c _ c2 _ l ts hl (hid rfl) hl2 hg (by omega) (by omega) ht (hid rfl) ht2

theorem ringTwo_reads (os : Os) {H : Type} (enc : TypeId × Value → H) : ∃ places, DataW.whole enc Try.prog ((startWorld os).forCall (fun _ _ => 0) ⟨#[], #[.int .i64 0, .slice none 0 0, .slice none 0 0], []⟩).memory Try.f5.params.toList Rows.ringTwoSpec.vars false #[.int .i64 0, .slice none 0 0, .slice none 0 0].toList 8 = some ([.lit (.int .i64 0), .nil, .nil], [], places) :=
  ⟨[], by kernel_rfl⟩

set_option maxRecDepth 100000 in
theorem ringTwo_lifted (os : Os) (started : os.Started) (H : Type) (enc : TypeId × Value → H) (F : Stop.Interp) :
    ReturnsInHanded {} Try.checked os 5 .any ((OpenSpec.ofChange Rows.ringTwoSpec).preRow enc Try.prog Try.f5 Rows.ringTwoRow.domain false Rows.ringTwoRow.laid) (((OpenSpec.ofChange Rows.ringTwoSpec).at F).post enc Try.prog Try.f5 false true false false) := by
  obtain ⟨places, hx⟩ := ringTwo_reads os enc
  refine returnsInHanded_of_row (C := Try.checked) (s := OpenSpec.ofChange Rows.ringTwoSpec) ownK started (by kernel_rfl) Try.func5
    (witness_row_at (enc := enc) (C := Try.checked) false (startWorld os) #[.int .i64 0, .slice none 0 0, .slice none 0 0] rfl (by kernel_rfl) (by kernel_rfl) (by kernel_rfl)
      (OpenSpec.preRow_of_cond 8 hx (by kernel_rfl) (fun k hk => by cases hk) (by kernel_rfl) (laidMet_nil _ _))) ?_
  intro W base args ds gs before hval0 hW _ _ _ _ _ _
  have hval : ∀ (j : Nat) t v, Try.f5.params[j]? = some t → args[j]? = some v → Value.okWide Try.prog W .any base t v := hval0
  have hW' := hW
  obtain ⟨p, q, hA0, hV, rfl, hfz, hnd⟩ := hW
  have hA : DataW.TrodAll enc Try.prog W 0 (fun _ => true) true Try.f5.params.toList args.toList ds p := hA0
  obtain ⟨rfl, rfl⟩ := trodVars_none hV
  simp only [List.append_nil] at hW'
  have hA2 := hA
  rw [Try.params5] at hA2 hval
  obtain ⟨v0, v1, v2, d0, d1, d2, p0, p1, p2, hargs, rfl, rfl, h0, h1, h2⟩ := trodAll_three hA2
  obtain rfl : args = #[v0, v1, v2] := by cases args; simp_all
  obtain ⟨size, rfl, rfl, rfl, _⟩ := open_int Try.underlying3 (hval 0 3 v0 rfl rfl) h0
  obtain ⟨A, c, l, rfl, hc, hc2, _, hl⟩ := ops_open h1 (okWide_slice Try.underlying22 (hval 1 22 v1 rfl rfl))
  obtain ⟨A2, c2, ts, rfl, ht2, ht⟩ := bools_open h2 (okWide_slice Try.underlying45 (hval 2 45 v2 rfl rfl))
  refine (two_any W size A A2 c c2 l ts hl (Nat.le_trans hc hc2) ht ht2).mono fun e W' ⟨he, hbel⟩ => ?_
  exact ⟨_, he, law_post laidOutK Try.underlying4 rfl rfl (by decide +kernel) ⟨rfl, rfl, rfl⟩ hW' hA hbel.out⟩

theorem ringTwo_holds : Rows.RingTwoSaid :=
  OpenClaim.holds_of_cond 5 Try.f5 rfl rfl rfl rfl rfl rfl rfl ⟨rfl, rfl, rfl, rfl, rfl⟩ rfl rfl rfl rfl rfl (by kernel_rfl) Try.func5 (by kernel_rfl)
    (of_decide_eq_true (by kernel_rfl)) (by unfold Func.isWrapper; rw [if_neg (of_decide_eq_false (by kernel_rfl))]; exact ⟨rfl, rfl⟩)
    (fun os started H enc _ F => by rw [OpenClaim.pre_eq_preRow]; exact ringTwo_lifted os started H enc F)
#print axioms ringTwo_holds
end Go.Proofs.Ytidgbojgdllghaa
