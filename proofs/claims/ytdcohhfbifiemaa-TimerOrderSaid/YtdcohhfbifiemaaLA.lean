/- For every ids, times and time, timers at the landed commit that are set in one order and in the other tell the same; nothing that came in changes. Conditions: none. -/
import Derived.Test.YtdcohhfbifiemaaKZ
namespace Go.Proofs.Ytdcohhfbifiemaa
open Go.ChangeShapes Go.WideShapes Go.ChangeAt Go.RowKit Go.Deep

theorem order_any (w : World) (A A2 : Option Addr) (c c2 : Nat) (now : Int) (l ts : List Int) (hl : Lies w w.heap.size A (iv l)) (ht : Lies w w.heap.size A2 (iv ts)) (hokl : ∀ x ∈ l, okI x) (hokt : ∀ x ∈ ts, okI x) (hm : l.length ≤ maxLen) (hm2 : ts.length ≤ maxLen) :
    Calls Try.prog 5 #[.slice A l.length c, .slice A2 ts.length c2, .int .i64 now] w fun e w' => e = .returned (.bool true) ∧ Hid (Below w.heap.size w w') := by
  by_cases hg : l.length ≤ 256
  · exact order_walk w A A2 c _ c2 _ now l ts hl ht hokl hokt (hid rfl) (hid rfl) hm2 hg
  · exact order_great w A A2 c _ c2 _ now (by omega) hm

theorem timerOrder_reads (os : Os) {H : Type} (enc : TypeId × Value → H) : ∃ places, DataW.whole enc Try.prog ((startWorld os).forCall (fun _ _ => 0) ⟨#[], #[.slice none 0 0, .slice none 0 0, .int .i64 0], []⟩).memory Try.f5.params.toList Rows.timerOrderSpec.vars false #[.slice none 0 0, .slice none 0 0, .int .i64 0].toList 8 = some ([.nil, .nil, .lit (.int .i64 0)], [], places) :=
  ⟨[], by kernel_rfl⟩

set_option maxRecDepth 100000 in
theorem timerOrder_lifted (os : Os) (started : os.Started) (H : Type) (enc : TypeId × Value → H) (F : Stop.Interp) :
    ReturnsInHanded {} Try.checked os 5 .any ((OpenSpec.ofChange Rows.timerOrderSpec).preRow enc Try.prog Try.f5 Rows.timerOrderRow.domain false Rows.timerOrderRow.laid) (((OpenSpec.ofChange Rows.timerOrderSpec).at F).post enc Try.prog Try.f5 false true false false) := by
  obtain ⟨places, hx⟩ := timerOrder_reads os enc
  refine returnsInHanded_of_row (C := Try.checked) (s := OpenSpec.ofChange Rows.timerOrderSpec) ownK started (by kernel_rfl) Try.func5
    (witness_row_at (enc := enc) (C := Try.checked) false (startWorld os) #[.slice none 0 0, .slice none 0 0, .int .i64 0] rfl (by kernel_rfl) (by kernel_rfl) (by kernel_rfl)
      (OpenSpec.preRow_of_cond 8 hx (by kernel_rfl) (fun k hk => by cases hk) (by kernel_rfl) (laidMet_nil _ _))) ?_
  intro W base args ds gs before hval0 hW _ _ _ _ _ _
  have hval : ∀ (j : Nat) t v, Try.f5.params[j]? = some t → args[j]? = some v → Value.okWide Try.prog W .any base t v := hval0
  have hW' := hW
  obtain ⟨p, q, hA0, hV, rfl, hfz, hnd⟩ := hW
  have hA : DataW.TrodAll enc Try.prog W 0 (fun _ => true) true Try.f5.params.toList args.toList ds p := hA0
  obtain ⟨rfl, rfl⟩ := trodVars_none hV
  simp only [List.append_nil] at hW'
  have hA2 := hA
  rw [Try.params5] at hA2 hval
  obtain ⟨v0, v1, v2, d0, d1, d2, p0, p1, p2, hargs, rfl, rfl, h0, h1, h2⟩ := trodAll_three hA2
  obtain rfl : args = #[v0, v1, v2] := by cases args; simp_all
  obtain ⟨A, c, l, rfl, hc, hc2, hl, hok⟩ := ints37_open h0 (okWide_slice Try.underlying37 (hval 0 37 v0 rfl rfl))
  obtain ⟨A2, c2, ts, rfl, ht1, ht2, ht, hok2⟩ := ints47_open h1 (okWide_slice Try.underlying47 (hval 1 47 v1 rfl rfl))
  obtain ⟨t, rfl, _⟩ := int_open Try.underlying2 h2 (okWide_int Try.underlying2 (hval 2 2 v2 rfl rfl))
  refine (order_any W A A2 c c2 t l ts hl ht hok hok2 (Nat.le_trans hc hc2) (Nat.le_trans ht1 ht2)).mono fun e W' ⟨he, hbel⟩ => ?_
  exact ⟨_, he, law_post laidOutK Try.underlying4 rfl rfl (by decide +kernel) ⟨rfl, rfl, rfl⟩ hW' hA hbel.out⟩

theorem timerOrder_holds : Rows.TimerOrderSaid :=
  OpenClaim.holds_of_cond 5 Try.f5 rfl rfl rfl rfl rfl rfl rfl ⟨rfl, rfl, rfl, rfl, rfl⟩ rfl rfl rfl rfl rfl (by kernel_rfl) Try.func5 (by kernel_rfl)
    (of_decide_eq_true (by kernel_rfl)) (by unfold Func.isWrapper; rw [if_neg (of_decide_eq_false (by kernel_rfl))]; exact ⟨rfl, rfl⟩)
    (fun os started H enc _ F => by rw [OpenClaim.pre_eq_preRow]; exact timerOrder_lifted os started H enc F)
#print axioms timerOrder_holds
end Go.Proofs.Ytdcohhfbifiemaa
