/- For every setting, column, what is left and what is gone: what takes characters off the screen is what the document says; nothing that came in changes. Conditions: none. -/
import Derived.Test.YtgollkckdnaegaaHQ
namespace Go.Proofs.Ytgollkckdnaegaa
open Go.ChangeShapes Go.WideShapes Go.ChangeAt Go.RowKit Go.Deep

theorem bytes5 : Try.prog.bytesOf 5 = 1 := by kernel_rfl
section
variable {H : Type} {enc : TypeId × Value → H} {w : World} {base : Nat} {spare : Nat → Bool} {held : Bool}
theorem bytes_weight {fuel n c : Nat} {A : Option Addr} {x : DataW H × List MemPlace} (h : DataW.trod enc Try.prog w base spare held fuel 27 [.slice A n c] = some x)
    (hw : ∀ k ∈ x.1.weights Try.prog 27, k ≤ reachBytes) : n ≤ reachBytes := by
  rcases open_ints Try.underlying27 Try.underlying5 cells5 h with ⟨he, _⟩ | ⟨a, len, cap, zs, he, _, hl, hm, hz, rfl, _, _⟩
  · simp only [List.cons.injEq, and_true] at he
    injection he with _ e _
    rw [e]; exact Nat.zero_le _
  · simp only [List.cons.injEq, and_true] at he
    injection he with _ e _
    subst e
    have hzl : n ≤ zs.length := by rw [hz]; split <;> omega
    have := hw _ (by
      simp only [DataW.weights, Try.underlying27]
      exact List.mem_cons_self)
    rw [bytes5] at this
    simp only [lits, List.length_map, List.length_take, List.length_drop, Nat.min_eq_left hzl] at this
    omega
theorem tmV_part {t : Tm} (ht : t.Ok) {r : List Value} {j : Nat} {v : Value} (h : r[j]? = some v) : (((tmV t r).toList.drop (24 + j)).take 1) = [v] := by
  have hl := cl_len ht.len
  have h1 : (tmV t r).toList = t.cl ++ r := by simp [tmV]
  obtain ⟨hj, rfl⟩ := List.getElem?_eq_some_iff.1 h
  rw [h1, List.drop_append, hl, List.drop_eq_nil_of_le (by omega), Nat.add_sub_cancel_left, List.nil_append, List.drop_eq_getElem_cons hj]
  rfl
theorem rub_sized {t : Tm} (ht : t.Ok) {x : Int} {n n2 c c2 : Nat} {A A2 : Option Addr} {d : DataW H} {p : List MemPlace} (h : DataW.Trod enc Try.prog w base spare held 38 (.agg (tmV t [.int .i64 x, .slice A n c, .slice A2 n2 c2])) d p)
    (hw : ∀ k ∈ d.weights Try.prog 38, k ≤ reachBytes) : n ≤ reachBytes ∧ n2 ≤ reachBytes := by
  obtain ⟨fuel, hf⟩ := h
  obtain ⟨xs, m, _, hd, hlen, hxl, hff⟩ := DataW.trod_struct Try.underlying38 hf
  have h2 : DataW.trod enc Try.prog w base spare held m 27 (((tmV t [.int .i64 x, .slice A n c, .slice A2 n2 c2]).toList.drop 25).take (Try.prog.cellsOf 27)) = xs[2]? := hff 2 _ rfl
  have h3 : DataW.trod enc Try.prog w base spare held m 27 (((tmV t [.int .i64 x, .slice A n c, .slice A2 n2 c2]).toList.drop 26).take (Try.prog.cellsOf 27)) = xs[3]? := hff 3 _ rfl
  rw [cells32, tmV_part ht (j := 1) rfl] at h2
  rw [cells32, tmV_part ht (j := 2) rfl] at h3
  match xs, hxl with
  | [y0, y1, y2, y3], _ =>
    have h2 : DataW.trod enc Try.prog w base spare held m 27 [.slice A n c] = some y2 := h2
    have h3 : DataW.trod enc Try.prog w base spare held m 27 [.slice A2 n2 c2] = some y3 := h3
    injection hd with hd _
    subst hd
    simp only [DataW.weights, Try.underlying38] at hw
    exact ⟨bytes_weight h2 fun k hk => hw k (DataW.weights_mem_each (j := 2) (t := 27) rfl rfl k hk), bytes_weight h3 fun k hk => hw k (DataW.weights_mem_each (j := 3) (t := 27) rfl rfl k hk)⟩
end
theorem echoRubs_reads (os : Os) {H : Type} (enc : TypeId × Value → H) : ∃ places, DataW.whole enc Try.prog ((startWorld os).forCall (fun _ _ => 0) ⟨#[], #[.agg #[.int .u8 0, .int .u8 0, .int .u8 0, .int .u8 0, .int .u8 0, .int .u8 0, .int .u8 0, .int .u8 0, .int .u8 0, .int .u8 0, .int .u8 0, .int .u8 0, .int .u8 0, .int .u8 0, .int .u8 0, .int .u8 0, .int .u8 0, .int .u8 0, .int .u8 0, .int .u64 0, .int .u32 0, .int .u32 0, .int .i64 0, .int .i64 0, .int .i64 0, .slice none 0 0, .slice none 0 0]], []⟩).memory Try.f5.params.toList Rows.echoRubsSpec.vars false #[.agg #[.int .u8 0, .int .u8 0, .int .u8 0, .int .u8 0, .int .u8 0, .int .u8 0, .int .u8 0, .int .u8 0, .int .u8 0, .int .u8 0, .int .u8 0, .int .u8 0, .int .u8 0, .int .u8 0, .int .u8 0, .int .u8 0, .int .u8 0, .int .u8 0, .int .u8 0, .int .u64 0, .int .u32 0, .int .u32 0, .int .i64 0, .int .i64 0, .int .i64 0, .slice none 0 0, .slice none 0 0]].toList 8 = some ([.agg [.agg [.agg [.lit (.int .u8 0), .lit (.int .u8 0), .lit (.int .u8 0), .lit (.int .u8 0), .lit (.int .u8 0), .lit (.int .u8 0), .lit (.int .u8 0), .lit (.int .u8 0), .lit (.int .u8 0), .lit (.int .u8 0), .lit (.int .u8 0), .lit (.int .u8 0), .lit (.int .u8 0), .lit (.int .u8 0), .lit (.int .u8 0), .lit (.int .u8 0), .lit (.int .u8 0), .lit (.int .u8 0), .lit (.int .u8 0)], .lit (.int .u64 0), .lit (.int .u32 0), .lit (.int .u32 0), .lit (.int .i64 0), .lit (.int .i64 0)], .lit (.int .i64 0), .nil, .nil]], [], places) :=
  ⟨[], by kernel_rfl⟩

set_option maxRecDepth 100000 in
theorem echoRubs_lifted (os : Os) (started : os.Started) (H : Type) (enc : TypeId × Value → H) (F : Stop.Interp) :
    ReturnsInHanded {} Try.checked os 5 .any ((OpenSpec.ofChange Rows.echoRubsSpec).preRow enc Try.prog Try.f5 Rows.echoRubsRow.domain false Rows.echoRubsRow.laid) (((OpenSpec.ofChange Rows.echoRubsSpec).at F).post enc Try.prog Try.f5 false true false false) := by
  obtain ⟨places, hx⟩ := echoRubs_reads os enc
  refine returnsInHanded_of_row (C := Try.checked) (s := OpenSpec.ofChange Rows.echoRubsSpec) ownK started (by kernel_rfl) Try.func5
    (witness_row_at (enc := enc) (C := Try.checked) false (startWorld os) #[.agg #[.int .u8 0, .int .u8 0, .int .u8 0, .int .u8 0, .int .u8 0, .int .u8 0, .int .u8 0, .int .u8 0, .int .u8 0, .int .u8 0, .int .u8 0, .int .u8 0, .int .u8 0, .int .u8 0, .int .u8 0, .int .u8 0, .int .u8 0, .int .u8 0, .int .u8 0, .int .u64 0, .int .u32 0, .int .u32 0, .int .i64 0, .int .i64 0, .int .i64 0, .slice none 0 0, .slice none 0 0]] rfl (by kernel_rfl) (by kernel_rfl) (by kernel_rfl)
      (OpenSpec.preRow_of_cond 8 hx (by kernel_rfl) (fun k hk => by cases hk) (by kernel_rfl) (laidMet_nil _ _))) ?_
  intro W base args ds gs before hval0 hW _ _ hsz0 _ _ _
  have hval : ∀ (j : Nat) t v, Try.f5.params[j]? = some t → args[j]? = some v → Value.okWide Try.prog W .any base t v := hval0
  have hW' := hW
  obtain ⟨p, q, hA0, hV, rfl, hfz, hnd⟩ := hW
  have hA : DataW.TrodAll enc Try.prog W 0 (fun _ => true) true Try.f5.params.toList args.toList ds p := hA0
  obtain ⟨rfl, rfl⟩ := trodVars_none hV
  simp only [List.append_nil] at hW'
  have hA2 := hA
  rw [Try.params5] at hA2 hval
  obtain ⟨v0, d0, hargs, rfl, h0⟩ := trodAll_one hA2
  obtain rfl : args = #[v0] := by cases args; simp_all
  have hsz : (DataW.weightsEach Try.prog [38] [d0]).all (fun x => decide (x ≤ reachBytes)) = true := hsz0
  have hw : ∀ k ∈ d0.weights Try.prog 38, k ≤ reachBytes := fun k hk => by
    have := List.all_eq_true.1 hsz k (DataW.weights_mem_each (j := 0) (t := 38) rfl rfl k hk)
    simpa using this
  obtain ⟨t0, x0, A0, c0, xs0, A1, c1, ys1, rfl, ht0, hx0, hb0, hb1⟩ := rub_open h0 (okWide_struct Try.underlying38 (hval 0 38 v0 rfl rfl))
  have hsd := rub_sized ht0 h0 hw
  refine (rubs_walk W t0 ht0 x0 hx0 A0 A1 c0 c1 _ _ xs0 ys1 (hid hb0) (hid hb1) rfl rfl hsd).mono fun e W' ⟨he, hbel⟩ => ?_
  exact ⟨_, he, law_post laidOutK Try.underlying4 rfl rfl (by decide +kernel) ⟨rfl, rfl, rfl⟩ hW' hA hbel.out⟩

theorem echoRubs_holds : Rows.EchoRubsSaid :=
  OpenClaim.holds_of_cond 5 Try.f5 rfl rfl rfl rfl rfl rfl rfl ⟨rfl, rfl, rfl, rfl, rfl⟩ rfl rfl rfl rfl rfl (by kernel_rfl) Try.func5 (by kernel_rfl)
    (of_decide_eq_true (by kernel_rfl)) (by unfold Func.isWrapper; rw [if_neg (of_decide_eq_false (by kernel_rfl))]; exact ⟨rfl, rfl⟩)
    (fun os started H enc _ F => by rw [OpenClaim.pre_eq_preRow]; exact echoRubs_lifted os started H enc F)
#print axioms echoRubs_holds
end Go.Proofs.Ytgollkckdnaegaa
