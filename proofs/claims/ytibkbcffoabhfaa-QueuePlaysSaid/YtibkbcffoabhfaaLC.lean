/- For every setting and steps, what each step of a queue at the landed commit answers, how many records and bytes there are, and whether it is too much, is what the document's queue says; what is handed in stays, whatever is done to what is handed out. Conditions: none. -/
import Derived.Test.YtibkbcffoabhfaaLB
namespace Go.Proofs.Ytibkbcffoabhfaa
open Go.ChangeShapes Go.WideShapes Go.ChangeAt Go.RowKit Go.Deep

theorem weights_all {H : Type} {P : Program} {t : TypeId} : ∀ {ds : List (DataW H)} {d : DataW H}, d ∈ ds → ∀ n ∈ d.weights P t, n ∈ DataW.weightsAll P t ds
  | [], _, h, _, _ => by cases h
  | x :: r, d, h, n, hn => by
    rw [DataW.weightsAll, List.mem_append]
    rcases List.mem_cons.1 h with rfl | h
    · exact .inl hn
    · exact .inr (weights_all h n hn)
section
variable {H : Type} {enc : TypeId × Value → H} {w : World} {base : Nat} {spare : Nat → Bool} {held : Bool}
theorem bytes_weight {fuel n c : Nat} {A : Option Addr} {x : DataW H × List MemPlace} (h : DataW.trod enc Try.prog w base spare held fuel 34 [.slice A n c] = some x)
    (hw : ∀ k ∈ x.1.weights Try.prog 34, k ≤ reachBytes) : n ≤ reachBytes := by
  rcases open_ints Try.underlying34 Try.underlying5 cells5 h with ⟨he, _⟩ | ⟨a, len, cap, zs, he, _, hl, hm, hz, rfl, _, _⟩
  · simp only [List.cons.injEq, and_true] at he
    injection he with _ e _
    rw [e]; exact Nat.zero_le _
  · simp only [List.cons.injEq, and_true] at he
    injection he with _ e _
    subst e
    have hzl : n ≤ zs.length := by rw [hz]; split <;> omega
    have := hw _ (by
      simp only [DataW.weights, Try.underlying34]
      exact List.mem_cons_self)
    rw [bytes5] at this
    simp only [lits, List.length_map, List.length_take, List.length_drop, Nat.min_eq_left hzl] at this
    omega
set_option maxRecDepth 100000 in
theorem op_weight {fuel n : Nat} {tc : Nat} {tA : Option Addr} {v0 : Value} {x : DataW H × List MemPlace} (h : DataW.trod enc Try.prog w base spare held fuel 36 [v0, .slice tA n tc] = some x)
    (hw : ∀ k ∈ x.1.weights Try.prog 36, k ≤ reachBytes) : n ≤ reachBytes := by
  obtain ⟨xs, m, _, rfl, hlen, hxl, hf⟩ := DataW.trod_struct Try.underlying36 h
  have h2 : DataW.trod enc Try.prog w base spare held m 34 (([v0, .slice tA n tc].drop 1).take (Try.prog.cellsOf 34)) = xs[1]? := hf 1 _ rfl
  rw [cells34] at h2
  match xs, hxl with
  | [y0, y2], _ =>
    have h2 : DataW.trod enc Try.prog w base spare held m 34 [.slice tA n tc] = some y2 := h2
    simp only [DataW.weights, Try.underlying36] at hw
    exact bytes_weight h2 fun k hk => hw k (DataW.weights_mem_each (j := 1) (t := 34) rfl rfl k hk)
set_option maxRecDepth 100000 in
theorem ops_sized {v : Value} {d : DataW H} {p : List MemPlace} {A : Option Addr} {c B : Nat} {l : List OpV} (h : DataW.Trod enc Try.prog w base (fun _ => true) held 24 v d p) (hv : v = .slice A l.length c)
    (hF : OpsV w B A l) (hw : ∀ k ∈ d.weights Try.prog 24, k ≤ reachBytes) : ∀ o ∈ l, o.2.length ≤ reachBytes := by
  obtain ⟨fuel, hf⟩ := h
  subst hv
  rcases open_slice Try.underlying24 hf with ⟨hcs, _⟩ | ⟨a, len, cap, m, n, D, Pl, hcs, _, hl, hm, hmm, hx, hi⟩
  · simp only [Value.cells, List.cons.injEq, and_true] at hcs
    injection hcs with _ e _
    have : l = [] := List.eq_nil_of_length_eq_zero e
    subst this
    intro f hf
    cases hf
  · have hcs' : Value.slice A l.length c = .slice (some a) len cap := by simpa [Value.cells] using hcs
    injection hcs' with e1 e2 e3
    subst e1; subst e2; subst e3
    simp only [if_true] at hmm
    subst hmm
    injection hx with hd _
    subst hd
    intro f hfm
    obtain ⟨i, hil, rfl⟩ := List.getElem_of_mem hfm
    obtain ⟨b, o, hao, hb, hc⟩ := hF (by rintro rfl; cases hfm)
    injection hao with hao
    subst hao
    obtain ⟨tA, tc, _, q0, q2⟩ := hc i hil
    obtain ⟨cs', hcs2, ht⟩ := hi i (by omega)
    rw [cells36] at hcs2
    obtain ⟨_, hlen, hat⟩ := World.cells?_some hcs2
    match cs', hlen with
    | [v0, v2], _ =>
      have a2 := hat 1 (by omega)
      simp only [Addr.add_lit] at a2
      rw [q2] at a2
      simp only [List.getElem?_cons_succ, List.getElem?_cons_zero, Option.some.injEq] at a2
      subst a2
      exact op_weight ht fun k hk => hw k (by
        simp only [DataW.weights, Try.underlying24]
        rw [List.mem_cons, List.mem_append]
        exact .inr (.inl (weights_all (d := D i) (List.mem_map.2 ⟨i, List.mem_range.2 hil, rfl⟩) k hk)))
end
theorem plays_any (w : World) (b r hi lo : Int) (A : Option Addr) (c : Nat) (l : List OpV) (hl : OpsV w w.heap.size A l) (hl2 : l.length ≤ maxLen) (hsz : ∀ o ∈ l, o.2.length ≤ reachBytes) :
    Calls Try.prog 3 #[.agg #[.int .i64 b, .int .i64 r, .int .i64 hi, .int .i64 lo], .slice A l.length c] w fun e w' => e = .returned (.bool true) ∧ Hid (Below w.heap.size w w') := by
  cases hg : greatO l with
  | true => exact plays_great w b r hi lo A c _ l hl (hid rfl) hl2 hg
  | false =>
    by_cases hs : okI b r hi lo
    · obtain ⟨x, rfl⟩ := Int.eq_ofNat_of_zero_le (show 0 ≤ b by unfold okI at hs; omega)
      obtain ⟨y, rfl⟩ := Int.eq_ofNat_of_zero_le (show 0 ≤ r by unfold okI at hs; omega)
      obtain ⟨z, rfl⟩ := Int.eq_ofNat_of_zero_le (show 0 ≤ hi by unfold okI at hs; omega)
      obtain ⟨t, rfl⟩ := Int.eq_ofNat_of_zero_le (show 0 ≤ lo by unfold okI at hs; omega)
      exact plays_walk w ⟨x, y, z, t⟩ (by show Cf.ok _; unfold Cf.ok; unfold okI at hs; simp only; omega) A c _ l hl (hid rfl) hl2 hg (hid fun o ho => by have := hsz o ho; unfold reachBytes at this; omega)
    · exact plays_bad w b r hi lo A c _ l hl (hid rfl) hl2 hg hs

theorem queuePlays_reads (os : Os) {H : Type} (enc : TypeId × Value → H) : ∃ places, DataW.whole enc Try.prog ((startWorld os).forCall (fun _ _ => 0) ⟨#[], #[.agg #[.int .i64 0, .int .i64 0, .int .i64 0, .int .i64 0], .slice none 0 0], []⟩).memory Try.f3.params.toList Rows.queuePlaysSpec.vars false #[.agg #[.int .i64 0, .int .i64 0, .int .i64 0, .int .i64 0], .slice none 0 0].toList 8 = some ([.agg [.lit (.int .i64 0), .lit (.int .i64 0), .lit (.int .i64 0), .lit (.int .i64 0)], .nil], [], places) :=
  ⟨[], by kernel_rfl⟩

set_option maxRecDepth 100000 in
theorem queuePlays_lifted (os : Os) (started : os.Started) (H : Type) (enc : TypeId × Value → H) (F : Stop.Interp) :
    ReturnsInHanded {} Try.checked os 3 .any ((OpenSpec.ofChange Rows.queuePlaysSpec).preRow enc Try.prog Try.f3 Rows.queuePlaysRow.domain false Rows.queuePlaysRow.laid) (((OpenSpec.ofChange Rows.queuePlaysSpec).at F).post enc Try.prog Try.f3 false true false false) := by
  obtain ⟨places, hx⟩ := queuePlays_reads os enc
  refine returnsInHanded_of_row (C := Try.checked) (s := OpenSpec.ofChange Rows.queuePlaysSpec) ownK started (by kernel_rfl) Try.func3
    (witness_row_at (enc := enc) (C := Try.checked) false (startWorld os) #[.agg #[.int .i64 0, .int .i64 0, .int .i64 0, .int .i64 0], .slice none 0 0] rfl (by kernel_rfl) (by kernel_rfl) (by kernel_rfl)
      (OpenSpec.preRow_of_cond 8 hx (by kernel_rfl) (fun k hk => by cases hk) (by kernel_rfl) (laidMet_nil _ _))) ?_
  intro W base args ds gs before hval0 hW _ _ hsz0 _ _ _
  have hval : ∀ (j : Nat) t v, Try.f3.params[j]? = some t → args[j]? = some v → Value.okWide Try.prog W .any base t v := hval0
  have hW' := hW
  obtain ⟨p, q, hA0, hV, rfl, hfz, hnd⟩ := hW
  have hA : DataW.TrodAll enc Try.prog W 0 (fun _ => true) true Try.f3.params.toList args.toList ds p := hA0
  obtain ⟨rfl, rfl⟩ := trodVars_none hV
  simp only [List.append_nil] at hW'
  have hA2 := hA
  rw [Try.params3] at hA2 hval
  obtain ⟨v0, v1, d0, d1, p0, p1, hargs, rfl, rfl, h0, h1⟩ := trodAll_two hA2
  obtain rfl : args = #[v0, v1] := by cases args; simp_all
  obtain ⟨b, r, hi, lo, rfl⟩ := conf_open h0 (okWide_struct Try.underlying23 (hval 0 23 v0 rfl rfl))
  have hsz : (DataW.weightsEach Try.prog [23, 24] [d0, d1]).all (fun x => decide (x ≤ reachBytes)) = true := hsz0
  have hw : ∀ k ∈ d1.weights Try.prog 24, k ≤ reachBytes := fun k hk => by
    have := List.all_eq_true.1 hsz k (DataW.weights_mem_each (j := 1) (t := 24) rfl rfl k hk)
    simpa using this
  obtain ⟨A, c, l, hv, hc, hc2, _, hl⟩ := ops_open h1 (okWide_slice Try.underlying24 (hval 1 24 v1 rfl rfl))
  have hs := ops_sized h1 hv hl hw
  subst hv
  refine (plays_any W b r hi lo A c l hl (Nat.le_trans hc hc2) hs).mono fun e W' ⟨he, hbel⟩ => ?_
  exact ⟨_, he, law_post laidOutK Try.underlying4 rfl rfl (by decide +kernel) ⟨rfl, rfl, rfl⟩ hW' hA hbel.out⟩

theorem queuePlays_holds : Rows.QueuePlaysSaid :=
  OpenClaim.holds_of_cond 3 Try.f3 rfl rfl rfl rfl rfl rfl rfl ⟨rfl, rfl, rfl, rfl, rfl⟩ rfl rfl rfl rfl rfl (by kernel_rfl) Try.func3 (by kernel_rfl)
    (of_decide_eq_true (by kernel_rfl)) (by unfold Func.isWrapper; rw [if_neg (of_decide_eq_false (by kernel_rfl))]; exact ⟨rfl, rfl⟩)
    (fun os started H enc _ F => by rw [OpenClaim.pre_eq_preRow]; exact queuePlays_lifted os started H enc F)
#print axioms queuePlays_holds
end Go.Proofs.Ytibkbcffoabhfaa
