/- For all pending signals and every mask, what Pick tells is as the document says, is pending, isn't masked but for KILL and STOP, and isn't told again: sigset at the landed commit. Conditions: none (the program's own table of signals is laid as its text lays it; the card ties it). -/
import Derived.Test.YtjbmoiblkehbmaaDoorSGS
import Derived.Test.YtjbmoiblkehbmaaDoorSGP
import Derived.Test.YtjbmoiblkehbmaaDoorCards
import Derived.Test.YtjbmoiblkehbmaaDoorTie
namespace Go.Proofs.YtjbmoiblkehbmaaDoor
open Go.ChangeShapes Go.WideShapes Go.ChangeAt Go.RowKit Go.Deep L18

set_option maxRecDepth 100000 in
theorem sigsetPicks_met (os : Os) (args : Array Value) : laidMet Tryd.prog Rows.sigsetPicksRow.laid ((laidWorld os).forCall (fun _ _ => 0) ⟨#[], args, []⟩).memory :=
  laidMet_of_run' 8 (by kernel_rfl) (by kernel_rfl)
theorem sigsetPicks_reads (os : Os) {H : Type} (enc : TypeId × Value → H) : ∃ places, DataW.whole enc Tryd.prog ((laidWorld os).forCall (fun _ _ => 0) ⟨#[], #[.int .u64 0, .int .u64 0], []⟩).memory Tryd.f6.params.toList Rows.sigsetPicksSpec.vars false #[Value.int .u64 0, Value.int .u64 0].toList 8 = some ([.lit (.int .u64 0), .lit (.int .u64 0)], [], places) :=
  ⟨[], by kernel_rfl⟩
set_option maxRecDepth 100000 in
theorem sigsetPicks_lifted (os : Os) (started : os.Started) (H : Type) (enc : TypeId × Value → H) (F : Stop.Interp) :
    ReturnsInHanded {} Tryd.checked os 6 .any ((OpenSpec.ofChange Rows.sigsetPicksSpec).preRow enc Tryd.prog Tryd.f6 Rows.sigsetPicksRow.domain false Rows.sigsetPicksRow.laid) (((OpenSpec.ofChange Rows.sigsetPicksSpec).at F).post enc Tryd.prog Tryd.f6 false true false false) := by
  obtain ⟨places, hx⟩ := sigsetPicks_reads os enc
  refine returnsInHanded_of_row (C := Tryd.checked) (s := OpenSpec.ofChange Rows.sigsetPicksSpec) ownK started (by kernel_rfl) Tryd.func6
    (witness_row_at (enc := enc) (C := Tryd.checked) false (laidWorld os) #[.int .u64 0, .int .u64 0] rfl (by kernel_rfl) (by kernel_rfl) (by kernel_rfl)
      (OpenSpec.preRow_of_cond 8 hx (by kernel_rfl) (fun k hk => by cases hk) (by kernel_rfl) (sigsetPicks_met os _))) ?_
  intro W base args ds gs before hval0 hW _ _ _ hL _ _
  have hval : ∀ (j : Nat) t v, Tryd.f6.params[j]? = some t → args[j]? = some v → Value.okWide Tryd.prog W .any base t v := hval0
  have HT := tab_laid hL
  have hW' := hW
  obtain ⟨p, q, hA0, hV, rfl, hfz, hnd⟩ := hW
  have hA : DataW.TrodAll enc Tryd.prog W 0 (fun _ => true) true Tryd.f6.params.toList args.toList ds p := hA0
  obtain ⟨rfl, rfl⟩ := trodVars_none hV
  simp only [List.append_nil] at hW'
  have hA2 := hA
  rw [Tryd.params6] at hA2 hval
  obtain ⟨v0, v1, d0, d1, p0, p1, hargs, rfl, rfl, h0, h1⟩ := trodAll_two hA2
  obtain rfl : args = #[v0, v1] := by cases args; simp_all
  obtain ⟨z0, rfl, rfl, rfl, w0⟩ := open_int Tryd.underlying29 (hval 0 29 v0 rfl rfl) h0
  have b0 := bounds_u64 w0
  obtain ⟨x0, rfl⟩ := Int.eq_ofNat_of_zero_le b0.1
  have u0 : Hid (U64 x0) := hid (by have := b0.2; show x0 < _; omega)
  obtain ⟨z1, rfl, rfl, rfl, w1⟩ := open_int Tryd.underlying29 (hval 1 29 v1 rfl rfl) h1
  have b1 := bounds_u64 w1
  obtain ⟨x1, rfl⟩ := Int.eq_ofNat_of_zero_le b1.1
  have u1 : Hid (U64 x1) := hid (by have := b1.2; show x1 < _; omega)
  refine (picks_walk HT u0 u1).mono fun e W' ⟨he, hbel⟩ => ?_
  exact ⟨_, he, law_post laidOutK Tryd.underlying4 rfl rfl (by decide +kernel) ⟨rfl, rfl, rfl⟩ hW' hA hbel.out⟩
theorem sigsetPicks_said : Rows.SigsetPicksSaid :=
  OpenClaim.holds_of_cond 6 Tryd.f6 rfl rfl rfl rfl rfl rfl rfl ⟨rfl, rfl, rfl, rfl, rfl⟩ rfl rfl rfl rfl rfl (by kernel_rfl) Tryd.func6 (by kernel_rfl)
    (of_decide_eq_true (by kernel_rfl)) (by unfold Func.isWrapper; rw [if_neg (of_decide_eq_false (by kernel_rfl))]; exact ⟨rfl, rfl⟩)
    (fun os started H enc _ F => by rw [OpenClaim.pre_eq_preRow]; exact sigsetPicks_lifted os started H enc F)
theorem sigsetPicks_plain (f : FuncId) (fn : Func) (hf : Tryd.pinned.checked.prog.funcNamed Rows.sigsetPicksRow.func = some f) (hfn : Tryd.pinned.checked.prog.funcs[f]? = some fn) :
    false = Tryd.pinned.checked.prog.looks [] ∧ ∀ (j : Nat) t, fn.params[j]? = some t → Tryd.pinned.checked.prog.wantsStandIn t = false := by
  obtain rfl : f = 6 := Option.some.inj ((show Tryd.prog.funcNamed Rows.sigsetPicksRow.func = some 6 by kernel_rfl).symm.trans hf) |>.symm
  obtain rfl : fn = Tryd.f6 := (Option.some.inj (Tryd.func6.symm.trans hfn)).symm
  refine ⟨by kernel_rfl, fun j t ht => ?_⟩
  have hm := Array.mem_of_getElem? ht
  rw [Tryd.params6] at hm
  have : t = 29 := by simpa using hm
  subst this
  exact (show Tryd.prog.wantsStandIn 29 = false by kernel_rfl)
theorem sigsetPicks_holds : Rows.SigsetPicksCardSaid :=
  Claim7.holds_tied_plain_at .later [] _ _ _ _ sigsetPicks_said (fun _ h => by cases h) (by kernel_rfl) (fun _ h => by cases h) sigsetPicks_row_tie rfl ⟨rfl, rfl⟩ (by kernel_rfl) rfl sigsetPicks_plain (by kernel_rfl)
#print axioms sigsetPicks_holds
end Go.Proofs.YtjbmoiblkehbmaaDoor
