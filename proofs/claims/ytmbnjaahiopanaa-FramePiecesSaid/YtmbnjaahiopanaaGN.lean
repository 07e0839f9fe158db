/- For every framer, all bytes and every cut, without the document's answer: bytes that are handed to frame.Feed in two pieces are bytes at once: the same payloads, and the same framer behind them. Conditions: none. -/
import Derived.Test.YtmbnjaahiopanaaGI
import Derived.Test.YtmbnjaahiopanaaGK
import Derived.Test.YtmbnjaahiopanaaGL
import Derived.Test.YtmbnjaahiopanaaGM
namespace Go.Proofs.Ytmbnjaahiopanaa
open Go.ChangeShapes Go.WideShapes Go.ChangeAt Go.RowKit Go.Deep

theorem pieces_any (w : World) (FA A : Option Addr) (fc c : Nat) (fb b : List UInt8) (bad : Bool) (cut : Int) (hf : SlB w w.heap.size FA fc fb) (hb : SlB w w.heap.size A c b) (h0 : 0 ≤ cut) (h1 : cut < 65536) :
    Calls Try.prog 5 #[.agg #[.slice FA fb.length fc, .bool bad], .slice A b.length c, .int .u16 cut] w fun e w' => e = .returned (.bool true) ∧ Below w.heap.size w w' := by
  cases A with
  | none =>
    have hc : c = 0 := hb.2.2.1 rfl
    subst hc
    have hb0 : b = [] := List.eq_nil_of_length_eq_zero (by have := hb.1; omega)
    subst hb0
    by_cases hg : (feedX bad (fb ++ ([] : List UInt8))).2.2 = 0
    · exact pieces_good0 w FA fc fb bad cut hg hf h0 h1
    · exact pieces_bad0 w FA fc fb bad cut hg hf h0 h1
  | some a =>
    obtain ⟨k, hk⟩ : ∃ k : Nat, k = (cut % ((b.length : Int) + 1)).toNat := ⟨_, rfl⟩
    have hmod0 := Int.emod_nonneg cut (b := (b.length : Int) + 1) (by omega)
    have hmod1 := Int.emod_lt_of_pos cut (b := (b.length : Int) + 1) (by omega)
    have hkk : cut % ((b.length : Int) + 1) = k := by omega
    have hkn : k ≤ b.length := by omega
    by_cases hg : (feedX bad (fb ++ b.take k)).2.2 = 0
    · exact pieces_good w FA a fc c k fb b bad cut hkk hkn hg hf hb h0 h1
    · exact pieces_bad w FA a fc c k fb b bad cut hkk hkn hg hf hb h0 h1

theorem pieces_reads (os : Os) {H : Type} (enc : TypeId × Value → H) : ∃ places, DataW.whole enc Try.prog ((startWorld os).forCall (fun _ _ => 0) ⟨#[], #[.agg #[.slice none 0 0, .bool false], .slice none 0 0, .int .u16 0], []⟩).memory Try.f5.params.toList Rows.framePiecesSpec.vars false #[Value.agg #[.slice none 0 0, .bool false], Value.slice none 0 0, Value.int .u16 0].toList 8 = some ([.agg [.nil, .lit (.bool false)], .nil, .lit (.int .u16 0)], [], places) :=
  ⟨[], by kernel_rfl⟩

set_option maxRecDepth 100000 in
theorem pieces_lifted (os : Os) (started : os.Started) (H : Type) (enc : TypeId × Value → H) (F : Stop.Interp) :
    ReturnsInHanded {} Try.checked os 5 .any ((OpenSpec.ofChange Rows.framePiecesSpec).preRow enc Try.prog Try.f5 Rows.framePiecesRow.domain false Rows.framePiecesRow.laid) (((OpenSpec.ofChange Rows.framePiecesSpec).at F).post enc Try.prog Try.f5 false true false false) := by
  obtain ⟨places, hx⟩ := pieces_reads os enc
  refine returnsInHanded_of_row (C := Try.checked) (s := OpenSpec.ofChange Rows.framePiecesSpec) ownK started (by kernel_rfl) Try.func5
    (witness_row_at (enc := enc) (C := Try.checked) false (startWorld os) #[.agg #[.slice none 0 0, .bool false], .slice none 0 0, .int .u16 0] rfl (by kernel_rfl) (by kernel_rfl) (by kernel_rfl)
      (OpenSpec.preRow_of_cond 8 hx (by kernel_rfl) (fun k hk => by cases hk) (by kernel_rfl) (laidMet_nil _ _))) ?_
  intro W base args ds gs before hval0 hW _ _ hsz0 _ _ _
  have hval : ∀ (j : Nat) t v, Try.f5.params[j]? = some t → args[j]? = some v → Value.okWide Try.prog W .any base t v := hval0
  have hW' := hW
  obtain ⟨p, q, hA0, hV, rfl, hfz, hnd⟩ := hW
  have hA : DataW.TrodAll enc Try.prog W 0 (fun _ => true) true Try.f5.params.toList args.toList ds p := hA0
  obtain ⟨rfl, rfl⟩ := trodVars_none hV
  simp only [List.append_nil] at hW'
  have hA2 := hA
  rw [Try.params5] at hA2 hval
  obtain ⟨v0, v1, v2, d0, d1, d2, p0, p1, p2, hargs, rfl, rfl, h0, h1, h2⟩ := trodAll_three hA2
  obtain rfl : args = #[v0, v1, v2] := by cases args; simp_all
  obtain ⟨zk, rfl, rfl, rfl, wk⟩ := open_int Try.underlying45 (hval 2 45 v2 rfl rfl) h2
  have hbk := bounds_u16 wk
  obtain ⟨Af, cf, bf, badf, rfl, hf⟩ := framer_open h0 (okWide_struct Try.underlying33 (hval 0 33 v0 rfl rfl))
  obtain ⟨Ab, cb, bb, rfl, hb⟩ := sl_open h1 (okWide_slice Try.underlying22 (hval 1 22 v1 rfl rfl))
  refine (pieces_any W Af Ab cf cb bf bb badf zk hf hb hbk.1 (by have := hbk.2; omega)).mono fun e W' ⟨he, hbel⟩ => ?_
  exact ⟨_, he, law_post laidOutK Try.underlying4 rfl rfl (by decide +kernel) ⟨rfl, rfl, rfl⟩ hW' hA hbel⟩

theorem framePieces_holds : Rows.FramePiecesSaid :=
  OpenClaim.holds_of_cond 5 Try.f5 rfl rfl rfl rfl rfl rfl rfl ⟨rfl, rfl, rfl, rfl, rfl⟩ rfl rfl rfl rfl rfl (by kernel_rfl) Try.func5 (by kernel_rfl)
    (of_decide_eq_true (by kernel_rfl)) (by unfold Func.isWrapper; rw [if_neg (of_decide_eq_false (by kernel_rfl))]; exact ⟨rfl, rfl⟩)
    (fun os started H enc _ F => by rw [OpenClaim.pre_eq_preRow]; exact pieces_lifted os started H enc F)
#print axioms framePieces_holds
end Go.Proofs.Ytmbnjaahiopanaa
