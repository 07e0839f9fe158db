/- For every size, bytes, cut and two wishes, bytes written to a ring at the landed commit in two parts, and read in two parts, are written and read at once, and nothing that came in changes. Conditions: none. -/
import Derived.Test.YtidgbojgdllghaaRM
namespace Go.Proofs.Ytidgbojgdllghaa
open Go.ChangeShapes Go.WideShapes Go.ChangeAt Go.RowKit Go.Deep

theorem parts_any (w : World) (size : Int) (A : Option Addr) (c x y z : Nat) (b : List UInt8) (hb : SlB w w.heap.size A c b) (hx : x < 65536) (hy : y < 65536) (hz : z < 65536) :
    Calls Try.prog 6 #[.agg #[.int .i64 size, .slice A b.length c, .int .u16 x, .int .u16 y, .int .u16 z]] w fun e w' => e = .returned (.bool true) ∧ Hid (Below w.heap.size w w') := by
  by_cases hs : size < 1 ∨ 65536 < size
  · exact parts_bad w size A c _ x y z b (hid rfl) hb hs
  · by_cases hbig : (100000 : Int) < b.length
    · exact parts_big w size A c _ x y z hbig
    · obtain ⟨n, rfl⟩ := Int.eq_ofNat_of_zero_le (show 0 ≤ size by omega)
      obtain ⟨h1, h2, h3, h4⟩ := hb
      have h2' : c ≤ 9223372036854775807 := by unfold maxLen at h2; omega
      have hat : x % (b.length + 1) ≤ b.length := by have := Nat.mod_lt x (show 0 < b.length + 1 by omega); omega
      have he : (x : Int) % ((b.length : Int) + 1) = ((x % (b.length + 1) : Nat) : Int) := by rw [Int.natCast_emod]; rfl
      refine parts_walk w n A c b.length x y z (x % (b.length + 1)) b (hid rfl) ⟨h1, h2, h3, h4⟩ (by omega) (by omega) (by omega) hx hy hz he (by rw [Int.tmod_eq_emod_of_nonneg (by omega)]; exact he) hat h1 h2' ?_
      cases A with
      | none =>
        have hc := h3 rfl
        have hn : b.length = 0 := by omega
        exact .inl ⟨rfl, hn, hc, by rw [hn]; exact Nat.mod_one _⟩
      | some a =>
        by_cases hca : c = x % (b.length + 1)
        · exact .inr (.inl ⟨a, rfl, hca.symm, by omega⟩)
        · exact .inr (.inr ⟨a, rfl, hca⟩)

theorem ringParts_reads (os : Os) {H : Type} (enc : TypeId × Value → H) : ∃ places, DataW.whole enc Try.prog ((startWorld os).forCall (fun _ _ => 0) ⟨#[], #[.agg #[.int .i64 0, .slice none 0 0, .int .u16 0, .int .u16 0, .int .u16 0]], []⟩).memory Try.f6.params.toList Rows.ringPartsSpec.vars false #[.agg #[.int .i64 0, .slice none 0 0, .int .u16 0, .int .u16 0, .int .u16 0]].toList 8 = some ([.agg [.lit (.int .i64 0), .nil, .lit (.int .u16 0), .lit (.int .u16 0), .lit (.int .u16 0)]], [], places) :=
  ⟨[], by kernel_rfl⟩

set_option maxRecDepth 100000 in
theorem ringParts_lifted (os : Os) (started : os.Started) (H : Type) (enc : TypeId × Value → H) (F : Stop.Interp) :
    ReturnsInHanded {} Try.checked os 6 .any ((OpenSpec.ofChange Rows.ringPartsSpec).preRow enc Try.prog Try.f6 Rows.ringPartsRow.domain false Rows.ringPartsRow.laid) (((OpenSpec.ofChange Rows.ringPartsSpec).at F).post enc Try.prog Try.f6 false true false false) := by
  obtain ⟨places, hx⟩ := ringParts_reads os enc
  refine returnsInHanded_of_row (C := Try.checked) (s := OpenSpec.ofChange Rows.ringPartsSpec) ownK started (by kernel_rfl) Try.func6
    (witness_row_at (enc := enc) (C := Try.checked) false (startWorld os) #[.agg #[.int .i64 0, .slice none 0 0, .int .u16 0, .int .u16 0, .int .u16 0]] rfl (by kernel_rfl) (by kernel_rfl) (by kernel_rfl)
      (OpenSpec.preRow_of_cond 8 hx (by kernel_rfl) (fun k hk => by cases hk) (by kernel_rfl) (laidMet_nil _ _))) ?_
  intro W base args ds gs before hval0 hW _ _ _ _ _ _
  have hval : ∀ (j : Nat) t v, Try.f6.params[j]? = some t → args[j]? = some v → Value.okWide Try.prog W .any base t v := hval0
  have hW' := hW
  obtain ⟨p, q, hA0, hV, rfl, hfz, hnd⟩ := hW
  have hA : DataW.TrodAll enc Try.prog W 0 (fun _ => true) true Try.f6.params.toList args.toList ds p := hA0
  obtain ⟨rfl, rfl⟩ := trodVars_none hV
  simp only [List.append_nil] at hW'
  have hA2 := hA
  rw [Try.params6] at hA2 hval
  obtain ⟨v0, d0, hargs, rfl, h0⟩ := trodAll_one hA2
  obtain rfl : args = #[v0] := by cases args; simp_all
  obtain ⟨size, A, c, b, x, y, z, rfl, hs, hx, hy, hz⟩ := parts_open h0 (okWide_struct Try.underlying49 (hval 0 49 v0 rfl rfl))
  refine (parts_any W size A c x y z b hs hx hy hz).mono fun e W' ⟨he, hbel⟩ => ?_
  exact ⟨_, he, law_post laidOutK Try.underlying4 rfl rfl (by decide +kernel) ⟨rfl, rfl, rfl⟩ hW' hA hbel.out⟩

theorem ringParts_holds : Rows.RingPartsSaid :=
  OpenClaim.holds_of_cond 6 Try.f6 rfl rfl rfl rfl rfl rfl rfl ⟨rfl, rfl, rfl, rfl, rfl⟩ rfl rfl rfl rfl rfl (by kernel_rfl) Try.func6 (by kernel_rfl)
    (of_decide_eq_true (by kernel_rfl)) (by unfold Func.isWrapper; rw [if_neg (of_decide_eq_false (by kernel_rfl))]; exact ⟨rfl, rfl⟩)
    (fun os started H enc _ F => by rw [OpenClaim.pre_eq_preRow]; exact ringParts_lifted os started H enc F)
#print axioms ringParts_holds
end Go.Proofs.Ytidgbojgdllghaa
