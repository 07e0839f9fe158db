import Derived.Test.YtggcampdkgfmgaaJB
namespace Go.Proofs.Ytggcampdkgfmgaa.F2
open Go.RowKit

set_option maxHeartbeats 400000 in
set_option maxRecDepth 100000 in
theorem copied_any (w : World) (B : Nat) (A : Option Addr) (c : Nat) (bs : List UInt8) (h : SlB w B A c bs) (hl : bs.length ≤ 1000000) :
    Calls Try.prog 28 #[.slice A bs.length c] w fun e w' => ∃ A' c', e = .returned (.slice A' bs.length c') ∧ w'.ownsRow w.heap.size 5 1 (.slice A' bs.length c') bs.length (bv bs) ∧ Below w.heap.size w w' := by
  obtain ⟨i0, hi0, hz0, hz1, hz2⟩ := info_parts Try.info5
  have HL := hid hl; clear hl
  go_enter Try.func28, Try.ntmps28
  go_wp2_with (at_builtin; refine wpList_app _ rfl (.const (.slice none 0 0)) (.tmp 3) 27 rfl w.heap.size 5 i0 _ 1 1 Try.underlying27 hi0 hz0 hz1 hz2 rfl (by omega) none 0 0 [] rfl (World.ownsRow_nil _ _ _ _) B A bs.length c (bv bs) rfl ?c0 ?c1 ?c2 ?b1 ?b2 ?b3 ?grow)
  case c0 => simp [bv_length]
  case c1 => exact h.2.2.2
  case c2 => exact bv_one _
  case b1 => have := HL.out; unfold maxLen; omega
  case b2 => have := HL.out; omega
  case b3 => omega
  case grow =>
    intro A' c' w' ho' hg
    have HO := hid ho'
    have HG := hid hg
    clear ho' hg
    go_wp2
    go_ret

    refine ⟨A', c', by simp, by simpa using HO.out, ?_⟩
    exact app_bel (Below.refl _ _) (World.ownsRow_nil _ _ 5 1) HG.out
end Go.Proofs.Ytggcampdkgfmgaa.F2
