import Derived.Test.YtggcampdkgfmgaaOD
namespace Go.Proofs.Ytggcampdkgfmgaa.F2
open Go.RowKit

/-- A payload as a packet: the error, the bytes. -/
def putF (p : List UInt8) : Int × List UInt8 := if p.length < 1 ∨ 33792 < p.length then (5, []) else (0, four p.length ++ p)
theorem four_length (n : Nat) : (four n).length = 4 := rfl

set_option maxHeartbeats 1000000 in
set_option maxRecDepth 100000 in
theorem put_any (w : World) (B : Nat) (A : Option Addr) (c : Nat) (p : List UInt8) (h : SlB w B A c p) (hB : B ≤ w.heap.size) (hl : p.length ≤ maxLen) :
    Calls Try.prog 11 #[.slice A p.length c] w fun e w' => ∃ A' c', e = .returned (.tuple #[.slice A' (putF p).2.length c', .int .i64 (putF p).1]) ∧ w'.ownsRow w.heap.size 5 1 (.slice A' (putF p).2.length c') (putF p).2.length (bv (putF p).2) ∧ Below w.heap.size w w' := by
  obtain ⟨i0, hi0, hz0, hz1, hz2⟩ := info_parts Try.info5
  unfold maxLen at hl
  by_cases h1 : p.length < 1 ∨ 33792 < p.length
  · have e : putF p = (5, []) := by unfold putF; rw [if_pos h1]
    rw [e]
    have HS := hid h
    clear h
    by_cases h2 : p.length < 1
    · have h3 : ((p.length : Int) < 1) := by omega
      go_enter Try.func11, Try.ntmps11
      go_wp2
      go_ret2
      exact ⟨_, _, rfl, World.ownsRow_nil _ _ _ _, Below.refl _ _⟩
    · have h3 : ¬ ((p.length : Int) < 1) := by omega
      have h4 : ((33792 : Int) < p.length) := by omega
      go_enter Try.func11, Try.ntmps11
      go_wp2
      go_ret2
      exact ⟨_, _, rfl, World.ownsRow_nil _ _ _ _, Below.refl _ _⟩
  · have e : putF p = (0, four p.length ++ p) := by unfold putF; rw [if_neg h1]
    rw [e]
    have h3 : ¬ ((p.length : Int) < 1) := by omega
    have h4 : ¬ ((33792 : Int) < p.length) := by omega
    have HS := hid h
    have HV : Hid (bv (four p.length) = [.int .u8 ((p.length : Int) / 16777216), .int .u8 ((p.length : Int) / 65536), .int .u8 ((p.length : Int) / 256), .int .u8 ((p.length : Int) % 256)]) := by
      show _ = _
      rw [four_v p.length (by omega)]
      simp; omega
    clear h
    obtain ⟨w1, hmk, ho1, hg1⟩ := run_make_own (P := Try.prog) w w.heap.size 27 5 i0 _ 1 Try.underlying27 hi0 hz0 hz1 .i64 .i64 (4 + p.length) (by rw [hz2]; omega) (by unfold maxLen; omega) (Nat.le_refl _)
    rw [Int.natCast_add] at hmk
    have hmk : (Instr.makeSlice 27 (.int .i64 0) (.int .i64 (4 + (p.length : Int)))).run Try.prog w = .ok (.slice (some ⟨w.heap.size, 0, none⟩) 0 (4 + p.length)) w1 := hmk
    have hb1 : Below w.heap.size w w1 := ⟨hg1.os, hg1.tape, hg1.output, hg1.size, fun b hb => hg1.block b hb (by simp)⟩
    have HO1 := hid ho1
    have HB1 := hid hb1
    have hs1 : w.heap.size ≤ w1.heap.size := hb1.size
    clear ho1 hg1 hb1
    go_enter Try.func11, Try.ntmps11
    go_wp2_with (at_builtin; refine wpList_app _ rfl (.tmp 17) (.tmp 29) 27 rfl w.heap.size 5 i0 _ 1 1 Try.underlying27 hi0 hz0 hz1 hz2 rfl (by omega) (some ⟨w.heap.size, 0, none⟩) 0 (4 + p.length) [] rfl ?own (w1.heap.size + 1) (some ⟨w1.heap.size, 0, none⟩) 4 4 (bv (four p.length)) rfl rfl ?c1 ?c2 ?b1 ?b2 ?b3 ?grow)
    case own => exact HO1.out.alloc _
    case c1 => rw [HV.out]; exact lies_lit _ _ _
    case c2 => exact bv_one _
    case b1 => unfold maxLen; omega
    case b3 => first | omega | (simp; omega)
    case grow =>
      intro A2 c2 w2 ho2 hg2
      have HB2 := hid (app_bel (HB1.out.alloc hs1 _) (HO1.out.alloc _) hg2)
      have HO2 := hid ho2
      have hs2 : w.heap.size ≤ w2.heap.size := HB2.out.size
      clear ho2 hg2
      go_wp2_with (at_builtin; refine wpList_app _ rfl (.tmp 31) (.tmp 32) 27 rfl w.heap.size 5 i0 _ 1 1 Try.underlying27 hi0 hz0 hz1 hz2 rfl (by omega) A2 4 c2 (bv (four p.length)) rfl ?own2 w.heap.size A p.length c (bv p) rfl ?d0 ?d1 ?d2 ?e1 ?e2 ?e3 ?grow2)
      case own2 => exact HO2.out
      case d0 => simp [bv_length]
      case d1 => exact (HS.out.2.2.2.more hB).below HB2.out
      case d2 => exact bv_one _
      case e1 => unfold maxLen; omega
      case e2 => omega
      case e3 => omega
      case grow2 =>
        intro A3 c3 w3 ho3 hg3
        have HB3 := hid (app_bel HB2.out HO2.out hg3)
        have HO3 := hid ho3
        clear ho3 hg3
        go_wp2
        go_ret2
        refine ⟨A3, c3, by simp [four_length], ?_, HB3.out⟩
        rw [bv_append, List.length_append, four_length]
        exact HO3.out

end Go.Proofs.Ytggcampdkgfmgaa.F2
