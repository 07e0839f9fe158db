import Derived.Test.YtpfcjcldokghbaaNG
import Derived.Test.YtpfcjcldokghbaaMS
import Derived.Deep.RegionHeld3
namespace Go.Proofs.Ytpfcjcldokghbaa
open Go.RowKit

section
variable {dst : Option Tmp} {x : Operand} {ty : TypeId} {pos : String} {after : Array Edge} {gd : Option (Nat × Bool)}
theorem ex_ld26 {ev : Operand → Value} {w : World} (h1 : isP (ev x) = true) (h2 : isB w (blkV (ev x)) = true) :
    (execOp ev { dst, op := .load 26 x, type := ty, pos, after, guard := gd }).run Try.prog w = .ok (.value (.agg (cs26 w (blkV (ev x))))) w := by
  obtain ⟨hb, hs⟩ := isB_box h2
  have hx := isP_eq h1
  generalize blkV (ev x) = g at *
  unfold execOp
  simp only [hx, Instr.loadAt, Instr.sureAddr, Sem.run_bind, Sem.run_pure, Result.andThen_ok, run_loadVar_row (P := Try.prog) w g 26 26 _ (0, 0) _ hb Try.underlying26 rfl (by rw [hs]; exact Try.size26)]
end
theorem call_alive (w : World) : Calls Try.prog 7 #[] w fun e w' => e = .returned (.bool true) ∧ Hid (Below w.heap.size w w') := alive_any w
theorem drw {w u : World} (h : Hid (Below w.heap.size w u)) : Hid (Below w.heap.size w u.drew) := hid h.out.drew
attribute [local go_sem ↓] ex_ld26
attribute [local go_sem] isP_v blkV_v aggV_v
set_option maxRecDepth 100000 in
set_option maxHeartbeats 4000000 in
theorem is_walk (w : World) (t : Tm) (ht : t.Ok) (c : UInt8) : Calls Try.prog 3 #[.agg t.cs, .int .u8 (c.toNat : Int)] w fun e w' => e = .returned (.bool true) ∧ Hid (Below w.heap.size w w') := by
  have hs := cs_size ht.len
  have K0 : Hid (Below w.heap.size w (w.alloc (.cells t.cs 26))) := hid ((Below.refl _ w).alloc (Nat.le_refl _) _)
  obtain ⟨⟨v, ok⟩, hv⟩ : ∃ z, turnB t c = z := ⟨_, rfl⟩
  obtain ⟨d, hd⟩ : ∃ d, stripB t c = d := ⟨_, rfl⟩
  obtain ⟨l, hl⟩ : ∃ l, markB t c = l := ⟨_, rfl⟩
  have hln : l.length ≤ 2 := by rw [← hl]; exact markB_len t c
  have HM : Hid (∀ w, Calls Try.prog 13 #[.agg t.cs, .int .u8 (c.toNat : Int)] w (Ret w l)) := hid fun w => by rw [← hl]; exact mark_any w t ht c
  have HN : Hid (∀ w, Calls Try.prog 14 #[.agg t.cs, .int .u8 (c.toNat : Int)] w (Ret w l)) := hid fun w => by rw [← hl]; exact markr_any w t ht c
  have HV := hid hv
  have HD := hid hd
  clear hl hv hd
  go_enter Try.func3, Try.ntmps3
  go_wp2_with (first
    | (refine bx26 (by rfl) _ (by rfl) _ (by rfl) hs ?_
       intro G0)
    | (refine ld26 (by rfl) _ (by rfl) _ (by rfl) t.cs G1.out hs ?_)
    | (refine ld26 (by rfl) _ (by rfl) _ (by rfl) t.cs G2.out hs ?_)
    | (go_at_call 7
       (with_reducible refine (call_alive _).mono ?_)
       rintro e u1 ⟨rfl, k⟩
       have G1 := hid (box_below G0.out k.out)
       have K1 := bel_t K0 k.out
       clear k G0 K0)
    | (go_at_call 8
       (with_reducible refine (turn_b _ ht HV.out).mono ?_)
       rintro e u2 ⟨rfl, k⟩
       have G2 := hid (box_below G1.out k.out)
       have K2 := bel_t K1 k.out
       clear k G1 K1)
    | (go_at_call 9
       (with_reducible refine (turnr_b _ ht HV.out).mono ?_)
       rintro e u3 ⟨rfl, k⟩
       have G3 := hid (box_below G2.out k.out)
       have K3 := bel_t K2 k.out
       clear k G2 K2))
  have S3 := box_isB (w := u3.drew) G3.out ht.len
  have G3d : Hid (Box u3.drew w.heap.size 26 t.cs) := G3
  have K3d := drw K3
  go_region_held3 (fun u => isB u w.heap.size = true ∧ cs26 u w.heap.size = t.cs) (first | exact S3 | exact S4 | exact S5 | exact S6 | exact S7 | exact S8) ((first
    | (go_at_call 10
       (with_reducible refine (strip_b _ ht HD.out).mono ?_)
       rintro e u4 ⟨rfl, k⟩
       have G4 := hid (box_below G3d.out k.out)
       have K4 := bel_t K3d k.out
       have S4 := box_isB G4.out ht.len
       clear k)
    | (go_at_call 11
       (with_reducible refine (stripr_b _ ht HD.out).mono ?_)
       rintro e u5 ⟨rfl, k⟩
       have G5 := hid (box_below G4.out k.out)
       have K5 := bel_t K4 k.out
       have S5 := box_isB G5.out ht.len
       clear k)
    | (go_at_call 13
       (with_reducible refine (HM.out _).mono ?_)
       rintro e u6 ⟨A6, n6, c6, rfl, hn6, L6, k⟩
       have G6 := hid (box_below G5.out k.out)
       have K6 := bel_t K5 k.out
       have S6 := box_isB G6.out ht.len
       clear k)
    | (go_at_call 14
       (with_reducible refine (HN.out _).mono ?_)
       rintro e u7 ⟨A7, n7, c7, rfl, hn7, L7, k⟩
       have G7 := hid (box_below G6.out k.out)
       have K7 := bel_t K6 k.out
       have S7 := box_isB G7.out ht.len
       have L67 := slb_at L6 k
       clear k)
    | (go_at_call 12
       (with_reducible refine (bytes_two _ A6 A7 c6 c7 n6 n7 l l hn6.out hn7.out (Eq.refl l) L67 L7 (by have := hn6.out; unfold maxLen; omega)).mono ?_)
       rintro e u8 ⟨rfl, k⟩
       have G8 := hid (box_below G7.out k.out)
       have K8 := bel_t K7 k.out
       have S8 := box_isB G8.out ht.len
       clear k)))
  go_wp2
  go_ret
  exact ⟨rfl, K8⟩
end Go.Proofs.Ytpfcjcldokghbaa
