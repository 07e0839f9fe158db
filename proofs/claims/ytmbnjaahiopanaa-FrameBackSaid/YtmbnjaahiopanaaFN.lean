import Derived.Test.YtmbnjaahiopanaaFM
import Derived.Lib.SlBytesConst
namespace Go.Proofs.Ytmbnjaahiopanaa
open Go.RowKit

theorem fedk_bel {W w2 : World} {o : Obj} {ps : List (List UInt8)} {left : List UInt8} {A LA : Option Addr} {m c k lc : Nat} (h : Hid (FedK (W.alloc o) w2 ps left A m c LA k lc)) : Hid (Below W.heap.size W w2) :=
  ((Below.refl _ _).alloc (Nat.le_refl _) _).trans (h.out.bel.mono (by simp))

theorem alive_f1 (W : World) : Calls Try.prog 14 #[.agg #[.slice none 0 0, .bool false], .slice (some ⟨W.heap.size, 0, none⟩) 5 5] (W.alloc (.cells #[.int .u8 0, .int .u8 0, .int .u8 0, .int .u8 2, .int .u8 97] 5))
    fun e w2 => ∃ A1 c1 LA lc, e = .returned (.tuple #[.agg #[.slice A1 5 c1, .bool false], .slice LA 0 lc, .int .i64 0]) ∧ Hid (SlB w2 w2.heap.size A1 c1 [0, 0, 0, 2, 97]) ∧ Hid (Below W.heap.size W w2) := by
  refine (feed_lit W W.heap.size none 0 0 5 0 5 [] [0, 0, 0, 2, 97] _ false [] [0, 0, 0, 2, 97] 0 (hid rfl) (hid rfl) (hid exF1) (hid (slb_nil _ _)) (hid rfl) (hid rfl) (by omega) (hid rfl) (hid rfl) (hid rfl)).mono ?_
  rintro e w2 ⟨A1, c1, LA, lc, rfl, hk⟩
  exact ⟨A1, c1, LA, lc, rfl, hk.out.slb, fedk_bel hk⟩
theorem alive_f2 (W : World) (g : Nat) (hg : W.heap.size = g) (A : Option Addr) (c : Nat) (hs : Hid (SlB W W.heap.size A c [0, 0, 0, 2, 97])) : Calls Try.prog 14 #[.agg #[.slice A 5 c, .bool false], .slice (some ⟨g, 0, none⟩) 2 2] (W.alloc (.cells #[.int .u8 98, .int .u8 0] 5))
    fun e w2 => ∃ A1 c1 LA lc, e = .returned (.tuple #[.agg #[.slice A1 1 c1, .bool false], .slice LA 1 lc, .int .i64 0]) ∧ Hid (LisV w2 w2.heap.size LA [[97, 98]]) ∧ Hid (Below W.heap.size W w2) := by
  refine (feed_lit W g A c 5 2 1 1 [0, 0, 0, 2, 97] [98, 0] _ false [[97, 98]] [0] 0 (hid rfl) (hid hg) (hid exF2) hs (hid rfl) (hid rfl) (by omega) (hid rfl) (hid rfl) (hid rfl)).mono ?_
  rintro e w2 ⟨A1, c1, LA, lc, rfl, hk⟩
  exact ⟨A1, c1, LA, lc, rfl, hk.out.lis, fedk_bel hk⟩
theorem alive_f3 (W : World) (g : Nat) (hg : W.heap.size = g) : Calls Try.prog 14 #[.agg #[.slice none 0 0, .bool false], .slice (some ⟨g, 0, none⟩) 4 4] (W.alloc (.cells #[.int .u8 0, .int .u8 0, .int .u8 0, .int .u8 0] 5))
    fun e w2 => ∃ A1 c1 LA lc, e = .returned (.tuple #[.agg #[.slice A1 0 c1, .bool true], .slice LA 0 lc, .int .i64 5]) ∧ Hid (Below W.heap.size W w2) := by
  refine (feed_lit W g none 0 0 4 0 0 [] [0, 0, 0, 0] _ true [] [] 5 (hid rfl) (hid hg) (hid exF3) (hid (slb_nil _ _)) (hid rfl) (hid rfl) (by omega) (hid rfl) (hid rfl) (hid rfl)).mono ?_
  rintro e w2 ⟨A1, c1, LA, lc, rfl, hk⟩
  exact ⟨A1, c1, LA, lc, rfl, fedk_bel hk⟩
theorem alive_b1 (W : World) (g : Nat) (hg : W.heap.size = g) (A : Option Addr) (c : Nat) (h : Hid (Lies W W.heap.size A (bv [0, 0, 0, 2, 97, 98]))) :
    Calls Try.prog 12 #[.slice A 6 c, .slice (some ⟨g, 0, none⟩) 6 6] (W.alloc (.cells #[.int .u8 0, .int .u8 0, .int .u8 0, .int .u8 2, .int .u8 97, .int .u8 98] 5)) fun e w2 => e = .returned (.bool true) ∧ Hid (Below W.heap.size W w2) :=
  alive_b W (0, 0) g A c 6 [0, 0, 0, 2, 97, 98] _ (hid rfl) (hid hg) (hid rfl) (by unfold maxLen; omega) h
theorem alive_b2 (W : World) (g : Nat) (hg : W.heap.size = g) (A : Option Addr) (c : Nat) (h : Hid (Lies W W.heap.size A (bv [97, 98]))) :
    Calls Try.prog 12 #[.slice A 2 c, .slice (some ⟨g, 0, none⟩) 2 2] (W.alloc (.cells #[.int .u8 97, .int .u8 98] 5 (2, 3))) fun e w2 => e = .returned (.bool true) ∧ Hid (Below W.heap.size W w2) :=
  alive_b W (2, 3) g A c 2 [97, 98] _ (hid rfl) (hid hg) (hid rfl) (by unfold maxLen; omega) h
/-- What was below stays, through a block more. -/
theorem bel_lit {a W w2 : World} {o : Obj} (h : Hid (Below a.heap.size a W)) (k : Hid (Below (W.alloc o).heap.size (W.alloc o) w2)) : Hid (Below a.heap.size a w2) :=
  h.out.trans (((Below.refl _ _).alloc (Nat.le_refl _) o).trans (k.out.mono (by simp)) |>.mono h.out.size)

theorem slb_alloc {w : World} {A : Option Addr} {c : Nat} {bs : List UInt8} (h : Hid (SlB w w.heap.size A c bs)) (o : Obj) : Hid (SlB (w.alloc o) (w.alloc o).heap.size A c bs) := (h.out.lit o).more (by simp)
theorem lies_alloc {w : World} {A : Option Addr} {cs : List Value} (h : Hid (Lies w w.heap.size A cs)) (o : Obj) : Hid (Lies (w.alloc o) (w.alloc o).heap.size A cs) := (h.out.alloc (Nat.le_refl _) o).more (by simp)
theorem bel_alloc {a w : World} (h : Hid (Below a.heap.size a w)) (o : Obj) : Hid (Below a.heap.size a (w.alloc o)) := h.out.alloc h.out.size o

set_option maxHeartbeats 1000000 in
set_option maxRecDepth 100000 in
theorem alive_any (w : World) :
    Calls Try.prog 8 #[] w fun e w' => e = .returned (.bool true) ∧ Below w.heap.size w w' := by
  have hcv := fun (w : World) (C : Array Value) (n c : Nat) => Lib.run_convert_bytes_const (P := Try.prog) w 22 5 C n c Try.underlying22 Try.underlying5
  go_enter Try.func8, Try.ntmps8
  go_wp2_with (first
    | (go_at_call 10
       ((with_reducible refine (alive_p _).mono ?_); rintro e w2 ⟨A1, c1, rfl, HL1, HB2⟩))
    | (go_at_call 14
       ((with_reducible refine (alive_f1 _).mono ?_); rintro e w3 ⟨A3, c3, LA3, lc3, rfl, HS3, HB3⟩))
    | (go_at_call 14
       ((with_reducible refine (alive_f2 _ _ (by simp) A3 c3 (slb_alloc HS3 _)).mono ?_); rintro e w4 ⟨A4, c4, LA4, lc4, rfl, HL4, HB4⟩)
       have HB04 := bel_trans (bel_trans HB2 HB3) (bel_trans (bel_alloc (hid (Below.refl _ _)) _) HB4)
       have HBX1 := bel_trans HB3 (bel_trans (bel_alloc (hid (Below.refl _ _)) _) HB4))
    | (go_at_call 14
       ((with_reducible refine (alive_f3 _ _ (by simp)).mono ?_); rintro e w5 ⟨A5, c5, LA5, lc5, rfl, HB5⟩)
       have HX5 := hid (box_below (Box.new w4 34 #[.slice A4 1 c4, .bool false]) HB5.out)
       have HB45 := bel_trans (bel_alloc (hid (Below.refl w4.heap.size w4)) _) HB5
       have HL1b := lies_alloc (lies_bel HL1 (bel_trans HBX1 HB45)) (.cells #[.slice A5 0 c5, .bool true] 34))
    | (go_at_call 12
       ((with_reducible refine (alive_b1 _ _ (by simp) A1 c1 HL1b).mono ?_); rintro e w6 ⟨rfl, HB6⟩)
       have HX6 := hid (box_below (Box.new w5 34 #[.slice A5 0 c5, .bool true]) HB6.out)
       have HB56 := bel_trans (bel_alloc (hid (Below.refl w5.heap.size w5)) _) HB6
       have HX56 := hid (box_below HX5.out HB56.out)
       have hl6 := (HL4.out.below (bel_trans HB45 HB56).out).more (bel_trans HB45 HB56).out.size
       obtain ⟨gb, go, rfl, hgb, hcc⟩ := hl6 (by simp)
       obtain ⟨A9, c9, e9, s9⟩ := hcc 0 (by simp)
       have e9' : w6.cell? ⟨gb, go, none⟩ = some (.slice A9 2 c9) := e9
       have HL9 : Hid (Lies w6 w6.heap.size A9 (bv [97, 98])) := s9.2.2.2
       clear hl6 hcc e9 s9)
    | (go_at_call 12
       ((with_reducible refine (alive_b2 _ _ (by simp) A9 c9 HL9).mono ?_); rintro e w7 ⟨rfl, HB7⟩)
       have HX7 := hid (box_below HX6.out HB7.out)
       have HX57 := hid (box_below HX56.out HB7.out)
       have k0 : w7.cell? ⟨w4.heap.size, 0, none⟩ = some (.slice A4 1 c4) := HX57.out.cell 0
       have k1 : w7.cell? ⟨w5.heap.size, 1, none⟩ = some (.bool true) := HX7.out.cell 1))
  go_ret
  exact ⟨rfl, (bel_trans (bel_trans (bel_trans HB04 HB45) HB56) HB7).out⟩
end Go.Proofs.Ytmbnjaahiopanaa
