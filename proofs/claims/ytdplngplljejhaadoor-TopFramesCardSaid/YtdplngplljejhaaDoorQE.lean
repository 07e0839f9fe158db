import Derived.Test.YtdplngplljejhaaDoorQD
import Derived.Lib.IndexAny
namespace Go.Proofs.YtdplngplljejhaaDoor
open Go.RowKit

section
variable {w : World} {base g c : Nat} {r : Rq} {A : Option Addr} {s : Ws}
theorem WrS.c0 (h : WrS w base g r A c s) : w.cell? ⟨g, 0, none⟩ = some (.int .i64 r.kind) := by
  obtain ⟨_, _, fA, fc, cs, hx, _⟩ := h
  exact hx.cell 0
theorem WrS.c1 (h : WrS w base g r A c s) : w.cell? ⟨g, 1, none⟩ = some (.string r.text) := by
  obtain ⟨_, _, fA, fc, cs, hx, _⟩ := h
  exact hx.cell 1
theorem WrS.c2 (h : WrS w base g r A c s) : w.cell? ⟨g, 2, none⟩ = some (.string r.value) := by
  obtain ⟨_, _, fA, fc, cs, hx, _⟩ := h
  exact hx.cell 2
theorem WrS.c3 (h : WrS w base g r A c s) : w.cell? ⟨g, 3, none⟩ = some (.string r.lang) := by
  obtain ⟨_, _, fA, fc, cs, hx, _⟩ := h
  exact hx.cell 3
theorem WrS.c4 (h : WrS w base g r A c s) : w.cell? ⟨g, 4, none⟩ = some (.int .u32 r.cols) := by
  obtain ⟨_, _, fA, fc, cs, hx, _⟩ := h
  exact hx.cell 4
theorem WrS.c5 (h : WrS w base g r A c s) : w.cell? ⟨g, 5, none⟩ = some (.int .u32 r.rows) := by
  obtain ⟨_, _, fA, fc, cs, hx, _⟩ := h
  exact hx.cell 5
theorem WrS.c6 (h : WrS w base g r A c s) : w.cell? ⟨g, 6, none⟩ = some (.int .u32 r.width) := by
  obtain ⟨_, _, fA, fc, cs, hx, _⟩ := h
  exact hx.cell 6
theorem WrS.c7 (h : WrS w base g r A c s) : w.cell? ⟨g, 7, none⟩ = some (.int .u32 r.height) := by
  obtain ⟨_, _, fA, fc, cs, hx, _⟩ := h
  exact hx.cell 7
theorem WrS.c8 (h : WrS w base g r A c s) : w.cell? ⟨g, 8, none⟩ = some (.slice A r.modes.length c) := by
  obtain ⟨_, _, fA, fc, cs, hx, _⟩ := h
  exact hx.cell 8
theorem WrS.c9 (h : WrS w base g r A c s) : w.cell? ⟨g, 9, none⟩ = some (.bool r.on) := by
  obtain ⟨_, _, fA, fc, cs, hx, _⟩ := h
  exact hx.cell 9
theorem WrS.c10 (h : WrS w base g r A c s) : w.cell? ⟨g, 10, none⟩ = some (.int .u32 r.code) := by
  obtain ⟨_, _, fA, fc, cs, hx, _⟩ := h
  exact hx.cell 10
theorem WrS.c12 (h : WrS w base g r A c s) : w.cell? ⟨g, 12, none⟩ = some (.bool s.bad) := by
  obtain ⟨_, _, fA, fc, cs, hx, _⟩ := h
  exact hx.cell 12
theorem WrS.c13 (h : WrS w base g r A c s) : w.cell? ⟨g, 13, none⟩ = some (.bool s.long) := by
  obtain ⟨_, _, fA, fc, cs, hx, _⟩ := h
  exact hx.cell 13
theorem WrS.f12 (h : WrS w base g r A c s) : w.frozen? ⟨g, 12, none⟩ = false := by
  obtain ⟨_, _, fA, fc, cs, hx, _⟩ := h
  exact hx.frozen 12
theorem WrS.tk (h : WrS w base g r A c s) : TK w base A c r.modes := h.2.1
end
set_option maxHeartbeats 2000000 in
set_option maxRecDepth 100000 in
theorem puton_on (base g c : Nat) (r : Rq) (A : Option Addr) (s : Ws) (w : World) (hs : WrS w base g r A c s) (hl : s.fs.length ≤ 100) (hon : r.on = true) :
    Calls Tryd.prog 58 #[.pointer (some ⟨g, 0, none⟩)] w (PutW base g r A c (s.flg r.on) w) := by
  have hlow := hs.lt
  have hlt := hs.low
  have hbg := hs.1
  have HXF : Hid (Box (w.alloc (.cells #[.int .i64 2, .int .u32 0, .slice none 0 0, .slice none 0 0] 80)) w.heap.size 80 #[.int .i64 2, .int .u32 0, .slice none 0 0, .slice none 0 0]) := hid (Box.new w 80 _)
  have HX2 : Hid (Box (w.alloc (.cells #[.int .i64 2, .int .u32 1, .slice none 0 0, .slice none 0 0] 80)) w.heap.size 80 #[.int .i64 2, .int .u32 1, .slice none 0 0, .slice none 0 0]) := hid (Box.new w 80 _)
  have HB0 : Hid (Below w.heap.size w (w.alloc (.cells #[.int .i64 2, .int .u32 0, .slice none 0 0, .slice none 0 0] 80))) := hid ((Below.refl _ _).alloc (Nat.le_refl _) _)
  have HB1 : Hid (Below w.heap.size w (w.alloc (.cells #[.int .i64 2, .int .u32 1, .slice none 0 0, .slice none 0 0] 80))) := hid ((Below.refl _ _).alloc (Nat.le_refl _) _)
  have hc9 := hs.c9
  rw [hon] at hc9
  have HS := hid hs
  have HON := hid hon
  obtain ⟨i0, hi0, hz0, hz1, hz2⟩ := info_parts Tryd.info83
  clear hs hon
  have c9 := (HB0.out.cell (p := ⟨g, 9, none⟩) hlt).trans hc9
  have f1 : (w.alloc (.cells #[.int .i64 2, .int .u32 0, .slice none 0 0, .slice none 0 0] 80)).frozen? ⟨w.heap.size, 1, none⟩ = false := HXF.out.frozen 1
  have x1 : (w.alloc (.cells #[.int .i64 2, .int .u32 0, .slice none 0 0, .slice none 0 0] 80)).cell? ⟨w.heap.size, 1, none⟩ = some (.int .u32 0) := HXF.out.cell 1
  have HW2 : Hid (WrS (w.alloc (.cells #[.int .i64 2, .int .u32 1, .slice none 0 0, .slice none 0 0] 80)) base g r A c s) := hid (HS.out.below HB1.out)
  have HK2 : Hid (Kept base [72, 80] w (w.alloc (.cells #[.int .i64 2, .int .u32 1, .slice none 0 0, .slice none 0 0] 80))) := hid (Kept.of_below HB1.out base [72, 80])
  go_enter Tryd.func58, Tryd.ntmps58
  go_wp2
  clear hc9 c9 f1 x1
  generalize (w.alloc (.cells #[.int .i64 2, .int .u32 1, .slice none 0 0, .slice none 0 0] 80)) = w2 at HW2 HK2 HX2
  obtain ⟨_, ht2, fA, fc, cs, hx, ho, hf⟩ := HW2.out
  obtain ⟨m, HM⟩ : ∃ m, Hid (s.fs.length = m) := ⟨_, hid rfl⟩
  have hx' : Box w2 g 72 (r.wcells A c fA m fc s.bad s.long) := by rw [← HM.out]; exact hx
  have ho' : w2.ownsRow base 80 4 (.slice fA m fc) m cs := by rw [← HM.out]; exact ho
  have hf' : FlatK w2 base s.fs cs := hf
  rw [HM.out] at hl
  have hc11 : w2.cell? ⟨g, 11, none⟩ = some (.slice fA m fc) := hx'.cell 11
  have b0 : w2.cell? ⟨w.heap.size, 0, none⟩ = some (.int .i64 2) := HX2.out.cell 0
  have b1 : w2.cell? ⟨w.heap.size, 1, none⟩ = some (.int .u32 1) := HX2.out.cell 1
  have b2 : w2.cell? ⟨w.heap.size, 2, none⟩ = some (.slice none 0 0) := HX2.out.cell 2
  have b3 : w2.cell? ⟨w.heap.size, 3, none⟩ = some (.slice none 0 0) := HX2.out.cell 3
  have hbase2 : base ≤ w2.heap.size := by have := HK2.out.size; omega
  have hw2 : w.heap.size < w2.heap.size := HX2.out.lt
  have hlt2 : g < w2.heap.size := hx'.lt
  have hc11a : ∀ o, (w2.alloc o).cell? ⟨g, 11, none⟩ = some (.slice fA m fc) := fun o => (((Below.refl _ _).alloc (Nat.le_refl _) o : Below w2.heap.size w2 (w2.alloc o)).cell (p := ⟨g, 11, none⟩) hlt2).trans hc11
  have HX0 := hid hx'
  have HRW := hid ho'
  have HF0 := hid hf'
  have HT0 := hid ht2
  clear hx hx' ho ho' hf hf' ht2
  have hbd : Below w2.drew.heap.size w2.drew (w2.drew.alloc (.cells #[.int .i64 2, .int .u32 1, .slice none 0 0, .slice none 0 0] 80)) := (Below.refl _ w2.drew).alloc (Nat.le_refl _) _
  have hb1 : Below w2.heap.size w2 (w2.drew.alloc (.cells #[.int .i64 2, .int .u32 1, .slice none 0 0, .slice none 0 0] 80)) := ⟨hbd.os, hbd.tape, hbd.output, hbd.size, hbd.block⟩
  have HBB := hid hb1
  clear hb1 hbd
  go_region_law (
    refine step_app _ rfl (.tmp 14) (.tmp 16) 63 rfl base 80 i0 _ 4 64 Tryd.underlying63 hi0 hz0 hz1 hz2 rfl (by decide) fA m fc cs rfl (own_bel HRW.out HBB.out) _ _ 1 1 _ rfl rfl (lies_lit_at _ _ _ _ (by simp)) (one4k _ _ _ _ _ _ _ _) (by unfold maxLen; omega) (by omega) (by simp; omega) ?_
    intro A6 c6 w6 ho6 hg6
    have hx1 : Box (w2.drew.alloc (.cells #[.int .i64 2, .int .u32 1, .slice none 0 0, .slice none 0 0] 80)) g 72 (r.wcells A c fA m fc s.bad s.long) := box_al (w := w2.drew) HX0.out _
    have ho1 := own_bel HRW.out HBB.out
    have hx2 := hx1.same (hg6.block g hx1.lt (fun e => own_ne ho1 hx1 (by decide) e.symm))
    have hc2 : w6.cell? ⟨g, 11, none⟩ = some (.slice fA m fc) := hx2.cell 11
    have hf2 : w6.frozen? ⟨g, 11, none⟩ = false := hx2.frozen 11
    have hfin := wr_store (f := ⟨2, 1, [], []⟩) (tA := none) (tc := 0) HM.out hbg (HT0.out.below HBB.out) hx1 ho1 (FlatK.kept (Kept.of_below HBB.out base []) (by simp) _ _ HF0.out) (TK.nil_ _ _) rfl ho6 hg6
    have HFIN := hid hfin
    clear hfin ho6 hg6 hx1 hx2 ho1)
  all_goals
    go_wp2
    go_end0
    have e : s.flg r.on = ⟨s.fs ++ [⟨2, 1, [], []⟩], s.bad, s.long⟩ := by rw [Ws.flg, HON.out]; rfl
    rw [e]
    exact ⟨rfl, HFIN.out.1, HK2.out.trans ((Kept.of_below HBB.out base [72, 80]).trans HFIN.out.2)⟩
set_option maxHeartbeats 2000000 in
set_option maxRecDepth 100000 in
theorem puton_off (base g c : Nat) (r : Rq) (A : Option Addr) (s : Ws) (w : World) (hs : WrS w base g r A c s) (hl : s.fs.length ≤ 100) (hon : r.on = false) :
    Calls Tryd.prog 58 #[.pointer (some ⟨g, 0, none⟩)] w (PutW base g r A c (s.flg r.on) w) := by
  have hlow := hs.lt
  have hlt := hs.low
  have hbg := hs.1
  have HXF : Hid (Box (w.alloc (.cells #[.int .i64 2, .int .u32 0, .slice none 0 0, .slice none 0 0] 80)) w.heap.size 80 #[.int .i64 2, .int .u32 0, .slice none 0 0, .slice none 0 0]) := hid (Box.new w 80 _)
  have HX2 : Hid (Box (w.alloc (.cells #[.int .i64 2, .int .u32 0, .slice none 0 0, .slice none 0 0] 80)) w.heap.size 80 #[.int .i64 2, .int .u32 0, .slice none 0 0, .slice none 0 0]) := hid (Box.new w 80 _)
  have HB0 : Hid (Below w.heap.size w (w.alloc (.cells #[.int .i64 2, .int .u32 0, .slice none 0 0, .slice none 0 0] 80))) := hid ((Below.refl _ _).alloc (Nat.le_refl _) _)
  have HB1 : Hid (Below w.heap.size w (w.alloc (.cells #[.int .i64 2, .int .u32 0, .slice none 0 0, .slice none 0 0] 80))) := hid ((Below.refl _ _).alloc (Nat.le_refl _) _)
  have hc9 := hs.c9
  rw [hon] at hc9
  have HS := hid hs
  have HON := hid hon
  obtain ⟨i0, hi0, hz0, hz1, hz2⟩ := info_parts Tryd.info83
  clear hs hon
  have c9 := (HB0.out.cell (p := ⟨g, 9, none⟩) hlt).trans hc9
  have f1 : (w.alloc (.cells #[.int .i64 2, .int .u32 0, .slice none 0 0, .slice none 0 0] 80)).frozen? ⟨w.heap.size, 1, none⟩ = false := HXF.out.frozen 1
  have x1 : (w.alloc (.cells #[.int .i64 2, .int .u32 0, .slice none 0 0, .slice none 0 0] 80)).cell? ⟨w.heap.size, 1, none⟩ = some (.int .u32 0) := HXF.out.cell 1
  have HW2 : Hid (WrS (w.alloc (.cells #[.int .i64 2, .int .u32 0, .slice none 0 0, .slice none 0 0] 80)) base g r A c s) := hid (HS.out.below HB1.out)
  have HK2 : Hid (Kept base [72, 80] w (w.alloc (.cells #[.int .i64 2, .int .u32 0, .slice none 0 0, .slice none 0 0] 80))) := hid (Kept.of_below HB1.out base [72, 80])
  go_enter Tryd.func58, Tryd.ntmps58
  go_wp2
  clear hc9 c9 f1 x1
  generalize (w.alloc (.cells #[.int .i64 2, .int .u32 0, .slice none 0 0, .slice none 0 0] 80)) = w2 at HW2 HK2 HX2
  obtain ⟨_, ht2, fA, fc, cs, hx, ho, hf⟩ := HW2.out
  obtain ⟨m, HM⟩ : ∃ m, Hid (s.fs.length = m) := ⟨_, hid rfl⟩
  have hx' : Box w2 g 72 (r.wcells A c fA m fc s.bad s.long) := by rw [← HM.out]; exact hx
  have ho' : w2.ownsRow base 80 4 (.slice fA m fc) m cs := by rw [← HM.out]; exact ho
  have hf' : FlatK w2 base s.fs cs := hf
  rw [HM.out] at hl
  have hc11 : w2.cell? ⟨g, 11, none⟩ = some (.slice fA m fc) := hx'.cell 11
  have b0 : w2.cell? ⟨w.heap.size, 0, none⟩ = some (.int .i64 2) := HX2.out.cell 0
  have b1 : w2.cell? ⟨w.heap.size, 1, none⟩ = some (.int .u32 0) := HX2.out.cell 1
  have b2 : w2.cell? ⟨w.heap.size, 2, none⟩ = some (.slice none 0 0) := HX2.out.cell 2
  have b3 : w2.cell? ⟨w.heap.size, 3, none⟩ = some (.slice none 0 0) := HX2.out.cell 3
  have hbase2 : base ≤ w2.heap.size := by have := HK2.out.size; omega
  have hw2 : w.heap.size < w2.heap.size := HX2.out.lt
  have hlt2 : g < w2.heap.size := hx'.lt
  have hc11a : ∀ o, (w2.alloc o).cell? ⟨g, 11, none⟩ = some (.slice fA m fc) := fun o => (((Below.refl _ _).alloc (Nat.le_refl _) o : Below w2.heap.size w2 (w2.alloc o)).cell (p := ⟨g, 11, none⟩) hlt2).trans hc11
  have HX0 := hid hx'
  have HRW := hid ho'
  have HF0 := hid hf'
  have HT0 := hid ht2
  clear hx hx' ho ho' hf hf' ht2
  have hbd : Below w2.drew.heap.size w2.drew (w2.drew.alloc (.cells #[.int .i64 2, .int .u32 0, .slice none 0 0, .slice none 0 0] 80)) := (Below.refl _ w2.drew).alloc (Nat.le_refl _) _
  have hb1 : Below w2.heap.size w2 (w2.drew.alloc (.cells #[.int .i64 2, .int .u32 0, .slice none 0 0, .slice none 0 0] 80)) := ⟨hbd.os, hbd.tape, hbd.output, hbd.size, hbd.block⟩
  have HBB := hid hb1
  clear hb1 hbd
  go_region_law (
    refine step_app _ rfl (.tmp 14) (.tmp 16) 63 rfl base 80 i0 _ 4 64 Tryd.underlying63 hi0 hz0 hz1 hz2 rfl (by decide) fA m fc cs rfl (own_bel HRW.out HBB.out) _ _ 1 1 _ rfl rfl (lies_lit_at _ _ _ _ (by simp)) (one4k _ _ _ _ _ _ _ _) (by unfold maxLen; omega) (by omega) (by simp; omega) ?_
    intro A6 c6 w6 ho6 hg6
    have hx1 : Box (w2.drew.alloc (.cells #[.int .i64 2, .int .u32 0, .slice none 0 0, .slice none 0 0] 80)) g 72 (r.wcells A c fA m fc s.bad s.long) := box_al (w := w2.drew) HX0.out _
    have ho1 := own_bel HRW.out HBB.out
    have hx2 := hx1.same (hg6.block g hx1.lt (fun e => own_ne ho1 hx1 (by decide) e.symm))
    have hc2 : w6.cell? ⟨g, 11, none⟩ = some (.slice fA m fc) := hx2.cell 11
    have hf2 : w6.frozen? ⟨g, 11, none⟩ = false := hx2.frozen 11
    have hfin := wr_store (f := ⟨2, 0, [], []⟩) (tA := none) (tc := 0) HM.out hbg (HT0.out.below HBB.out) hx1 ho1 (FlatK.kept (Kept.of_below HBB.out base []) (by simp) _ _ HF0.out) (TK.nil_ _ _) rfl ho6 hg6
    have HFIN := hid hfin
    clear hfin ho6 hg6 hx1 hx2 ho1)
  all_goals
    go_wp2
    go_end0
    have e : s.flg r.on = ⟨s.fs ++ [⟨2, 0, [], []⟩], s.bad, s.long⟩ := by rw [Ws.flg, HON.out]; rfl
    rw [e]
    exact ⟨rfl, HFIN.out.1, HK2.out.trans ((Kept.of_below HBB.out base [72, 80]).trans HFIN.out.2)⟩
theorem puton_any (base g c : Nat) (r : Rq) (A : Option Addr) (s : Ws) (w : World) (hs : WrS w base g r A c s) (hl : s.fs.length ≤ 100) :
    Calls Tryd.prog 58 #[.pointer (some ⟨g, 0, none⟩)] w (PutW base g r A c (s.flg r.on) w) := by
  cases h : r.on with
  | true => rw [← h]; exact puton_on base g c r A s w hs hl h
  | false => rw [← h]; exact puton_off base g c r A s w hs hl h
end Go.Proofs.YtdplngplljejhaaDoor
