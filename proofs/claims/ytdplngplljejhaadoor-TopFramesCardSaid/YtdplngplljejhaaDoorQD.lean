import Derived.Test.YtdplngplljejhaaDoorQC
import Derived.Test.YtdplngplljejhaaDoorShelf
namespace Go.Proofs.YtdplngplljejhaaDoor
open Go.RowKit

theorem Ws.txt_of {s : Ws} {t : List UInt8} {b : Bool} (h : (s.long || decide (1024 < t.length)) = b) : s.txt t = ⟨s.fs ++ [⟨4, 0, t, []⟩], s.bad, b⟩ := by rw [← h]; rfl
set_option maxHeartbeats 1000000 in
set_option maxRecDepth 100000 in
theorem wtext_long (base g c n tc : Nat) (tA : Option Addr) (t : List UInt8) (r : Rq) (A : Option Addr) (s : Ws) (w : World) (hs : WrS w base g r A c s) (hl : s.fs.length ≤ 100) (hn : t.length = n) (htk : TK w base tA tc t) (hlen : 1024 < n) :
    Calls Tryd.prog 89 #[.pointer (some ⟨g, 0, none⟩), .slice tA n tc] w (PutW base g r A c (s.txt t) w) := by
  have HWK : Hid (decide (1024 < t.length) = true) := hid (by simp; omega)
  have hlow := hs.lt
  have HTK := hid htk
  clear htk
  have HB0 := hid (wr_long hs).2
  have hs2 := (wr_long hs).1
  obtain ⟨hbg, HT0, fA0, fc0, cs0, hx, ho, hf⟩ := hs
  have hc13 : w.cell? ⟨g, 13, none⟩ = some (.bool s.long) := hx.cell 13
  have hf13 : w.frozen? ⟨g, 13, none⟩ = false := hx.frozen 13
  have hlt0 := hx.lt
  clear hx ho hf
  clear HT0
  obtain ⟨_, ht2, fA, fc, cs, hx, ho, hf⟩ := hs2
  obtain ⟨m, HM⟩ : ∃ m, Hid (s.fs.length = m) := ⟨_, hid rfl⟩
  have hx' : Box (w.setCell ⟨g, 13, none⟩ (.bool true)) g 72 (r.wcells A c fA m fc s.bad true) := by rw [← HM.out]; exact hx
  have ho' : (w.setCell ⟨g, 13, none⟩ (.bool true)).ownsRow base 80 4 (.slice fA m fc) m cs := by rw [← HM.out]; exact ho
  have hf' : FlatK (w.setCell ⟨g, 13, none⟩ (.bool true)) base s.fs cs := hf
  have hc11 : (w.setCell ⟨g, 13, none⟩ (.bool true)).cell? ⟨g, 11, none⟩ = some (.slice fA m fc) := hx'.cell 11
  rw [HM.out] at hl
  obtain ⟨i0, hi0, hz0, hz1, hz2⟩ := info_parts Tryd.info83
  have HX2 := hid hx'
  have HO2 := hid ho'
  have HF2 := hid hf'
  have HT2 := hid ht2
  have HTX : Hid (TK (w.setCell ⟨g, 13, none⟩ (.bool true)) base tA tc t) := hid (HTK.out.kept HB0.out (by decide))
  have HB2 : Hid (Below w.heap.size w w) := hid (Below.refl _ _)
  clear hx hx' ho ho' hf hf' ht2
  have hd1 : (1024 : Int) < (n : Int) := by omega
  have HN := hid hn
  clear hn hlen
  go_enter Tryd.func89, Tryd.ntmps89
  go_wp2_with (first
    | (at_builtin
       refine wpList_app _ rfl (.tmp 14) (.tmp 17) 63 rfl base 80 i0 _ 4 64 Tryd.underlying63 hi0 hz0 hz1 hz2 rfl ?g1 fA m fc cs rfl (own_bel HO2.out ((Below.refl _ _).alloc (Nat.le_refl _) _)) _ _ 1 1 _ rfl ?g2 (lies_lit_at _ _ _ _ (by simp)) (one4k _ _ _ _ _ _ _ _) ?g3 ?g4 ?g5 ?_
       case g1 => omega
       case g2 => rfl
       case g3 => unfold maxLen; omega
       case g4 => omega
       case g5 => have := HB2.out.size; simp at this ⊢; omega
       intro A6 c6 w6 ho6 hg6
       have hb1 : Below (w.setCell ⟨g, 13, none⟩ (.bool true)).heap.size (w.setCell ⟨g, 13, none⟩ (.bool true)) ((w.setCell ⟨g, 13, none⟩ (.bool true)).alloc (.cells #[.int .i64 4, .int .u32 0, .slice tA n tc, .slice none 0 0] 80)) := (Below.refl _ _).alloc (Nat.le_refl _) _
       have hx1 := box_al HX2.out (.cells #[.int .i64 4, .int .u32 0, .slice tA n tc, .slice none 0 0] 80)
       have ho1 := own_bel HO2.out hb1
       have hx2 := hx1.same (hg6.block g hx1.lt (fun e => own_ne ho1 hx1 (by decide) e.symm))
       have hc2 : w6.cell? ⟨g, 11, none⟩ = some (.slice fA m fc) := hx2.cell 11
       have hf2 : w6.frozen? ⟨g, 11, none⟩ = false := hx2.frozen 11
       have hfin := wr_store (f := ⟨4, 0, t, []⟩) (tA := tA) (tc := tc) HM.out hbg (HT2.out.below hb1) hx1 ho1 (FlatK.kept (Kept.of_below hb1 base []) (by simp) _ _ HF2.out) (HTX.out.below hb1) rfl (by first | exact ho6 | (rw [HN.out]; exact ho6)) hg6
       have HFIN := hid hfin
       clear hfin ho6 hg6 hx1 hx2 ho1 hb1))
  go_end0
  rw [Ws.txt_of (b := true) (by rw [HWK.out]; simp)]
  refine ⟨rfl, HFIN.out.1, ?_⟩
  exact HB0.out.trans (((Kept.refl _ _ _).alloc _).trans HFIN.out.2)
set_option maxHeartbeats 1000000 in
set_option maxRecDepth 100000 in
theorem wtext_short (base g c n tc : Nat) (tA : Option Addr) (t : List UInt8) (r : Rq) (A : Option Addr) (s : Ws) (w : World) (hs : WrS w base g r A c s) (hl : s.fs.length ≤ 100) (hn : t.length = n) (htk : TK w base tA tc t) (hlen : n ≤ 1024) :
    Calls Tryd.prog 89 #[.pointer (some ⟨g, 0, none⟩), .slice tA n tc] w (PutW base g r A c (s.txt t) w) := by
  have HWK : Hid (decide (1024 < t.length) = false) := hid (by simp; omega)
  have hlow := hs.lt
  have HTK := hid htk
  clear htk
  have hs2 := hs
  clear hs
  have hbg := hs2.1
  obtain ⟨_, ht2, fA, fc, cs, hx, ho, hf⟩ := hs2
  obtain ⟨m, HM⟩ : ∃ m, Hid (s.fs.length = m) := ⟨_, hid rfl⟩
  have hx' : Box w g 72 (r.wcells A c fA m fc s.bad s.long) := by rw [← HM.out]; exact hx
  have ho' : w.ownsRow base 80 4 (.slice fA m fc) m cs := by rw [← HM.out]; exact ho
  have hf' : FlatK w base s.fs cs := hf
  have hc11 : w.cell? ⟨g, 11, none⟩ = some (.slice fA m fc) := hx'.cell 11
  rw [HM.out] at hl
  obtain ⟨i0, hi0, hz0, hz1, hz2⟩ := info_parts Tryd.info83
  have HX2 := hid hx'
  have HO2 := hid ho'
  have HF2 := hid hf'
  have HT2 := hid ht2
  have HTX : Hid (TK w base tA tc t) := hid (HTK.out)
  have HB2 : Hid (Below w.heap.size w w) := hid (Below.refl _ _)
  clear hx hx' ho ho' hf hf' ht2
  have hd1 : decide ((1024 : Int) < (n : Int)) = false := by simp; omega
  have HN := hid hn
  clear hn hlen
  go_enter Tryd.func89, Tryd.ntmps89
  go_wp2_with (first
    | (at_builtin
       refine wpList_app _ rfl (.tmp 14) (.tmp 17) 63 rfl base 80 i0 _ 4 64 Tryd.underlying63 hi0 hz0 hz1 hz2 rfl ?g1 fA m fc cs rfl (own_bel HO2.out ((Below.refl _ _).alloc (Nat.le_refl _) _)) _ _ 1 1 _ rfl ?g2 (lies_lit_at _ _ _ _ (by simp)) (one4k _ _ _ _ _ _ _ _) ?g3 ?g4 ?g5 ?_
       case g1 => omega
       case g2 => rfl
       case g3 => unfold maxLen; omega
       case g4 => omega
       case g5 => have := HB2.out.size; simp at this ⊢; omega
       intro A6 c6 w6 ho6 hg6
       have hb1 : Below w.heap.size w (w.alloc (.cells #[.int .i64 4, .int .u32 0, .slice tA n tc, .slice none 0 0] 80)) := (Below.refl _ _).alloc (Nat.le_refl _) _
       have hx1 := box_al HX2.out (.cells #[.int .i64 4, .int .u32 0, .slice tA n tc, .slice none 0 0] 80)
       have ho1 := own_bel HO2.out hb1
       have hx2 := hx1.same (hg6.block g hx1.lt (fun e => own_ne ho1 hx1 (by decide) e.symm))
       have hc2 : w6.cell? ⟨g, 11, none⟩ = some (.slice fA m fc) := hx2.cell 11
       have hf2 : w6.frozen? ⟨g, 11, none⟩ = false := hx2.frozen 11
       have hfin := wr_store (f := ⟨4, 0, t, []⟩) (tA := tA) (tc := tc) HM.out hbg (HT2.out.below hb1) hx1 ho1 (FlatK.kept (Kept.of_below hb1 base []) (by simp) _ _ HF2.out) (HTX.out.below hb1) rfl (by first | exact ho6 | (rw [HN.out]; exact ho6)) hg6
       have HFIN := hid hfin
       clear hfin ho6 hg6 hx1 hx2 ho1 hb1))
  go_end0
  rw [Ws.txt_of (b := s.long) (by rw [HWK.out]; simp)]
  refine ⟨rfl, HFIN.out.1, ?_⟩
  exact (((Kept.refl _ _ _).alloc _).trans HFIN.out.2)
theorem wtext_any (base g c n tc : Nat) (tA : Option Addr) (t : List UInt8) (r : Rq) (A : Option Addr) (s : Ws) (w : World) (hs : WrS w base g r A c s) (hl : s.fs.length ≤ 100) (hn : t.length = n) (htk : TK w base tA tc t) :
    Calls Tryd.prog 89 #[.pointer (some ⟨g, 0, none⟩), .slice tA n tc] w (PutW base g r A c (s.txt t) w) := by
  by_cases h : 1024 < n
  · exact wtext_long base g c n tc tA t r A s w hs hl hn htk h
  · exact wtext_short base g c n tc tA t r A s w hs hl hn htk (by omega)
/-- A string's bytes, converted just ahead of the call. -/
theorem textc_any (base g c : Nat) (t : ByteArray) (r : Rq) (A : Option Addr) (s : Ws) (w : World) (hs : WrS w base g r A c s) (hl : s.fs.length ≤ 100) (ht : t.size ≤ maxLen) :
    Calls Tryd.prog 89 #[.pointer (some ⟨g, 0, none⟩), .slice (some ⟨w.heap.size, 0, none⟩) t.size (grownCap w t.size 0 5)] (Lib.bytesWorld w 5 t) (PutW base g r A c (s.txt t.data.toList) w) := by
  have hb := bel_conv w t
  refine (wtext_any base g c t.size _ _ t.data.toList r A s _ (hs.below hb) hl (str_len t) (conv_tk w base t ht)).mono ?_
  rintro e w' ⟨rfl, h1, h2⟩
  exact ⟨rfl, h1, (Kept.of_below hb base [72, 80]).trans h2⟩
end Go.Proofs.YtdplngplljejhaaDoor
