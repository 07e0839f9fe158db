import Derived.Test.YtdplngplljejhaaDoorQB
namespace Go.Proofs.YtdplngplljejhaaDoor
open Go.RowKit

theorem lies_lit_at (w : World) (cs : Array Value) (t : TypeId) (n : Nat) (h : n = w.heap.size) : Lies (w.alloc (.cells cs t)) (n + 1) (some ⟨n, 0, none⟩) cs.toList := by
  subst h
  exact lies_lit w cs t
theorem wordOk_split (l : Nat) (s : ByteArray) : wordOk l s = (decide (l ≤ s.size) && wordOk 0 s) := by
  simp [wordOk, Bool.and_assoc]
set_option maxHeartbeats 800000 in
set_option maxRecDepth 100000 in
theorem right_s (s : ByteArray) (w : World) (hs : s.size ≤ maxLen) :
    Calls Tryd.prog 109 #[.string s] w fun e w' => e = .returned (.bool (wordOk 0 s)) ∧ w = w' := by
  unfold maxLen at hs
  by_cases h2 : s.size ≤ 64
  · have hd2 : decide (64 < (s.size : Int)) = false := by simp; omega
    go_enter Tryd.func109, Tryd.ntmps109
    go_wp2
    go_loop [9] (fun i => ∃ k : Nat, k ≤ s.size ∧ i = .int .i64 k ∧ Hid ((s.data.toList.take k).all wordByte = true)) (fun i => s.size - (intOf i).toNat)
    case atStart => exact ⟨0, Nat.zero_le _, rfl, hid rfl⟩
    case round =>
      obtain ⟨k, hk, rfl, HA⟩ := hrel
      by_cases hlt : k < s.size
      · by_cases hb : wordByte s[k] = true
        · have hbi := (wordByte_iff _).1 hb
          have hts := take_snoc s.data.toList k (by simpa using hlt)
          have hS : (s.data.toList.take (k + 1)).all wordByte = true := by
            rw [hts, List.all_append, HA.out]
            simp [← ByteArray.getElem_eq_getElem_data, hb]
          have HS := hid hS
          clear hts hb hS
          have ha : (33 : Int) ≤ s[k].toNat := by omega
          have hb : (s[k].toNat : Int) ≤ 126 := by omega
          clear hbi
          go_wp2
          go_round
          case rel => first | exact ⟨k + 1, by omega, by go_num, HS⟩ | exact ⟨_, _, _, ⟨k + 1, by omega, by go_num, hid (by simpa using HS.out)⟩, rfl, rfl, rfl⟩
          case measure => simp [intOf]; omega
        · have HF := hid (wordOk_bad 0 s k hlt (by simpa using hb))
          have HB : Hid (¬ (33 ≤ s[k].toNat ∧ s[k].toNat ≤ 126)) := fun h => hb ((wordByte_iff _).2 h)
          clear hb
          go_wp2
          all_goals first
            | (go_ret; exact ⟨ret_bool HF.out.symm, rfl⟩)
            | (exfalso; have h1 := HB.out; simp at *; omega)
      · have hks : k = s.size := by omega
        have HK := hid hks
        clear hks
        go_wp2
        go_ret
        exact ⟨ret_bool (wordOk_all 0 s (Nat.zero_le _) h2 (by have h := HA.out; rw [HK.out, List.take_of_length_le (by simp)] at h; exact h)).symm, rfl⟩
  · have HF := hid (wordOk_len 0 s (by omega))
    have hd2 : (64 : Int) < s.size := by omega
    clear h2
    go_enter Tryd.func109, Tryd.ntmps109
    go_wp2
    go_ret
    exact ⟨ret_bool HF.out.symm, rfl⟩

theorem Ws.wrd_of {s : Ws} {l : Nat} {t : ByteArray} {b : Bool} (h : (s.bad || !wordOk l t) = b) : s.wrd l t = ⟨s.fs ++ [⟨4, 0, t.data.toList, []⟩], b, s.long⟩ := by rw [← h]; rfl
theorem box_al {w : World} {g : Nat} {t : TypeId} {cs : Array Value} (h : Box w g t cs) (o : Obj) : Box (w.alloc o) g t cs := h.same (Below.heap_alloc _ _ _ h.lt)
set_option maxHeartbeats 1000000 in
set_option maxRecDepth 100000 in
theorem word_short (base g c l : Nat) (t : ByteArray) (r : Rq) (A : Option Addr) (s : Ws) (w : World) (hs : WrS w base g r A c s) (hl : s.fs.length ≤ 100) (_hl1 : l ≤ 1) (ht : t.size ≤ maxLen) (hlt : t.size < l) :
    Calls Tryd.prog 88 #[.pointer (some ⟨g, 0, none⟩), .string t, .int .i64 l] w (PutW base g r A c (s.wrd l t) w) := by
  have HWK : Hid (wordOk l t = false) := hid (by simp [wordOk]; omega)
  have hlow := hs.lt
  have HB0 := hid (wr_bad hs).2
  have hs2 := (wr_bad hs).1
  obtain ⟨hbg, HT0, fA0, fc0, cs0, hx, ho, hf⟩ := hs
  have hc12 : w.cell? ⟨g, 12, none⟩ = some (.bool s.bad) := hx.cell 12
  have hf12 : w.frozen? ⟨g, 12, none⟩ = false := hx.frozen 12
  have hlt0 := hx.lt
  clear hx ho hf
  clear HT0
  obtain ⟨_, ht2, fA, fc, cs, hx, ho, hf⟩ := hs2
  obtain ⟨m, HM⟩ : ∃ m, Hid (s.fs.length = m) := ⟨_, hid rfl⟩
  have hx' : Box (w.setCell ⟨g, 12, none⟩ (.bool true)) g 72 (r.wcells A c fA m fc true s.long) := by rw [← HM.out]; exact hx
  have ho' : (w.setCell ⟨g, 12, none⟩ (.bool true)).ownsRow base 80 4 (.slice fA m fc) m cs := by rw [← HM.out]; exact ho
  have hf' : FlatK (w.setCell ⟨g, 12, none⟩ (.bool true)) base s.fs cs := hf
  have hc11 : (w.setCell ⟨g, 12, none⟩ (.bool true)).cell? ⟨g, 11, none⟩ = some (.slice fA m fc) := hx'.cell 11
  rw [HM.out] at hl
  obtain ⟨i0, hi0, hz0, hz1, hz2⟩ := info_parts Tryd.info83
  have hcv := Lib.run_convert_string_bytes (P := Tryd.prog) (w.setCell ⟨g, 12, none⟩ (.bool true)) 9 22 5 t Tryd.underlying9 Tryd.underlying22 Tryd.underlying5
  have hbc := bel_conv (w.setCell ⟨g, 12, none⟩ (.bool true)) t
  have HTX0 := hid (conv_tk (w.setCell ⟨g, 12, none⟩ (.bool true)) base t ht)
  have HX0 := hid hx'
  have HO0 := hid ho'
  have HF0 := hid hf'
  have HT0 := hid ht2
  clear hx hx' ho ho' hf hf' ht2
  unfold maxLen at ht
  generalize hW2 : Lib.bytesWorld (w.setCell ⟨g, 12, none⟩ (.bool true)) 5 t = w2 at hcv hbc HTX0
  have HW2 := hid hW2
  clear hW2
  generalize hcap : grownCap (w.setCell ⟨g, 12, none⟩ (.bool true)) t.size 0 5 = tc at hcv HTX0
  have HCAP := hid hcap
  clear hcap
  have HX2 := hid (HX0.out.same (hbc.block g HX0.out.lt))
  have HO2 := hid (own_bel HO0.out hbc)
  have HF2 := hid (FlatK.kept (Kept.of_below hbc base []) (by simp) _ _ HF0.out)
  have HT2 := hid (HT0.out.below hbc)
  have HB2 := hid hbc
  have HTX : Hid (TK w2 base (some ⟨w.heap.size, 0, none⟩) tc t.data.toList) := hid (by have h := HTX0.out; simpa using h)
  clear hbc HTX0
  have hd1 : (t.size : Int) < l := by omega
  go_enter Tryd.func88, Tryd.ntmps88
  go_wp2_with (first
    | (at_builtin
       refine wpList_app _ rfl (.tmp 22) (.tmp 26) 63 rfl base 80 i0 _ 4 64 Tryd.underlying63 hi0 hz0 hz1 hz2 rfl ?g1 fA m fc cs rfl (own_bel HO2.out ((Below.refl _ _).alloc (Nat.le_refl _) _)) _ _ 1 1 _ rfl ?g2 (lies_lit_at _ _ _ _ (by simp)) (one4k _ _ _ _ _ _ _ _) ?g3 ?g4 ?g5 ?_
       case g1 => omega
       case g2 => rfl
       case g3 => unfold maxLen; omega
       case g4 => omega
       case g5 => have := HB2.out.size; simp at this ⊢; omega
       intro A6 c6 w6 ho6 hg6
       have hb1 : Below w2.heap.size w2 (w2.alloc (.cells #[.int .i64 4, .int .u32 0, .slice (some ⟨w.heap.size, 0, none⟩) t.size tc, .slice none 0 0] 80)) := (Below.refl _ _).alloc (Nat.le_refl _) _
       have hx1 := box_al HX2.out (.cells #[.int .i64 4, .int .u32 0, .slice (some ⟨w.heap.size, 0, none⟩) t.size tc, .slice none 0 0] 80)
       have ho1 := own_bel HO2.out hb1
       have hx2 := hx1.same (hg6.block g hx1.lt (fun e => own_ne ho1 hx1 (by decide) e.symm))
       have hc2 : w6.cell? ⟨g, 11, none⟩ = some (.slice fA m fc) := hx2.cell 11
       have hf2 : w6.frozen? ⟨g, 11, none⟩ = false := hx2.frozen 11
       have hfin := wr_store (f := ⟨4, 0, t.data.toList, []⟩) (tA := some ⟨w.heap.size, 0, none⟩) (tc := tc) HM.out hbg (HT2.out.below hb1) hx1 ho1 (FlatK.kept (Kept.of_below hb1 base []) (by simp) _ _ HF2.out) (HTX.out.below hb1) rfl (by first | exact ho6 | (rw [str_len]; exact ho6)) hg6
       have HFIN := hid hfin
       clear hfin ho6 hg6 hx1 hx2 ho1 hb1))
  go_end0
  rw [Ws.wrd_of (b := true) (by rw [HWK.out]; simp)]
  refine ⟨rfl, HFIN.out.1, ?_⟩
  exact HB0.out.trans ((Kept.of_below HB2.out base [72, 80]).trans (((Kept.refl _ _ _).alloc _).trans HFIN.out.2))
set_option maxHeartbeats 1000000 in
set_option maxRecDepth 100000 in
theorem word_wrong (base g c l : Nat) (t : ByteArray) (r : Rq) (A : Option Addr) (s : Ws) (w : World) (hs : WrS w base g r A c s) (hl : s.fs.length ≤ 100) (_hl1 : l ≤ 1) (ht : t.size ≤ maxLen) (hle : l ≤ t.size) (hw : wordOk 0 t = false) :
    Calls Tryd.prog 88 #[.pointer (some ⟨g, 0, none⟩), .string t, .int .i64 l] w (PutW base g r A c (s.wrd l t) w) := by
  have HWK : Hid (wordOk l t = false) := hid (by rw [wordOk_split, hw]; simp)
  have HW0 := hid hw
  clear hw
  have hlow := hs.lt
  have HB0 := hid (wr_bad hs).2
  have hs2 := (wr_bad hs).1
  obtain ⟨hbg, HT0, fA0, fc0, cs0, hx, ho, hf⟩ := hs
  have hc12 : w.cell? ⟨g, 12, none⟩ = some (.bool s.bad) := hx.cell 12
  have hf12 : w.frozen? ⟨g, 12, none⟩ = false := hx.frozen 12
  have hlt0 := hx.lt
  clear hx ho hf
  clear HT0
  obtain ⟨_, ht2, fA, fc, cs, hx, ho, hf⟩ := hs2
  obtain ⟨m, HM⟩ : ∃ m, Hid (s.fs.length = m) := ⟨_, hid rfl⟩
  have hx' : Box (w.setCell ⟨g, 12, none⟩ (.bool true)) g 72 (r.wcells A c fA m fc true s.long) := by rw [← HM.out]; exact hx
  have ho' : (w.setCell ⟨g, 12, none⟩ (.bool true)).ownsRow base 80 4 (.slice fA m fc) m cs := by rw [← HM.out]; exact ho
  have hf' : FlatK (w.setCell ⟨g, 12, none⟩ (.bool true)) base s.fs cs := hf
  have hc11 : (w.setCell ⟨g, 12, none⟩ (.bool true)).cell? ⟨g, 11, none⟩ = some (.slice fA m fc) := hx'.cell 11
  rw [HM.out] at hl
  obtain ⟨i0, hi0, hz0, hz1, hz2⟩ := info_parts Tryd.info83
  have hcv := Lib.run_convert_string_bytes (P := Tryd.prog) (w.setCell ⟨g, 12, none⟩ (.bool true)) 9 22 5 t Tryd.underlying9 Tryd.underlying22 Tryd.underlying5
  have hbc := bel_conv (w.setCell ⟨g, 12, none⟩ (.bool true)) t
  have HTX0 := hid (conv_tk (w.setCell ⟨g, 12, none⟩ (.bool true)) base t ht)
  have HX0 := hid hx'
  have HO0 := hid ho'
  have HF0 := hid hf'
  have HT0 := hid ht2
  clear hx hx' ho ho' hf hf' ht2
  unfold maxLen at ht
  generalize hW2 : Lib.bytesWorld (w.setCell ⟨g, 12, none⟩ (.bool true)) 5 t = w2 at hcv hbc HTX0
  have HW2 := hid hW2
  clear hW2
  generalize hcap : grownCap (w.setCell ⟨g, 12, none⟩ (.bool true)) t.size 0 5 = tc at hcv HTX0
  have HCAP := hid hcap
  clear hcap
  have HX2 := hid (HX0.out.same (hbc.block g HX0.out.lt))
  have HO2 := hid (own_bel HO0.out hbc)
  have HF2 := hid (FlatK.kept (Kept.of_below hbc base []) (by simp) _ _ HF0.out)
  have HT2 := hid (HT0.out.below hbc)
  have HB2 := hid hbc
  have HTX : Hid (TK w2 base (some ⟨w.heap.size, 0, none⟩) tc t.data.toList) := hid (by have h := HTX0.out; simpa using h)
  clear hbc HTX0
  have hd1 : decide ((t.size : Int) < l) = false := by simp; omega
  go_enter Tryd.func88, Tryd.ntmps88
  go_wp2_with (first
    | (go_at_call 109; ((with_reducible refine (right_s t _ (by unfold maxLen; omega)).mono ?_)); rw [HW0.out]; rintro e w1 ⟨rfl, rfl⟩)
    | (at_builtin
       refine wpList_app _ rfl (.tmp 22) (.tmp 26) 63 rfl base 80 i0 _ 4 64 Tryd.underlying63 hi0 hz0 hz1 hz2 rfl ?g1 fA m fc cs rfl (own_bel HO2.out ((Below.refl _ _).alloc (Nat.le_refl _) _)) _ _ 1 1 _ rfl ?g2 (lies_lit_at _ _ _ _ (by simp)) (one4k _ _ _ _ _ _ _ _) ?g3 ?g4 ?g5 ?_
       case g1 => omega
       case g2 => rfl
       case g3 => unfold maxLen; omega
       case g4 => omega
       case g5 => have := HB2.out.size; simp at this ⊢; omega
       intro A6 c6 w6 ho6 hg6
       have hb1 : Below w2.heap.size w2 (w2.alloc (.cells #[.int .i64 4, .int .u32 0, .slice (some ⟨w.heap.size, 0, none⟩) t.size tc, .slice none 0 0] 80)) := (Below.refl _ _).alloc (Nat.le_refl _) _
       have hx1 := box_al HX2.out (.cells #[.int .i64 4, .int .u32 0, .slice (some ⟨w.heap.size, 0, none⟩) t.size tc, .slice none 0 0] 80)
       have ho1 := own_bel HO2.out hb1
       have hx2 := hx1.same (hg6.block g hx1.lt (fun e => own_ne ho1 hx1 (by decide) e.symm))
       have hc2 : w6.cell? ⟨g, 11, none⟩ = some (.slice fA m fc) := hx2.cell 11
       have hf2 : w6.frozen? ⟨g, 11, none⟩ = false := hx2.frozen 11
       have hfin := wr_store (f := ⟨4, 0, t.data.toList, []⟩) (tA := some ⟨w.heap.size, 0, none⟩) (tc := tc) HM.out hbg (HT2.out.below hb1) hx1 ho1 (FlatK.kept (Kept.of_below hb1 base []) (by simp) _ _ HF2.out) (HTX.out.below hb1) rfl (by first | exact ho6 | (rw [str_len]; exact ho6)) hg6
       have HFIN := hid hfin
       clear hfin ho6 hg6 hx1 hx2 ho1 hb1))
  go_end0
  rw [Ws.wrd_of (b := true) (by rw [HWK.out]; simp)]
  refine ⟨rfl, HFIN.out.1, ?_⟩
  exact HB0.out.trans ((Kept.of_below HB2.out base [72, 80]).trans (((Kept.refl _ _ _).alloc _).trans HFIN.out.2))
set_option maxHeartbeats 1000000 in
set_option maxRecDepth 100000 in
theorem word_good (base g c l : Nat) (t : ByteArray) (r : Rq) (A : Option Addr) (s : Ws) (w : World) (hs : WrS w base g r A c s) (hl : s.fs.length ≤ 100) (_hl1 : l ≤ 1) (ht : t.size ≤ maxLen) (hle : l ≤ t.size) (hw : wordOk 0 t = true) :
    Calls Tryd.prog 88 #[.pointer (some ⟨g, 0, none⟩), .string t, .int .i64 l] w (PutW base g r A c (s.wrd l t) w) := by
  have HWK : Hid (wordOk l t = true) := hid (by rw [wordOk_split, hw]; simp; omega)
  have HW0 := hid hw
  clear hw
  have hlow := hs.lt
  have hs2 := hs
  clear hs
  have hbg := hs2.1
  obtain ⟨_, ht2, fA, fc, cs, hx, ho, hf⟩ := hs2
  obtain ⟨m, HM⟩ : ∃ m, Hid (s.fs.length = m) := ⟨_, hid rfl⟩
  have hx' : Box w g 72 (r.wcells A c fA m fc s.bad s.long) := by rw [← HM.out]; exact hx
  have ho' : w.ownsRow base 80 4 (.slice fA m fc) m cs := by rw [← HM.out]; exact ho
  have hf' : FlatK w base s.fs cs := hf
  have hc11 : w.cell? ⟨g, 11, none⟩ = some (.slice fA m fc) := hx'.cell 11
  rw [HM.out] at hl
  obtain ⟨i0, hi0, hz0, hz1, hz2⟩ := info_parts Tryd.info83
  have hcv := Lib.run_convert_string_bytes (P := Tryd.prog) w 9 22 5 t Tryd.underlying9 Tryd.underlying22 Tryd.underlying5
  have hbc := bel_conv w t
  have HTX0 := hid (conv_tk w base t ht)
  have HX0 := hid hx'
  have HO0 := hid ho'
  have HF0 := hid hf'
  have HT0 := hid ht2
  clear hx hx' ho ho' hf hf' ht2
  unfold maxLen at ht
  generalize hW2 : Lib.bytesWorld w 5 t = w2 at hcv hbc HTX0
  have HW2 := hid hW2
  clear hW2
  generalize hcap : grownCap w t.size 0 5 = tc at hcv HTX0
  have HCAP := hid hcap
  clear hcap
  have HX2 := hid (HX0.out.same (hbc.block g HX0.out.lt))
  have HO2 := hid (own_bel HO0.out hbc)
  have HF2 := hid (FlatK.kept (Kept.of_below hbc base []) (by simp) _ _ HF0.out)
  have HT2 := hid (HT0.out.below hbc)
  have HB2 := hid hbc
  have HTX : Hid (TK w2 base (some ⟨w.heap.size, 0, none⟩) tc t.data.toList) := hid (by have h := HTX0.out; simpa using h)
  clear hbc HTX0
  have hd1 : decide ((t.size : Int) < l) = false := by simp; omega
  go_enter Tryd.func88, Tryd.ntmps88
  go_wp2_with (first
    | (go_at_call 109; ((with_reducible refine (right_s t _ (by unfold maxLen; omega)).mono ?_)); rw [HW0.out]; rintro e w1 ⟨rfl, rfl⟩)
    | (at_builtin
       refine wpList_app _ rfl (.tmp 22) (.tmp 26) 63 rfl base 80 i0 _ 4 64 Tryd.underlying63 hi0 hz0 hz1 hz2 rfl ?g1 fA m fc cs rfl (own_bel HO2.out ((Below.refl _ _).alloc (Nat.le_refl _) _)) _ _ 1 1 _ rfl ?g2 (lies_lit_at _ _ _ _ (by simp)) (one4k _ _ _ _ _ _ _ _) ?g3 ?g4 ?g5 ?_
       case g1 => omega
       case g2 => rfl
       case g3 => unfold maxLen; omega
       case g4 => omega
       case g5 => have := HB2.out.size; simp at this ⊢; omega
       intro A6 c6 w6 ho6 hg6
       have hb1 : Below w2.heap.size w2 (w2.alloc (.cells #[.int .i64 4, .int .u32 0, .slice (some ⟨w.heap.size, 0, none⟩) t.size tc, .slice none 0 0] 80)) := (Below.refl _ _).alloc (Nat.le_refl _) _
       have hx1 := box_al HX2.out (.cells #[.int .i64 4, .int .u32 0, .slice (some ⟨w.heap.size, 0, none⟩) t.size tc, .slice none 0 0] 80)
       have ho1 := own_bel HO2.out hb1
       have hx2 := hx1.same (hg6.block g hx1.lt (fun e => own_ne ho1 hx1 (by decide) e.symm))
       have hc2 : w6.cell? ⟨g, 11, none⟩ = some (.slice fA m fc) := hx2.cell 11
       have hf2 : w6.frozen? ⟨g, 11, none⟩ = false := hx2.frozen 11
       have hfin := wr_store (f := ⟨4, 0, t.data.toList, []⟩) (tA := some ⟨w.heap.size, 0, none⟩) (tc := tc) HM.out hbg (HT2.out.below hb1) hx1 ho1 (FlatK.kept (Kept.of_below hb1 base []) (by simp) _ _ HF2.out) (HTX.out.below hb1) rfl (by first | exact ho6 | (rw [str_len]; exact ho6)) hg6
       have HFIN := hid hfin
       clear hfin ho6 hg6 hx1 hx2 ho1 hb1))
  go_end0
  rw [Ws.wrd_of (b := s.bad) (by rw [HWK.out]; simp)]
  refine ⟨rfl, HFIN.out.1, ?_⟩
  exact ((Kept.of_below HB2.out base [72, 80]).trans (((Kept.refl _ _ _).alloc _).trans HFIN.out.2))
theorem word_any (base g c l : Nat) (t : ByteArray) (r : Rq) (A : Option Addr) (s : Ws) (w : World) (hs : WrS w base g r A c s) (hl : s.fs.length ≤ 100) (hl1 : l ≤ 1) (ht : t.size ≤ maxLen) :
    Calls Tryd.prog 88 #[.pointer (some ⟨g, 0, none⟩), .string t, .int .i64 l] w (PutW base g r A c (s.wrd l t) w) := by
  by_cases h : l ≤ t.size
  · cases hw : wordOk 0 t with
    | true => exact word_good base g c l t r A s w hs hl hl1 ht h hw
    | false => exact word_wrong base g c l t r A s w hs hl hl1 ht h hw
  · exact word_short base g c l t r A s w hs hl hl1 ht (by omega)
end Go.Proofs.YtdplngplljejhaaDoor
