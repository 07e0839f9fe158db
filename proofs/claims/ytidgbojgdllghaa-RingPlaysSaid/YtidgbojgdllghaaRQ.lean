import Derived.Test.YtidgbojgdllghaaRP
namespace Go.Proofs.Ytidgbojgdllghaa
open Go.RowKit

theorem own_slb' {w : World} {base n c : Nat} {A : Option Addr} {bs : List UInt8} (hn : bs.length = n) (h : w.ownsRow base 5 1 (.slice A n c) n (bv bs)) : SlB w w.heap.size A c bs := by
  subst hn
  exact own_slb (_n := 0) h
theorem keeps_eq2 {I O q : List UInt8} (n : Nat) (h : I = O ++ q) : I = (O ++ q.take n) ++ q.drop n := by rw [List.append_assoc, List.take_append_drop]; exact h
theorem kp_len {w : World} {M g h size : Nat} {A1 : Option Addr} {c1 il : Nat} {A2 : Option Addr} {c2 ol : Nat} {I O q : List UInt8} (k : KP w M g h size A1 c1 il A2 c2 ol I O q) (e : I = O ++ q) : ol ≤ il := by
  rw [← k.l1, ← k.l2, e, List.length_append]
  omega

set_option maxHeartbeats 4000000 in
set_option maxRecDepth 100000 in
theorem keeps_great (w : World) (size : Int) (A : Option Addr) (c n : Nat) (l : List OpV) (hl : Hid (OpsV w w.heap.size A l)) (hn : Hid (l.length = n)) (hl2 : n ≤ maxLen) (hg : Hid (greatO l = true)) :
    Calls Try.prog 4 #[.int .i64 size, .slice A n c] w fun e w' => e = .returned (.bool true) ∧ Hid (Below w.heap.size w w') := by
  go_enter Try.func4, Try.ntmps4
  go_wp2_with (first
    | (go_at_call 7
       ((with_reducible refine (alive_any _).mono ?_); rintro e w1 ⟨rfl, HB1⟩)
       have HL1 : Hid (OpsV w1 w1.heap.size A l) := ops_at hl HB1)
    | (go_at_call 8
       ((with_reducible refine (great_any _ A c n l true HL1 hn hl2 hg).mono ?_); rintro e w2 ⟨rfl, HB2⟩)))
  go_ret
  exact ⟨rfl, (bel_trans HB1 HB2).out⟩
set_option maxHeartbeats 4000000 in
set_option maxRecDepth 100000 in
theorem keeps_bad (w : World) (size : Int) (A : Option Addr) (c n : Nat) (l : List OpV) (hl : Hid (OpsV w w.heap.size A l)) (hn : Hid (l.length = n)) (hl2 : n ≤ maxLen) (hg : Hid (greatO l = false)) (hs : size < 1 ∨ 65536 < size) :
    Calls Try.prog 4 #[.int .i64 size, .slice A n c] w fun e w' => e = .returned (.bool true) ∧ Hid (Below w.heap.size w w') := by
  go_enter Try.func4, Try.ntmps4
  go_wp2_with (first
    | (go_at_call 7
       ((with_reducible refine (alive_any _).mono ?_); rintro e w1 ⟨rfl, HB1⟩)
       have HL1 : Hid (OpsV w1 w1.heap.size A l) := ops_at hl HB1)
    | (go_at_call 8
       ((with_reducible refine (great_any _ A c n l false HL1 hn hl2 hg).mono ?_); rintro e w2 ⟨rfl, HB2⟩))
    | (go_at_call 9
       ((with_reducible refine (new_bad _ size hs).mono ?_); rintro e w3 ⟨rfl, rfl⟩)))
  go_ret
  exact ⟨rfl, (bel_trans HB1 HB2).out⟩

set_option maxHeartbeats 8000000 in
set_option maxRecDepth 100000 in
theorem keeps_walk (w : World) (size : Nat) (A : Option Addr) (c n : Nat) (l : List OpV) (hl : Hid (OpsV w w.heap.size A l)) (hn : Hid (l.length = n)) (hl2 : n ≤ maxLen) (hg : Hid (greatO l = false)) (hs1 : 1 ≤ size) (hs2 : size ≤ 65536) :
    Calls Try.prog 4 #[.int .i64 size, .slice A n c] w fun e w' => e = .returned (.bool true) ∧ Hid (Below w.heap.size w w') := by
  obtain ⟨i0, hi0, hz0, hz1, hz2⟩ := info_parts Try.info5
  have h200 := great_len hg.out
  rw [hn.out] at h200
  go_enter Try.func4, Try.ntmps4
  go_wp2_with (first
    | (go_at_call 7
       ((with_reducible refine (alive_any _).mono ?_); rintro e w1 ⟨rfl, HB1⟩)
       have HL1 : Hid (OpsV w1 w1.heap.size A l) := ops_at hl HB1)
    | (go_at_call 8
       ((with_reducible refine (great_any _ A c n l false HL1 hn hl2 hg).mono ?_); rintro e w2 ⟨rfl, HB2⟩)
       have HBw2 := bel_trans HB1 HB2
       have hz2' := HBw2.out.size)
    | (go_at_call 9
       ((with_reducible refine (new_any _ size hs1 hs2).mono ?_); rintro e w3 ⟨g, rfl, h, HR3, hg3, hh3, HB3⟩)
       have HBw3 := bel_trans HBw2 HB3
       have hlr := HR3.out.lt))
  have hM0 : w.heap.size ≤ w3.heap.size := HBw3.out.size
  have hlo1 : w.heap.size ≤ g := by omega
  have hlo2 : w.heap.size ≤ h := by omega
  obtain ⟨M, HM⟩ : ∃ x, Hid (w3.heap.size = x) := ⟨_, hid rfl⟩
  have HK3 : Hid (KP w3 M g h size none 0 0 none 0 0 [] [] []) := by
    rw [HM.out] at hlr
    exact ⟨World.ownsRow_nil _ _ _ _, World.ownsRow_nil _ _ _ _, fun x hx => by simp [Value.ownBlock] at hx, HR3.out, hlr.1, hlr.2, rfl, rfl⟩
  have hM1 : w.heap.size ≤ M := by rw [← HM.out]; exact hM0
  have hgM : g < M := by rw [← HM.out]; exact hlr.1
  have hhM : h < M := by rw [← HM.out]; exact hlr.2
  have hM3 : M ≤ w3.heap.size := by rw [HM.out]; exact Nat.le_refl _
  clear hg3 hh3 hlr hM0
  go_loopw [7, 8, 29] (fun inn out i wr => ∃ (k il ol : Nat) (A1 A2 : Option Addr) (c1 c2 : Nat), k ≤ n ∧ i = .int .i64 k ∧ inn = .slice A1 il c1 ∧ out = .slice A2 ol c2 ∧ il ≤ 65536 * k ∧ M ≤ wr.heap.size ∧
    Hid (∃ I O q, KP wr M g h size A1 c1 il A2 c2 ol I O q ∧ I = O ++ q) ∧ Hid (Below w.heap.size w wr)) (fun _ _ i _ => n - (intOf i).toNat)
  case atStart => exact ⟨0, 0, 0, none, none, 0, 0, Nat.zero_le _, rfl, rfl, rfl, Nat.zero_le _, hM3, ⟨[], [], [], HK3.out, rfl⟩, HBw3⟩
  case round =>
    obtain ⟨k, il, ol, A1, A2, c1, c2, hk, rfl, rfl, rfl, hil, hMr, HKK, HBr⟩ := hrel
    obtain ⟨I, O, q, hkp, hio⟩ := HKK.out
    have HK := hid hkp
    have HIO := hid hio
    have hol := kp_len hkp hio
    have hqs := hkp.rg.sizes.2.2
    clear hkp hio
    by_cases hlt : k < n
    · have hkl : k < l.length := by rw [hn.out]; exact hlt
      obtain ⟨b0, o0, rfl, hbw, hcells⟩ := hl.out (by intro e; rw [e] at hkl; simp at hkl)
      obtain ⟨tA, tc, hsl, e0, e1, e2⟩ := hcells k hkl
      have c0 := (HBr.out.cell (p := ⟨b0, _, none⟩) hbw).trans e0
      have c1' := (HBr.out.cell (p := ⟨b0, _, none⟩) hbw).trans e1
      have c2' := (HBr.out.cell (p := ⟨b0, _, none⟩) hbw).trans e2
      obtain ⟨bb, HBB⟩ : ∃ x, Hid (l[k].2.2 = x) := ⟨_, hid rfl⟩
      rw [HBB.out] at c2' hsl
      obtain ⟨x, HX⟩ : ∃ x : Nat, Hid (bb.length = x) := ⟨_, hid rfl⟩
      rw [HX.out] at c2'
      obtain ⟨kk, HKK⟩ : ∃ x : Int, Hid (l[k].1 = x) := ⟨_, hid rfl⟩
      obtain ⟨kn, HKN⟩ : ∃ x : Int, Hid (l[k].2.1 = x) := ⟨_, hid rfl⟩
      rw [HKK.out] at c0
      rw [HKN.out] at c1'
      have HSL := hid hsl
      have i1 : (k : Int) < n := by omega
      have hsc := hsl.1
      have hsc2 := hsl.2.1
      rw [HX.out] at hsc
      unfold maxLen at hsc2
      clear e0 e1 e2 hcells hsl
      have HBo : Hid (Below w.heap.size w (wr.alloc (.cells #[.int .i64 kk, .int .i64 kn, .slice tA x tc] 34))) := HBr.out.alloc HBr.out.size _
      have HXo : Hid (Box (wr.alloc (.cells #[.int .i64 kk, .int .i64 kn, .slice tA x tc] 34)) wr.heap.size 34 #[.int .i64 kk, .int .i64 kn, .slice tA x tc]) := Box.new _ _ _
      have HKo : Hid (KP (wr.alloc (.cells #[.int .i64 kk, .int .i64 kn, .slice tA x tc] 34)) M g h size A1 c1 il A2 c2 ol I O q) := HK.out.keep0 ((But.refl [] wr).alloc _)
      have HRo : Hid (Rg (wr.alloc (.cells #[.int .i64 kk, .int .i64 kn, .slice tA x tc] 34)) g h size q) := HKo.out.rg
      have HAx : Hid (bb ≠ [] → ∀ a, tA = some a → a.block ≠ h) := slb_far HSL hlo2
      obtain ⟨ql, HQL⟩ : ∃ x : Nat, Hid (q.length = x) := ⟨_, hid rfl⟩
      have hql : ql ≤ size := by rw [← HQL.out]; exact hqs
      have HD1 : Hid (had (ql : Int) q.length = ql) := by show _ = _; rw [had_nat, HQL.out]; omega
      have HT1 : Hid (q.take ql = q) := by show _ = _; rw [← HQL.out]; exact List.take_length
      have hszr := HBr.out.size
      by_cases n1 : kk = 1
      · subst n1
        obtain ⟨m, HMM⟩ : ∃ m, Hid (min bb.length (size - q.length) = m) := ⟨_, hid rfl⟩
        have HST : Hid (stepF size 1 kn bb q = ([], m, (q ++ bb.take m))) := by
          show _ = _
          rw [stepF, if_pos rfl]
          rw [HMM.out]
        have HOL : Hid (([] : List UInt8).length = 0) := rfl
        have hmx : m ≤ x := by rw [← HMM.out, HX.out]; omega
        have hms : m + ql ≤ size := by rw [← HMM.out, HQL.out]; omega
        have HTK : Hid (SlB w w.heap.size tA tc (bb.take m)) := HSL.out.take m
        have HTL : Hid ((bb.take m).length = m) := by show _ = _; rw [List.length_take, HX.out]; omega
        have HRL : Hid (size - (q ++ bb.take m).length = size - (ql + m)) := by show _ = _; rw [List.length_append, HTL.out, HQL.out]
        have hfull : m < x → size - (ql + m) = 0 := by
          have := HMM.out
          rw [HX.out, HQL.out] at this
          omega
        by_cases hmx2 : m < x
        · have y1 : (m : Int) < x := by omega
          have y2 := hfull hmx2
          rw [y2] at HRL
          go_wp2_with (first
            | (go_at_call 14
               ((with_reducible refine (len_n _ ql HQL.out HRo).mono ?_); rintro e w4 ⟨rfl, rfl⟩))
            | (go_at_call 17
               ((with_reducible refine (peek_n _ ql ql HD1.out HT1.out HRo).mono ?_); rintro e w5 ⟨A5, c5, rfl, HO5, HB5⟩)
               have HB5w : Hid (Below w.heap.size w w5) := HBo.out.trans (HB5.out.mono HBo.out.size)
               have HK5 : Hid (KP w5 M g h size A1 c1 il A2 c2 ol I O q) := HKo.out.keep0 (But.of_below HB5.out [])
               have hx5 := box_below HXo.out HB5.out
               have HX5 := hid hx5
               have c50 := hx5.cell 0
               have c51 := hx5.cell 1
               have c52 := hx5.cell 2
               have HR5 : Hid (Rg w5 g h size q) := HK5.out.rg
               have HS5 := slb_at HSL HB5w
               have hsz5 := HB5.out.size
               clear hx5)
            | (go_at_call 11
               ((with_reducible refine (do_q _ 1 kn x HR5 HS5 HAx HX HST HOL).mono ?_); rintro e w6 ⟨A6, c6, rfl, HS6⟩)
               have HB6w : Hid (Below w.heap.size w w6) := HB5w.out.trans (HS6.out.but.below HB5w.out.size (by simp; omega))
               have HK6 : Hid (KP w6 M g h size A1 c1 il A2 c2 ol I O (q ++ bb.take m)) := HK5.out.ring HS6.out.rg HS6.out.but
               have HR6 : Hid (Rg w6 g h size (q ++ bb.take m)) := HS6.out.rg
               have HW6 : Hid (w6.ownsRow (wr.alloc (.cells #[.int .i64 1, .int .i64 kn, .slice tA x tc] 34)).heap.size 5 1 (.slice A5 ql c5) ql (bv q)) := HS6.out.but.own HO5.out (fun z hz => by have := (HO5.out.lt z hz).1; simp at this; simp; omega)
               have hx6 := HS6.out.but.box HX5.out (by simp; omega)
               have c60 := hx6.cell 0
               have c62 := hx6.cell 2
               have hM6 : M ≤ w6.heap.size := by have := HS6.out.but.size; simp at hsz5; omega
               clear hx6)
            | (go_at_call 16
               ((with_reducible refine (room_n _ _ HRL.out HR6).mono ?_); rintro e w7 ⟨rfl, rfl⟩))
            | (at_builtin
               (refine wpList_appx _ rfl (.tmp 57) (.tmp 61) 32 rfl M 5 i0 _ 1 Try.underlying32 hi0 hz0 hz1 hz2 rfl A1 il c1 (bv I) rfl HK6.out.own1 w.heap.size tA m tc (bv (bb.take m)) rfl (by rw [bv_length, HTL.out]) (HTK.out.2.2.2.below HB6w.out) (bv_one _) (by unfold maxLen; omega) (by omega) hM6 ?_
                intro A8 c8 w8 ho8 hg8 hb8
                rw [← bv_append] at ho8
                have HK8 := hid (HK6.out.grow1 hg8 ho8 hb8 (by rw [List.length_append, HTL.out, HK.out.l1]))
                have HB8 := hid ((grown_below hg8 HK6.out.own1 hM6).mono hM1)
                have hM8 := Nat.le_trans hM6 hg8.size
                clear ho8 hg8 hb8)))
          go_roundw
          case rel => exact ⟨k + 1, il + m, ol, A8, A2, c8, c2, by omega, by go_num, by go_num, rfl, by omega, hM8, ⟨_, _, _, HK8.out, by rw [HIO.out, List.append_assoc]⟩, HB6w.out.trans HB8.out⟩
          case measure => simp [intOf]; omega
        · have y1 : ¬ ((m : Int) < x) := by omega
          go_wp2_with (first
            | (go_at_call 14
               ((with_reducible refine (len_n _ ql HQL.out HRo).mono ?_); rintro e w4 ⟨rfl, rfl⟩))
            | (go_at_call 17
               ((with_reducible refine (peek_n _ ql ql HD1.out HT1.out HRo).mono ?_); rintro e w5 ⟨A5, c5, rfl, HO5, HB5⟩)
               have HB5w : Hid (Below w.heap.size w w5) := HBo.out.trans (HB5.out.mono HBo.out.size)
               have HK5 : Hid (KP w5 M g h size A1 c1 il A2 c2 ol I O q) := HKo.out.keep0 (But.of_below HB5.out [])
               have hx5 := box_below HXo.out HB5.out
               have HX5 := hid hx5
               have c50 := hx5.cell 0
               have c51 := hx5.cell 1
               have c52 := hx5.cell 2
               have HR5 : Hid (Rg w5 g h size q) := HK5.out.rg
               have HS5 := slb_at HSL HB5w
               have hsz5 := HB5.out.size
               clear hx5)
            | (go_at_call 11
               ((with_reducible refine (do_q _ 1 kn x HR5 HS5 HAx HX HST HOL).mono ?_); rintro e w6 ⟨A6, c6, rfl, HS6⟩)
               have HB6w : Hid (Below w.heap.size w w6) := HB5w.out.trans (HS6.out.but.below HB5w.out.size (by simp; omega))
               have HK6 : Hid (KP w6 M g h size A1 c1 il A2 c2 ol I O (q ++ bb.take m)) := HK5.out.ring HS6.out.rg HS6.out.but
               have HR6 : Hid (Rg w6 g h size (q ++ bb.take m)) := HS6.out.rg
               have HW6 : Hid (w6.ownsRow (wr.alloc (.cells #[.int .i64 1, .int .i64 kn, .slice tA x tc] 34)).heap.size 5 1 (.slice A5 ql c5) ql (bv q)) := HS6.out.but.own HO5.out (fun z hz => by have := (HO5.out.lt z hz).1; simp at this; simp; omega)
               have hx6 := HS6.out.but.box HX5.out (by simp; omega)
               have c60 := hx6.cell 0
               have c62 := hx6.cell 2
               have hM6 : M ≤ w6.heap.size := by have := HS6.out.but.size; simp at hsz5; omega
               clear hx6)
            | (go_at_call 16
               ((with_reducible refine (room_n _ _ HRL.out HR6).mono ?_); rintro e w7 ⟨rfl, rfl⟩))
            | (at_builtin
               (refine wpList_appx _ rfl (.tmp 57) (.tmp 61) 32 rfl M 5 i0 _ 1 Try.underlying32 hi0 hz0 hz1 hz2 rfl A1 il c1 (bv I) rfl HK6.out.own1 w.heap.size tA m tc (bv (bb.take m)) rfl (by rw [bv_length, HTL.out]) (HTK.out.2.2.2.below HB6w.out) (bv_one _) (by unfold maxLen; omega) (by omega) hM6 ?_
                intro A8 c8 w8 ho8 hg8 hb8
                rw [← bv_append] at ho8
                have HK8 := hid (HK6.out.grow1 hg8 ho8 hb8 (by rw [List.length_append, HTL.out, HK.out.l1]))
                have HB8 := hid ((grown_below hg8 HK6.out.own1 hM6).mono hM1)
                have hM8 := Nat.le_trans hM6 hg8.size
                clear ho8 hg8 hb8)))
          go_roundw
          case rel => exact ⟨k + 1, il + m, ol, A8, A2, c8, c2, by omega, by go_num, by go_num, rfl, by omega, hM8, ⟨_, _, _, HK8.out, by rw [HIO.out, List.append_assoc]⟩, HB6w.out.trans HB8.out⟩
          case measure => simp [intOf]; omega
      by_cases n2 : kk = 2
      · subst n2
        obtain ⟨m, HMM⟩ : ∃ m, Hid (had kn q.length = m) := ⟨_, hid rfl⟩
        have hmq : m ≤ ql := by rw [← HMM.out, ← HQL.out]; exact had_le _ _
        have HST : Hid (stepF size 2 kn bb q = ((q.take m), 0, (q.drop m))) := by
          show _ = _
          rw [stepF, if_neg (by decide), if_pos rfl]
          rw [HMM.out]
        have HOL : Hid ((q.take m).length = m) := by show _ = _; rw [List.length_take, HQL.out]; omega
        go_wp2_with (first
          | (go_at_call 14
             ((with_reducible refine (len_n _ ql HQL.out HRo).mono ?_); rintro e w4 ⟨rfl, rfl⟩))
          | (go_at_call 17
             ((with_reducible refine (peek_n _ ql ql HD1.out HT1.out HRo).mono ?_); rintro e w5 ⟨A5, c5, rfl, HO5, HB5⟩)
             have HB5w : Hid (Below w.heap.size w w5) := HBo.out.trans (HB5.out.mono HBo.out.size)
             have HK5 : Hid (KP w5 M g h size A1 c1 il A2 c2 ol I O q) := HKo.out.keep0 (But.of_below HB5.out [])
             have hx5 := box_below HXo.out HB5.out
             have HX5 := hid hx5
             have c50 := hx5.cell 0
             have c51 := hx5.cell 1
             have c52 := hx5.cell 2
             have HR5 : Hid (Rg w5 g h size q) := HK5.out.rg
             have HS5 := slb_at HSL HB5w
             have hsz5 := HB5.out.size
             clear hx5)
          | (go_at_call 11
             ((with_reducible refine (do_q _ 2 kn x HR5 HS5 HAx HX HST HOL).mono ?_); rintro e w6 ⟨A6, c6, rfl, HS6⟩)
             have HB6w : Hid (Below w.heap.size w w6) := HB5w.out.trans (HS6.out.but.below HB5w.out.size (by simp; omega))
             have HK6 : Hid (KP w6 M g h size A1 c1 il A2 c2 ol I O (q.drop m)) := HK5.out.ring HS6.out.rg HS6.out.but
             have HR6 : Hid (Rg w6 g h size (q.drop m)) := HS6.out.rg
             have HW6 : Hid (w6.ownsRow (wr.alloc (.cells #[.int .i64 2, .int .i64 kn, .slice tA x tc] 34)).heap.size 5 1 (.slice A5 ql c5) ql (bv q)) := HS6.out.but.own HO5.out (fun z hz => by have := (HO5.out.lt z hz).1; simp at this; simp; omega)
             have hx6 := HS6.out.but.box HX5.out (by simp; omega)
             have c60 := hx6.cell 0
             have c62 := hx6.cell 2
             have hM6 : M ≤ w6.heap.size := by have := HS6.out.but.size; simp at hsz5; omega
             clear hx6)
          | (at_builtin
             (refine wpList_appx _ rfl (.tmp 65) (.tmp 66) 32 rfl M 5 i0 _ 1 Try.underlying32 hi0 hz0 hz1 hz2 rfl A2 ol c2 (bv O) rfl HK6.out.own2 w6.heap.size A6 m c6 (bv (q.take m)) rfl (by rw [bv_length, HOL.out]) (Lies.own HS6.out.own) (bv_one _) (by unfold maxLen; omega) (by omega) hM6 ?_
              intro A8 c8 w8 ho8 hg8 hb8
              rw [← bv_append] at ho8
              have HK8 := hid (HK6.out.grow2 hg8 ho8 hb8 (by rw [List.length_append, HOL.out, HK.out.l2]))
              have HB8 := hid ((grown_below hg8 HK6.out.own2 hM6).mono hM1)
              have hM8 := Nat.le_trans hM6 hg8.size
              clear ho8 hg8 hb8)))
        go_roundw
        case rel => exact ⟨k + 1, il, ol + m, A1, A8, c1, c8, by omega, by go_num, rfl, by go_num, by omega, hM8, ⟨_, _, _, HK8.out, keeps_eq2 m HIO.out⟩, HB6w.out.trans HB8.out⟩
        case measure => simp [intOf]; omega
      by_cases n3 : kk = 3
      · subst n3
        obtain ⟨m, HMM⟩ : ∃ m, Hid (had kn q.length = m) := ⟨_, hid rfl⟩
        have hmq : m ≤ ql := by rw [← HMM.out, ← HQL.out]; exact had_le _ _
        have HST : Hid (stepF size 3 kn bb q = ((q.take m), 0, q)) := by
          show _ = _
          rw [stepF, if_neg (by decide), if_neg (by decide), if_pos rfl]
          rw [HMM.out]
        have HOL : Hid ((q.take m).length = m) := by show _ = _; rw [List.length_take, HQL.out]; omega
        go_wp2_with (first
          | (go_at_call 14
             ((with_reducible refine (len_n _ ql HQL.out HRo).mono ?_); rintro e w4 ⟨rfl, rfl⟩))
          | (go_at_call 17
             ((with_reducible refine (peek_n _ ql ql HD1.out HT1.out HRo).mono ?_); rintro e w5 ⟨A5, c5, rfl, HO5, HB5⟩)
             have HB5w : Hid (Below w.heap.size w w5) := HBo.out.trans (HB5.out.mono HBo.out.size)
             have HK5 : Hid (KP w5 M g h size A1 c1 il A2 c2 ol I O q) := HKo.out.keep0 (But.of_below HB5.out [])
             have hx5 := box_below HXo.out HB5.out
             have HX5 := hid hx5
             have c50 := hx5.cell 0
             have c51 := hx5.cell 1
             have c52 := hx5.cell 2
             have HR5 : Hid (Rg w5 g h size q) := HK5.out.rg
             have HS5 := slb_at HSL HB5w
             have hsz5 := HB5.out.size
             clear hx5)
          | (go_at_call 11
             ((with_reducible refine (do_q _ 3 kn x HR5 HS5 HAx HX HST HOL).mono ?_); rintro e w6 ⟨A6, c6, rfl, HS6⟩)
             have HB6w : Hid (Below w.heap.size w w6) := HB5w.out.trans (HS6.out.but.below HB5w.out.size (by simp; omega))
             have HK6 : Hid (KP w6 M g h size A1 c1 il A2 c2 ol I O q) := HK5.out.ring HS6.out.rg HS6.out.but
             have HR6 : Hid (Rg w6 g h size q) := HS6.out.rg
             have HW6 : Hid (w6.ownsRow (wr.alloc (.cells #[.int .i64 3, .int .i64 kn, .slice tA x tc] 34)).heap.size 5 1 (.slice A5 ql c5) ql (bv q)) := HS6.out.but.own HO5.out (fun z hz => by have := (HO5.out.lt z hz).1; simp at this; simp; omega)
             have hx6 := HS6.out.but.box HX5.out (by simp; omega)
             have c60 := hx6.cell 0
             have c62 := hx6.cell 2
             have hM6 : M ≤ w6.heap.size := by have := HS6.out.but.size; simp at hsz5; omega
             clear hx6))
        go_roundw
        case rel => exact ⟨k + 1, il, ol, A1, A2, c1, c2, by omega, by go_num, rfl, rfl, by omega, hM6, ⟨_, _, _, HK6.out, HIO.out⟩, HB6w⟩
        case measure => simp [intOf]; omega
      by_cases n4 : kk = 4
      · subst n4
        obtain ⟨m, HMM⟩ : ∃ m, Hid (had kn q.length = m) := ⟨_, hid rfl⟩
        have hmq : m ≤ ql := by rw [← HMM.out, ← HQL.out]; exact had_le _ _
        have HST : Hid (stepF size 4 kn bb q = ([], m, (q.drop m))) := by
          show _ = _
          rw [stepF, if_neg (by decide), if_neg (by decide), if_neg (by decide), if_pos rfl]
          rw [HMM.out]
        have HOL : Hid (([] : List UInt8).length = 0) := rfl
        have HTQ : Hid ((q.take m).length = m) := by show _ = _; rw [List.length_take, HQL.out]; omega
        have hmc : m ≤ ql := hmq
        go_wp2_with (first
          | (go_at_call 14
             ((with_reducible refine (len_n _ ql HQL.out HRo).mono ?_); rintro e w4 ⟨rfl, rfl⟩))
          | (go_at_call 17
             ((with_reducible refine (peek_n _ ql ql HD1.out HT1.out HRo).mono ?_); rintro e w5 ⟨A5, c5, rfl, HO5, HB5⟩)
             have HB5w : Hid (Below w.heap.size w w5) := HBo.out.trans (HB5.out.mono HBo.out.size)
             have HK5 : Hid (KP w5 M g h size A1 c1 il A2 c2 ol I O q) := HKo.out.keep0 (But.of_below HB5.out [])
             have hx5 := box_below HXo.out HB5.out
             have HX5 := hid hx5
             have c50 := hx5.cell 0
             have c51 := hx5.cell 1
             have c52 := hx5.cell 2
             have HR5 : Hid (Rg w5 g h size q) := HK5.out.rg
             have HS5 := slb_at HSL HB5w
             have hsz5 := HB5.out.size
             clear hx5)
          | (go_at_call 11
             ((with_reducible refine (do_q _ 4 kn x HR5 HS5 HAx HX HST HOL).mono ?_); rintro e w6 ⟨A6, c6, rfl, HS6⟩)
             have HB6w : Hid (Below w.heap.size w w6) := HB5w.out.trans (HS6.out.but.below HB5w.out.size (by simp; omega))
             have HK6 : Hid (KP w6 M g h size A1 c1 il A2 c2 ol I O (q.drop m)) := HK5.out.ring HS6.out.rg HS6.out.but
             have HR6 : Hid (Rg w6 g h size (q.drop m)) := HS6.out.rg
             have HW6 : Hid (w6.ownsRow (wr.alloc (.cells #[.int .i64 4, .int .i64 kn, .slice tA x tc] 34)).heap.size 5 1 (.slice A5 ql c5) ql (bv q)) := HS6.out.but.own HO5.out (fun z hz => by have := (HO5.out.lt z hz).1; simp at this; simp; omega)
             have hq5 := (own_caps HW6.out).1
             have hm5 : m ≤ c5 := by omega
             have hx6 := HS6.out.but.box HX5.out (by simp; omega)
             have c60 := hx6.cell 0
             have c62 := hx6.cell 2
             have hM6 : M ≤ w6.heap.size := by have := HS6.out.but.size; simp at hsz5; omega
             clear hx6)
          | (at_builtin
             (refine wpList_appx _ rfl (.tmp 70) (.tmp 73) 32 rfl M 5 i0 _ 1 Try.underlying32 hi0 hz0 hz1 hz2 rfl A2 ol c2 (bv O) rfl HK6.out.own2 w6.heap.size A5 m c5 (bv (q.take m)) rfl (by rw [bv_length, HTQ.out]) (((own_slb' HQL.out HW6.out).take m).2.2.2) (bv_one _) (by unfold maxLen; omega) (by omega) hM6 ?_
              intro A8 c8 w8 ho8 hg8 hb8
              rw [← bv_append] at ho8
              have HK8 := hid (HK6.out.grow2 hg8 ho8 hb8 (by rw [List.length_append, HTQ.out, HK.out.l2]))
              have HB8 := hid ((grown_below hg8 HK6.out.own2 hM6).mono hM1)
              have hM8 := Nat.le_trans hM6 hg8.size
              clear ho8 hg8 hb8)))
        go_roundw
        case rel => exact ⟨k + 1, il, ol + m, A1, A8, c1, c8, by omega, by go_num, rfl, by go_num, by omega, hM8, ⟨_, _, _, HK8.out, keeps_eq2 m HIO.out⟩, HB6w.out.trans HB8.out⟩
        case measure => simp [intOf]; omega
      by_cases n5 : kk = 5
      · subst n5
        obtain ⟨m, HMM⟩ : ∃ m, Hid (had kn q.length = m) := ⟨_, hid rfl⟩
        have hmq : m ≤ ql := by rw [← HMM.out, ← HQL.out]; exact had_le _ _
        have HST : Hid (stepF size 5 kn bb q = ([], 0, [])) := by
          show _ = _
          rw [stepF, if_neg (by decide), if_neg (by decide), if_neg (by decide), if_neg (by decide), if_pos rfl]
        have HOL : Hid (([] : List UInt8).length = 0) := rfl
        go_wp2_with (first
          | (go_at_call 14
             ((with_reducible refine (len_n _ ql HQL.out HRo).mono ?_); rintro e w4 ⟨rfl, rfl⟩))
          | (go_at_call 17
             ((with_reducible refine (peek_n _ ql ql HD1.out HT1.out HRo).mono ?_); rintro e w5 ⟨A5, c5, rfl, HO5, HB5⟩)
             have HB5w : Hid (Below w.heap.size w w5) := HBo.out.trans (HB5.out.mono HBo.out.size)
             have HK5 : Hid (KP w5 M g h size A1 c1 il A2 c2 ol I O q) := HKo.out.keep0 (But.of_below HB5.out [])
             have hx5 := box_below HXo.out HB5.out
             have HX5 := hid hx5
             have c50 := hx5.cell 0
             have c51 := hx5.cell 1
             have c52 := hx5.cell 2
             have HR5 : Hid (Rg w5 g h size q) := HK5.out.rg
             have HS5 := slb_at HSL HB5w
             have hsz5 := HB5.out.size
             clear hx5)
          | (go_at_call 11
             ((with_reducible refine (do_q _ 5 kn x HR5 HS5 HAx HX HST HOL).mono ?_); rintro e w6 ⟨A6, c6, rfl, HS6⟩)
             have HB6w : Hid (Below w.heap.size w w6) := HB5w.out.trans (HS6.out.but.below HB5w.out.size (by simp; omega))
             have HK6 : Hid (KP w6 M g h size A1 c1 il A2 c2 ol I O []) := HK5.out.ring HS6.out.rg HS6.out.but
             have HR6 : Hid (Rg w6 g h size []) := HS6.out.rg
             have HW6 : Hid (w6.ownsRow (wr.alloc (.cells #[.int .i64 5, .int .i64 kn, .slice tA x tc] 34)).heap.size 5 1 (.slice A5 ql c5) ql (bv q)) := HS6.out.but.own HO5.out (fun z hz => by have := (HO5.out.lt z hz).1; simp at this; simp; omega)
             have hx6 := HS6.out.but.box HX5.out (by simp; omega)
             have c60 := hx6.cell 0
             have c62 := hx6.cell 2
             have hM6 : M ≤ w6.heap.size := by have := HS6.out.but.size; simp at hsz5; omega
             clear hx6)
          | (at_builtin
             (refine wpList_appx _ rfl (.tmp 77) (.tmp 78) 32 rfl M 5 i0 _ 1 Try.underlying32 hi0 hz0 hz1 hz2 rfl A2 ol c2 (bv O) rfl HK6.out.own2 w6.heap.size A5 ql c5 (bv q) rfl (by rw [bv_length, HQL.out]) (Lies.own HW6.out) (bv_one _) (by unfold maxLen; omega) (by omega) hM6 ?_
              intro A8 c8 w8 ho8 hg8 hb8
              rw [← bv_append] at ho8
              have HK8 := hid (HK6.out.grow2 hg8 ho8 hb8 (by rw [List.length_append, HQL.out, HK.out.l2]))
              have HB8 := hid ((grown_below hg8 HK6.out.own2 hM6).mono hM1)
              have hM8 := Nat.le_trans hM6 hg8.size
              clear ho8 hg8 hb8)))
        go_roundw
        case rel => exact ⟨k + 1, il, ol + ql, A1, A8, c1, c8, by omega, by go_num, rfl, by go_num, by omega, hM8, ⟨_, _, _, HK8.out, by rw [List.append_nil]; exact HIO.out⟩, HB6w.out.trans HB8.out⟩
        case measure => simp [intOf]; omega
      have m1 : (kk == 1) = false := by simpa using n1
      have m2 : (kk == 2) = false := by simpa using n2
      have m3 : (kk == 3) = false := by simpa using n3
      have m4 : (kk == 4) = false := by simpa using n4
      have m5 : (kk == 5) = false := by simpa using n5
      obtain ⟨m, HMM⟩ : ∃ m, Hid (had kn q.length = m) := ⟨_, hid rfl⟩
      have hmq : m ≤ ql := by rw [← HMM.out, ← HQL.out]; exact had_le _ _
      have HST : Hid (stepF size kk kn bb q = ([], 0, q)) := by
        show _ = _
        rw [stepF, if_neg n1, if_neg n2, if_neg n3, if_neg n4, if_neg n5]
      have HOL : Hid (([] : List UInt8).length = 0) := rfl
      go_wp2_with (first
        | (go_at_call 14
           ((with_reducible refine (len_n _ ql HQL.out HRo).mono ?_); rintro e w4 ⟨rfl, rfl⟩))
        | (go_at_call 17
           ((with_reducible refine (peek_n _ ql ql HD1.out HT1.out HRo).mono ?_); rintro e w5 ⟨A5, c5, rfl, HO5, HB5⟩)
           have HB5w : Hid (Below w.heap.size w w5) := HBo.out.trans (HB5.out.mono HBo.out.size)
           have HK5 : Hid (KP w5 M g h size A1 c1 il A2 c2 ol I O q) := HKo.out.keep0 (But.of_below HB5.out [])
           have hx5 := box_below HXo.out HB5.out
           have HX5 := hid hx5
           have c50 := hx5.cell 0
           have c51 := hx5.cell 1
           have c52 := hx5.cell 2
           have HR5 : Hid (Rg w5 g h size q) := HK5.out.rg
           have HS5 := slb_at HSL HB5w
           have hsz5 := HB5.out.size
           clear hx5)
        | (go_at_call 11
           ((with_reducible refine (do_q _ kk kn x HR5 HS5 HAx HX HST HOL).mono ?_); rintro e w6 ⟨A6, c6, rfl, HS6⟩)
           have HB6w : Hid (Below w.heap.size w w6) := HB5w.out.trans (HS6.out.but.below HB5w.out.size (by simp; omega))
           have HK6 : Hid (KP w6 M g h size A1 c1 il A2 c2 ol I O q) := HK5.out.ring HS6.out.rg HS6.out.but
           have HR6 : Hid (Rg w6 g h size q) := HS6.out.rg
           have HW6 : Hid (w6.ownsRow (wr.alloc (.cells #[.int .i64 kk, .int .i64 kn, .slice tA x tc] 34)).heap.size 5 1 (.slice A5 ql c5) ql (bv q)) := HS6.out.but.own HO5.out (fun z hz => by have := (HO5.out.lt z hz).1; simp at this; simp; omega)
           have hx6 := HS6.out.but.box HX5.out (by simp; omega)
           have c60 := hx6.cell 0
           have c62 := hx6.cell 2
           have hM6 : M ≤ w6.heap.size := by have := HS6.out.but.size; simp at hsz5; omega
           clear hx6))
      go_roundw
      case rel => exact ⟨k + 1, il, ol, A1, A2, c1, c2, by omega, by go_num, rfl, rfl, by omega, hM6, ⟨_, _, _, HK6.out, HIO.out⟩, HB6w⟩
      case measure => simp [intOf]; omega
    · have hkn : k = n := by omega
      have c1d : True := trivial
      obtain ⟨ql, HQL⟩ : ∃ x : Nat, Hid (q.length = x) := ⟨_, hid rfl⟩
      have hql : ql ≤ size := by rw [← HQL.out]; exact hqs
      have HD1 : Hid (had (ql : Int) q.length = ql) := by show _ = _; rw [had_nat, HQL.out]; omega
      have HT1 : Hid (q.take ql = q) := by show _ = _; rw [← HQL.out]; exact List.take_length
      have HLOq : Hid ((O ++ q).length = ol + ql) := by show _ = _; rw [List.length_append, HK.out.l2, HQL.out]
      have HLI : Hid (I.length = il) := HK.out.l1
      have HEQ : Hid (decide (I = O ++ q) = true) := by show _ = _; rw [HIO.out]; simp
      have HLO : Hid (O.length = ol) := HK.out.l2
      have hBw := HBr.out.size
      go_wp2_with (first
        | (at_builtin
           (refine wpList_appx _ rfl (.tmp 82) (.tmp 83) 32 rfl wr.heap.size 5 i0 _ 1 Try.underlying32 hi0 hz0 hz1 hz2 rfl (some ⟨wr.heap.size, 0, none⟩) 0 0 [] rfl (lit_own (w := wr) (Nat.le_refl _) rfl) wr.heap.size A2 ol c2 (bv O) rfl (by rw [bv_length, HLO.out]) ((Lies.own HK.out.own2).alloc (Nat.le_refl _) _) (bv_one _) (by unfold maxLen; omega) (by omega) (by simp) ?_
            intro A8 c8 w8 ho8 hg8 hb8
            have HB8 : Hid (Below wr.heap.size wr w8) := lit_grown (w := wr) rfl hg8
            have HO8 : Hid (w8.ownsRow wr.heap.size 5 1 (.slice A8 ol c8) ol (bv O)) := by
              show World.ownsRow _ _ _ _ _ _ _
              simpa using ho8
            have HK8 : Hid (KP w8 M g h size A1 c1 il A2 c2 ol I O q) := HK.out.keep0 (But.of_below HB8.out [])
            have HR8 : Hid (Rg w8 g h size q) := HK8.out.rg
            have hsz8 := HB8.out.size
            clear ho8 hg8 hb8))
        | (go_at_call 14
           ((with_reducible refine (len_n _ ql HQL.out HR8).mono ?_); rintro e w9 ⟨rfl, rfl⟩))
        | (go_at_call 17
           ((with_reducible refine (peek_n _ ql ql HD1.out HT1.out HR8).mono ?_); rintro e w10 ⟨A10, c10, rfl, HO10, HB10⟩)
           have HK10 : Hid (KP w10 M g h size A1 c1 il A2 c2 ol I O q) := HK8.out.keep0 (But.of_below HB10.out [])
           have HO8' := hid (own_keep HO8.out HB10.out)
           have hsz10 := HB10.out.size)
        | (at_builtin
           (refine wpList_appx _ rfl (.tmp 84) (.tmp 88) 32 rfl wr.heap.size 5 i0 _ 1 Try.underlying32 hi0 hz0 hz1 hz2 rfl A8 ol c8 (bv O) rfl HO8'.out w10.heap.size A10 ql c10 (bv q) rfl (by rw [bv_length, HQL.out]) (Lies.own HO10.out) (bv_one _) (by unfold maxLen; omega) (by omega) (by omega) ?_
            intro A11 c11 w11 ho11 hg11 hb11
            rw [← bv_append] at ho11
            have HO11 := hid ho11
            have hb : But [] wr w11 := (But.of_below HB8.out []).same (But.of_below HB10.out [])  |>.grown hg11 (fun x hx => .inr (HO8'.out.lt x hx).1)
            have HK11 : Hid (KP w11 M g h size A1 c1 il A2 c2 ol I O q) := HK.out.keep0 hb
            have HL1 : Hid (Lies w11 w11.heap.size A1 (bv I)) := Lies.own HK11.out.own1
            have HL2 : Hid (Lies w11 w11.heap.size A11 (bv (O ++ q))) := Lies.own HO11.out
            have HB11 : Hid (Below w.heap.size w w11) := HBr.out.trans (hb.below hBw (by simp))
            clear ho11 hg11 hb11 hb))
        | (go_at_call 13
           ((with_reducible refine (bytes_q _ A1 A11 c1 c11 il (ol + ql) I (O ++ q) true HL1 HL2 HLI HLOq (by unfold maxLen; omega) (by unfold maxLen; omega) HEQ).mono ?_); rintro e w12 ⟨d, rfl, rfl⟩)))
      go_ret
      exact ⟨rfl, bel_drewN HB11.out d⟩
end Go.Proofs.Ytidgbojgdllghaa
