import Derived.Test.YtjncahcigbdbgabLK
namespace Go.Proofs.Ytjncahcigbdbgab
open Go.RowKit

/-! Layer 13: CanonParts, the walk. -/
theorem wpList_app_g {P : Program} (w : World) {ops : Array Oper} {rest : List Oper} {o : Oper} {a : Act} {Q : Exit → Act → World → Prop} (hw : Region.wanted o (yielded ops a.tmps) = true) (s x : Operand) (t : TypeId)
    (ho : o.op = .call { callee := .builtin .append, args := #[s, x], argTypes := #[t, t] })
    (base : Nat) (e : TypeId) (i : TypeInfo) (z : Value) (size bytes : Nat) (ht : P.underlying t = some (.slice e)) (hi : P.info? e = some i) (hz : i.zero = some z)
    (hsize : i.size = size) (hby : i.bytes = bytes) (hzs : z.cells.size = size) (hsz : 0 < size)
    (A : Option Addr) (n c : Nat) (xs : List Value) (hs : a.eval s = .slice A n c) (hown : w.ownsRow base e size (.slice A n c) n xs)
    (B : Nat) (A2 : Option Addr) (m c2 : Nat) (news : List Value) (hx : a.eval x = .slice A2 m c2) (hl : news.length = m * size) (hr : Lies w B A2 news) (h1 : ∀ u ∈ news, u.oneCell' = true)
    (h63 : n + m ≤ maxLen) (hbytes : (n + m) * bytes ≤ 140737488355328) (hbase : base ≤ w.heap.size)
    (h : ∀ A' c' w', w'.ownsRow base e size (.slice A' (n + m) c') (n + m) (xs ++ news) → w.grownBy w' (Value.slice A n c).ownBlock → wpList P ops Q rest (a.put o.dst (.slice A' (n + m) c')) w') : wpList P ops Q (o :: rest) a w :=
  BigFrame.wpList_want hw fun _ hK => wp_app w s x t ho base e i z size bytes ht hi hz hsize hby hzs hsz A n c xs hs hown B A2 m c2 news hx hl hr h1 h63 hbytes hbase fun A' c' w' h2 h3 => hK _ _ (h A' c' w' h2 h3)
theorem app_own_g {ops : Array Oper} {rest : List Oper} {o : Oper} {a : Act} {Q : Exit → Act → World → Prop} (w : World) (hgd : Region.wanted o (yielded ops a.tmps) = true) (s x : Operand) (ho : o.op = .call { callee := .builtin .append, args := #[s, x], argTypes := #[23, 23] })
    (base n c : Nat) (A : Option Addr) (xs : List UInt8) (hs : a.eval s = .slice A n c) (hown : Hid (w.ownsRow base 5 1 (.slice A n c) n (bv xs))) (hb : base ≤ w.heap.size) (A2 : Option Addr) (m c2 : Nat) (ys : List UInt8)
    (hx : a.eval x = .slice A2 m c2) (hS : Hid (SlB w w.heap.size A2 c2 ys)) (hy : ys.length = m) (hm : n + m ≤ 140737488355328)
    (h : ∀ A' c' w', Hid (w'.ownsRow base 5 1 (.slice A' (n + m) c') (n + m) (bv (xs ++ ys))) → Hid (Kept base [5] w w') → wpList Try.prog ops Q rest (a.put o.dst (.slice A' (n + m) c')) w') : wpList Try.prog ops Q (o :: rest) a w := by
  subst hy
  obtain ⟨i5, hi5, hz5, hz51, hz52⟩ := info_parts Try.info5
  refine wpList_app_g _ hgd s x 23 ho base 5 i5 _ 1 1 Try.underlying23 hi5 hz5 hz51 hz52 rfl (by decide) A n c (bv xs) hs hown.out w.heap.size A2 ys.length c2 (bv ys) hx (by rw [bv_length, Nat.mul_one]) hS.out.2.2.2 (bv_one _) (by unfold maxLen; omega) (by omega) hb ?_
  intro A3 c3 u2 ho2 hg2
  rw [← bv_append] at ho2
  have hk : Kept base [5] w u2 := (Kept.refl base [5] w).grown hg2 (fun k hk => by obtain ⟨a, cs, b⟩ := own_box hown.out k hk; exact ⟨a, 5, cs, by simp, b⟩)
  exact h A3 c3 u2 (hid ho2) (hid hk)
theorem app_copyo_g {ops : Array Oper} {rest : List Oper} {o : Oper} {a : Act} {Q : Exit → Act → World → Prop} (w : World) (hgd : Region.wanted o (yielded ops a.tmps) = true) (s x : Operand) (ho : o.op = .call { callee := .builtin .append, args := #[s, x], argTypes := #[23, 23] })
    (hs : a.eval s = .slice (some ⟨w.heap.size, 0, none⟩) 0 0) (A : Option Addr) (n c : Nat) (bs : List UInt8) (hx : a.eval x = .slice A n c) (hS : Hid (SlB w w.heap.size A c bs)) (hn : bs.length = n) (hm : n ≤ 140737488355328)
    (h : ∀ A2 c2 u2, Hid (Below w.heap.size w u2) → Hid (u2.ownsRow w.heap.size 5 1 (.slice A2 n c2) n (bv bs)) → wpList Try.prog ops Q rest (a.put o.dst (.slice A2 n c2)) u2) : wpList Try.prog ops Q (o :: rest) a (w.alloc (.cells #[] 5)) := by
  subst hn
  obtain ⟨i5, hi5, hz5, hz51, hz52⟩ := info_parts Try.info5
  refine wpList_app_g _ hgd s x 23 ho w.heap.size 5 i5 _ 1 1 Try.underlying23 hi5 hz5 hz51 hz52 rfl (by decide) _ 0 0 [] hs (lit_own (Nat.le_refl _) rfl) w.heap.size A bs.length c (bv bs) hx (by rw [bv_length, Nat.mul_one]) (hS.out.2.2.2.alloc (Nat.le_refl _) _) (bv_one _) (by unfold maxLen; omega) (by omega) (by simp) ?_
  intro A2 c2 u2 ho2 hg2
  simp only [Nat.zero_add, List.nil_append] at ho2 ⊢
  exact h A2 c2 u2 (hid (lit_grown rfl hg2)) (hid ho2)
set_option maxRecDepth 100000 in
set_option maxHeartbeats 4000000 in
theorem parts_walk (w : World) (A : Option Addr) (n c : Nat) (rs : List Rc) (i j : Nat) (hi : i < 256) (hj : j < 256) (hl : Hid (LnV w w.heap.size A c rs)) (hn : Hid (rs.length = n)) (hm : n ≤ 100000000000000) (ht : Hid (∀ r ∈ rs, r.bs.length ≤ 140737488351232)) :
    Calls Try.prog 5 #[.slice A n c, .int .u8 i, .int .u8 j] w fun e w' => e = .returned (.bool true) ∧ Hid (Below w.heap.size w w') := by
  go_enter Try.func5, Try.ntmps5
  go_wp2_with (first
    | (go_at_call 7
       (with_reducible refine (alive_any w).mono ?_)
       rintro e u1 ⟨rfl, k1⟩
       have hl1 := ln_up hl k1.out))
  by_cases hg : greatL (lnR rs) = true
  · go_wp2_with (first
      | (go_at_call 8
         (with_reducible refine (great_any u1 A n c rs hl1 hn.out hm).mono ?_)
         rw [hg]
         rintro e u2 ⟨rfl, k2⟩
         have K2 := bel_t k1 k2.out))
    go_ret
    exact ⟨rfl, K2⟩
  have hg : greatL (lnR rs) = false := by simpa using hg
  obtain ⟨hg1, hg2⟩ := great_no hg
  rw [lnR_len, hn.out] at hg1
  by_cases h0 : n = 0
  · subst h0
    go_wp2_with (first
      | (go_at_call 8
         (with_reducible refine (great_any u1 A 0 c rs hl1 hn.out hm).mono ?_)
         rw [hg]
         rintro e u2 ⟨rfl, k2⟩
         have K2 := bel_t k1 k2.out))
    go_ret
    exact ⟨rfl, K2⟩
  by_cases hi0 : i = 0
  · subst hi0
    go_wp2_with (first
      | (go_at_call 8
         (with_reducible refine (great_any u1 A n c rs hl1 hn.out hm).mono ?_)
         rw [hg]
         rintro e u2 ⟨rfl, k2⟩
         have K2 := bel_t k1 k2.out))
    go_ret
    exact ⟨rfl, K2⟩
  by_cases hj0 : j = 0
  · subst hj0
    go_wp2_with (first
      | (go_at_call 8
         (with_reducible refine (great_any u1 A n c rs hl1 hn.out hm).mono ?_)
         rw [hg]
         rintro e u2 ⟨rfl, k2⟩
         have K2 := bel_t k1 k2.out))
    go_ret
    exact ⟨rfl, K2⟩
  have q0 : ((n : Int) == 0) = false := by simp; omega
  have qi : ((i : Int) == 0) = false := by simp; omega
  have qj : ((j : Int) == 0) = false := by simp; omega
  have hn1000 : n ≤ 1000 := by omega
  obtain ⟨r0, rt, hrs⟩ : ∃ r0 rt, rs = r0 :: rt := by
    cases rs with
    | nil => have := hn.out; simp at this; omega
    | cons a b => exact ⟨a, b, rfl⟩
  obtain ⟨b0, o0, hA⟩ : ∃ b o, A = some ⟨b, o, none⟩ := by
    obtain ⟨b, o, r, h, _⟩ := hl.out.at (k := 0) (by rw [hn.out]; omega)
    exact ⟨b, o, h⟩
  subst hA
  have hat : ∀ {u : World}, Hid (LnV u u.heap.size (some ⟨b0, o0, none⟩) c rs) → u.cell? ⟨b0, o0, none⟩ = some (.slice r0.A r0.bs.length r0.c) := by
    intro u h
    obtain ⟨b, o, r, h1, h2, h3, _⟩ := h.out.at (k := 0) (by rw [hn.out]; omega)
    cases h1
    rw [hrs] at h2
    cases h2
    simpa using h3
  have hread0 : Hid (readL (lnR rs) 0 = ([], lnR rs, true)) := hid (by rw [hrs]; rfl)
  go_wp2_with (first
      | (go_at_call 8
         (with_reducible refine (great_any u1 _ n c rs hl1 hn.out hm).mono ?_)
         rw [hg]
         rintro e u2 ⟨rfl, k2⟩
         have K2 := bel_t k1 k2.out
         have hl2 := ln_up hl1 k2.out
         clear k2)
      | (go_at_call 9
         (with_reducible refine (to_any u2 _ n c rs hl2 hn.out hn1000 ht).mono ?_)
         rintro e u3 ⟨A3, c3, q3, rfl, hq3, N3, k3⟩
         have K3 := bel_t K2 k3.out
         have hl3 := ln_up hl2 k3.out
         have hN3 := hid N3.out.ln
         have hr3 : Hid (readL (lnR q3) 0 = ([], lnR rs, true)) := hid (by rw [hq3.out]; exact hread0.out)
         have ht3 : Hid (∀ r ∈ q3, r.bs.length ≤ 140737488351232) := hid (ln_each hq3.out (fun y hy => by
           obtain ⟨r, hr, rfl⟩ := List.mem_map.1 hy
           exact ht.out r hr))
         clear k3)
      | (go_at_call 13
         (with_reducible refine (retrf_eq hr3 (readp_any u3 A3 n c3 q3 0 hN3 N3.out.len hn1000 ht3)).mono ?_)
         rintro e u4 ⟨B4, nb4, cb4, A4, n4, c4, q4, rfl, hb4, S4, _, hq4, hn4, F4, k4⟩
         obtain rfl : nb4 = 0 := hb4.out.symm
         have K4 := bel_t K3 k4.out
         have hl4 := ln_up hl3 k4.out
         have F4l := LnF.ln_ F4
         have hq4 : Hid (lnR q4 = lnR rs) := hq4
         have hn4b : n4 ≤ 1000 := by have h := congrArg List.length hq4.out; rw [lnR_len, lnR_len, hn.out, hn4.out] at h; omega
         clear k4 F4 hb4 S4 hr3 ht3 N3 hN3)
      | (go_at_call 16
         (with_reducible refine (from_any u4 A4 n4 c4 q4 F4l hn4.out hn4b).mono ?_)
         rintro e u5 ⟨A5, c5, rfl, O5, k5⟩
         have K5 := bel_t K4 k5.out
         have hl5 := ln_up hl4 k5.out
         have L5 := from_ln F4l hn4 O5 k5
         clear k5 O5 F4l)
      | (go_at_call 12
         (with_reducible refine (ref_any u5 _ n c rs hl5 hn.out hn1000).mono ?_)
         rintro e u6 ⟨A6, c6, rfl, O6, k6⟩
         have K6 := bel_t K5 k6.out
         have hl6 := ln_up hl5 k6.out
         have L56 := ln_up L5 k6.out
         have L6 := from_ln hl5 hn O6 k6
         clear k6 O6 L5)
      | (go_at_call 15
         (with_reducible refine (same_eq u6 A5 A6 n4 n c5 c6 q4 rs L56 L6 hq4 hn4.out hn.out).mono ?_)
         rintro e u7 ⟨rfl, k7⟩
         have K7 := bel_t K6 k7.out
         have hl7 := ln_up hl6 k7.out
         have C7 := hat hl7
         clear k7 L56 L6 hq4))
  · go_ret
    exact ⟨rfl, K7⟩
  have hlt : i < r0.bs.length := by omega
  have hLs : lnR rs = (r0.bs, r0.e) :: lnR rt := by rw [hrs]; rfl
  obtain ⟨e1, bb, more, e2, e3, hbl, _, hml⟩ := read_two (t := r0.bs) (e := r0.e) (r := lnR rt) (n := i) (m := j) (by omega) (by omega) hlt
  rw [← hLs] at e1 e3
  have hmm : Hid (more.length ≤ 1000) := hid (by
    have h1 : (lnR rs).length = n := by rw [lnR_len, hn.out]
    rw [hLs, List.length_cons] at h1
    omega)
  have htl : Hid (r0.bs.length ≤ 140737488351232) := hid (ht.out r0 (by rw [hrs]; exact List.mem_cons_self ..))
  have htk : Hid ((r0.bs.take i).length = i) := hid (by rw [List.length_take]; omega)
  have htr : Hid (∀ y ∈ lnR rs, y.1.length ≤ 140737488351232) := hid (fun y hy => by
    obtain ⟨r, hr, rfl⟩ := List.mem_map.1 hy
    exact ht.out r hr)
  have htd : Hid (∀ y ∈ (r0.bs.drop i, r0.e) :: lnR rt, y.1.length ≤ 140737488351232) := hid (fun y hy => by
    rcases List.mem_cons.1 hy with rfl | h
    · have h := htl.out
      show (r0.bs.drop i).length ≤ _
      rw [List.length_drop]
      omega
    · exact htr.out y (by rw [hLs]; exact List.mem_cons_of_mem _ h))
  have e1 := hid e1
  have e2 := hid e2
  have e3 := hid e3
  have hbl := hid hbl
  have hrl : Hid (((r0.bs.drop i, r0.e) :: lnR rt).length = n) := hid (by
    have h1 : (lnR rs).length = n := by rw [lnR_len, hn.out]
    rw [hLs, List.length_cons] at h1
    rw [List.length_cons]
    omega)
  have hLs := hid hLs
  have hrs := hid hrs
  clear hml C7 hat hread0
  go_wp2_with (first
      | (go_at_call 9
         (with_reducible refine (to_any u7 _ n c rs hl7 hn.out hn1000 ht).mono ?_)
         rintro e u8 ⟨A8, c8, q8, rfl, hq8, N8, k8⟩
         have K8 := bel_t K7 k8.out
         have hl8 := ln_up hl7 k8.out
         have N8l := hid N8.out.ln
         have N8n := hid N8.out.len
         have ht8 : Hid (∀ r ∈ q8, r.bs.length ≤ 140737488351232) := hid (ln_each hq8.out htr.out)
         have e8 : Hid (readL (lnR q8) (i : Int) = (r0.bs.take i, (r0.bs.drop i, r0.e) :: lnR rt, true)) := hid (by rw [hq8.out]; exact e1.out)
         clear k8 N8)
      | (go_at_call 13
         (with_reducible refine (retrf_eq e8 (readp_any u8 A8 n c8 q8 (i : Int) N8l N8n.out hn1000 ht8)).mono ?_)
         rintro e u9 ⟨B9, nb9, cb9, A9, n9, c9, q9, rfl, hb9, S9, _, hq9, hn9, F9, k9⟩
         have K9 := bel_t K8 k9.out
         have hl9 := ln_up hl8 k9.out
         have F9l := LnF.ln_ F9
         have hq9 : Hid (lnR q9 = (r0.bs.drop i, r0.e) :: lnR rt) := hq9
         have hb9 : Hid ((r0.bs.take i).length = nb9) := hb9
         have S9 : Hid (SlB u9 u9.heap.size B9 cb9 (r0.bs.take i)) := S9
         have hn9b : n9 ≤ 1000 := by have h := congrArg List.length hq9.out; rw [lnR_len, hn9.out, hrl.out] at h; omega
         have ht9 : Hid (∀ r ∈ q9, r.bs.length ≤ 140737488351232) := hid (ln_each hq9.out htd.out)
         have e9 : Hid (readL (lnR q9) (j : Int) = (bb, more, true)) := hid (by rw [hq9.out]; exact e2.out)
         clear k9 F9 e8 ht8 N8l N8n hq8)
      | (go_at_call 13
         (with_reducible refine (retrf_eq e9 (readp_any u9 A9 n9 c9 q9 (j : Int) F9l hn9.out hn9b ht9)).mono ?_)
         rintro e u10 ⟨B10, nb10, cb10, A10, n10, c10, q10, rfl, hb10, S10, _, hq10, hn10, F10, k10⟩
         have K10 := bel_t K9 k10.out
         have hl10 := ln_up hl9 k10.out
         have S9 := slb_up S9 k10.out
         have F10l := LnF.ln_ F10
         have hq10 : Hid (lnR q10 = more) := hq10
         have hb10 : Hid (bb.length = nb10) := hb10
         have S10 : Hid (SlB u10 u10.heap.size B10 cb10 bb) := S10
         clear k10 F10 e9 ht9 F9l hq9)
      | (go_at_call 9
         (with_reducible refine (to_any u10 _ n c rs hl10 hn.out hn1000 ht).mono ?_)
         rintro e u11 ⟨A11, c11, q11, rfl, hq11, N11, k11⟩
         have K11 := bel_t K10 k11.out
         have S9 := slb_up S9 k11.out
         have S10 := slb_up S10 k11.out
         have F10l := ln_up F10l k11.out
         have N11l := hid N11.out.ln
         have N11n := hid N11.out.len
         have ht11 : Hid (∀ r ∈ q11, r.bs.length ≤ 140737488351232) := hid (ln_each hq11.out htr.out)
         have e11 : Hid (readL (lnR q11) ((i : Int) + (j : Int)) = (r0.bs.take i ++ bb, more, true)) := hid (by rw [hq11.out]; exact e3.out)
         clear k11 N11)
      | (go_at_call 13
         (with_reducible refine (retrf_eq e11 (readp_any u11 A11 n c11 q11 ((i : Int) + (j : Int)) N11l N11n.out hn1000 ht11)).mono ?_)
         rintro e u12 ⟨B12, nb12, cb12, A12, n12, c12, q12, rfl, hb12, S12, _, hq12, hn12, F12, k12⟩
         have K12 := bel_t K11 k12.out
         have S9 := slb_up S9 k12.out
         have S10 := slb_up S10 k12.out
         have F10l := ln_up F10l k12.out
         have F12l := LnF.ln_ F12
         have hq12 : Hid (lnR q12 = more) := hq12
         have hb12 : Hid ((r0.bs.take i ++ bb).length = nb12) := hb12
         have S12 : Hid (SlB u12 u12.heap.size B12 cb12 (r0.bs.take i ++ bb)) := S12
         have hnb9 : nb9 ≤ 255 := by have := hb9.out; have := htk.out; omega
         have hnb10 : nb10 ≤ 140737488351232 := by have := hb10.out; have := hbl.out; have := htl.out; omega
         have hnb12 : nb12 = nb9 + nb10 := by have := hb12.out; rw [List.length_append, hb9.out, hb10.out] at this; exact this.symm
         subst hnb12
         have hl10b : n10 ≤ 1000 := by have h := congrArg List.length hq10.out; rw [lnR_len, hn10.out] at h; have := hmm.out; omega
         have hl12b : n12 ≤ 1000 := by have h := congrArg List.length hq12.out; rw [lnR_len, hn12.out] at h; have := hmm.out; omega
         have q1012 : Hid (lnR q10 = lnR q12) := hid (hq10.out.trans hq12.out.symm)
         clear k12 F12 e11 ht11 N11l N11n hq11)
      | (at_builtin
         (first
           | (refine app_copyo_g u12 (by rfl) (.tmp 104) (.tmp 105) rfl rfl B9 nb9 cb9 (r0.bs.take i) rfl S9 hb9.out (by omega) ?_
              intro A13 c13 u13 k13 o13
              have S10 := slb_at S10 k13
              have hz13 := k13.out.size)
           | (refine app_own_g u13 (by rfl) (.tmp 106) (.tmp 107) rfl u12.heap.size nb9 c13 A13 (r0.bs.take i) rfl o13 hz13 B10 nb10 cb10 bb rfl S10 hb10.out (by omega) ?_
              intro A14 c14 u14 o14 k14
              have b14 : Below u12.heap.size u12 u14 := k13.out.trans (k14.out.below hz13)
              have S14 := slb_own hb12 o14
              have K14 := bel_t K12 b14
              have S12 := slb_up S12 b14
              have F10l := ln_up F10l b14
              have F12l := ln_up F12l b14)))
      | (go_at_call 17
         (with_reducible refine (bytes_eq u14 B12 A14 cb12 c14 (nb9 + nb10) (r0.bs.take i ++ bb) hb12.out S12 S14 (by unfold maxLen; omega)).mono ?_)
         rintro e u15 ⟨rfl, k15⟩
         have K15 := bel_t K14 k15.out
         have F10l := ln_up F10l k15.out
         have F12l := ln_up F12l k15.out)
      | (go_at_call 16
         (first
           | ((with_reducible refine (from_any u15 A10 n10 c10 q10 F10l hn10.out hl10b).mono ?_)
              rintro e u16 ⟨A16, c16, rfl, O16, k16⟩
              have K16 := bel_t K15 k16.out
              have L16 := from_ln F10l hn10 O16 k16
              have F12l := ln_up F12l k16.out
              clear F10l)
           | ((with_reducible refine (from_any u16 A12 n12 c12 q12 F12l hn12.out hl12b).mono ?_)
              rintro e u17 ⟨A17, c17, rfl, O17, k17⟩
              have K17 := bel_t K16 k17.out
              have L17 := from_ln F12l hn12 O17 k17
              have L167 := ln_up L16 k17.out)))
      | (go_at_call 15
         (with_reducible refine (same_eq u17 A16 A17 n10 n12 c16 c17 q10 q12 L167 L17 q1012 hn10.out hn12.out).mono ?_)
         rintro e u18 ⟨rfl, k18⟩
         have K18 := bel_t K17 k18.out))
  go_ret
  exact ⟨rfl, K18⟩
end Go.Proofs.Ytjncahcigbdbgab
