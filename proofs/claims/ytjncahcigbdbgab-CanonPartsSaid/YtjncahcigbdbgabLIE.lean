import Derived.Test.YtjncahcigbdbgabLID
namespace Go.Proofs.Ytjncahcigbdbgab
open Go.RowKit

/-! The program's Put and Read. -/
theorem LnN.lnF {w : World} {base n c : Nat} {A : Option Addr} {rs : List Rc} (h : LnN w base 30 A n c rs) : LnF w base A c rs := by
  refine ⟨h.ln, fun hne => ?_, fun r hr hne => ?_⟩
  · obtain ⟨g, cs, h1, h2, h3⟩ := own_addr h.row (by rw [← h.len]; exact List.length_pos_iff.2 hne)
    exact ⟨g, 0, cs, h1, h2, h3⟩
  · obtain ⟨g, cs, h1, h2, h3⟩ := own_addr (h.text r hr) (List.length_pos_iff.2 hne)
    exact ⟨g, 0, cs, h1, h2, h3⟩
theorem lnF_nil (w : World) (base : Nat) : LnF w base none 0 [] := ⟨(LnO.nil w 0 0).ln, fun h => absurd rfl h, fun r hr => by cases hr⟩
theorem lies_rows (W : World) (g2 : Nat) (hg : g2 = W.heap.size) (s1 s2 : Sr) (v1 v2 : Value) (h1 : s1.v = v1) (h2 : s2.v = v2) : Lies (W.alloc (.cells #[v1, v2] 28)) (W.alloc (.cells #[v1, v2] 28)).heap.size (some ⟨g2, 0, none⟩) ([s1, s2].map Sr.v) := by
  subst hg h1 h2
  have h := lies_lit W #[s1.v, s2.v] 28
  have e : (W.alloc (.cells #[s1.v, s2.v] 28)).heap.size = W.heap.size + 1 := by simp
  rw [e]
  exact h
theorem catR_two (s1 s2 : Sr) : catR [s1, s2] = s1.rs ++ s2.rs := by simp [catR]
theorem rows_ln {W : World} {s1 s2 : Sr} (h1 : LnV W W.heap.size s1.A s1.c s1.rs) (h2 : LnV W W.heap.size s2.A s2.c s2.rs) : ∀ s ∈ [s1, s2], LnV W W.heap.size s.A s.c s.rs := by
  intro s hs
  rcases List.mem_cons.1 hs with rfl | hs
  · exact h1
  · obtain rfl := List.mem_singleton.1 hs
    exact h2
theorem ln_litq {W : World} {g q : Nat} {x : Rc} (hq : x.bs.length = q) (hb : Box W g 30 #[.slice x.A q x.c, .bool x.e]) (hx : SlB W W.heap.size x.A x.c x.bs) : LnV W W.heap.size (some ⟨g, 0, none⟩) 1 [x] := by
  subst hq
  exact ln_lit hb hx
theorem concatL_two (u W : World) (hW : Below u.heap.size u W) (A : Option Addr) (c q : Nat) (s1 s2 : Sr) (hl : Hid (Lies W W.heap.size A ([s1, s2].map Sr.v))) (ht : Hid (∀ s ∈ [s1, s2], LnV W W.heap.size s.A s.c s.rs)) (hq : (s1.rs ++ s2.rs).length = q) (hT : q ≤ 1000000) :
    Calls Try.prog 22 #[.slice A 2 c] W fun e w' => ∃ A' c', e = .returned (.slice A' q c') ∧ Hid (LnO w' W.heap.size 30 A' q c' (s1.rs ++ s2.rs)) ∧ Below u.heap.size u w' ∧ Below W.heap.size W w' := by
  refine (concatL_any W A 2 c [s1, s2] hl ht rfl (by decide) (by rw [catR_two, hq]; exact hT)).mono ?_
  rw [catR_two]
  rintro e w' ⟨A', n', c', rfl, h1, h2⟩
  obtain rfl : n' = q := h1.out.len.symm.trans hq
  exact ⟨A', c', rfl, h1, hW.trans (h2.out.mono hW.size), h2.out⟩
theorem copied_grow (u W : World) (hW : Below u.heap.size u W) (A : Option Addr) (n c : Nat) (rs : List Rc) (hl : Hid (LnV W W.heap.size A c rs)) (hn : rs.length = n) (hm : n ≤ 1000) (ht : Hid (∀ r ∈ rs, r.bs.length ≤ 140737488351232)) :
    Calls Try.prog 23 #[.slice A n c] W fun e w' => ∃ A2 c2 qs, e = .returned (.slice A2 n c2) ∧ Hid (lnR qs = lnR rs) ∧ Hid (LnN w' W.heap.size 30 A2 n c2 qs) ∧ Below u.heap.size u w' ∧ Below W.heap.size W w' := by
  refine (copied_any W A n c rs hl hn hm ht).mono ?_
  rintro e w' ⟨A2, c2, qs, rfl, h1, h2, h3⟩
  exact ⟨A2, c2, qs, rfl, h1, h2, hW.trans (h3.out.mono hW.size), h3.out⟩
set_option maxRecDepth 100000 in
set_option maxHeartbeats 4000000 in
theorem putp_any (w : World) (A : Option Addr) (n c : Nat) (rs : List Rc) (x : Rc) (hl : Hid (LnV w w.heap.size A c rs)) (hx : Hid (SlB w w.heap.size x.A x.c x.bs)) (hn : rs.length = n) (hm : n ≤ 900) (ht : Hid (∀ r ∈ rs, r.bs.length ≤ 140737488351232)) (hxt : Hid (x.bs.length ≤ 140737488351232)) :
    Calls Try.prog 10 #[.slice A n c, .agg #[.slice x.A x.bs.length x.c, .bool x.e]] w (RetLF w (putL (lnR rs) x.ln)) := by
  have htj : Hid (∀ r ∈ rs ++ [x], r.bs.length ≤ 140737488351232) := hid (fun r hr => by
    rcases List.mem_append.1 hr with h | h
    · exact ht.out r h
    · rw [List.mem_singleton.1 h]; exact hxt.out)
  have hlen : (rs ++ [x]).length = n + 1 := by rw [List.length_append, hn]; rfl
  have hm1 : n + 1 ≤ 1000 := by omega
  have hm2 : n ≤ 1000 := by omega
  have hm3 : n + 1 ≤ 1000000 := by omega
  obtain ⟨y, hy⟩ : ∃ y, Hid (x.bs.length = y) := ⟨_, hid rfl⟩
  obtain ⟨U, hU⟩ : ∃ U, Hid (usedL (lnR (rs ++ [x])) = U) := ⟨_, hid rfl⟩
  have hU2 : usedL (lnR rs) + usedL [x.ln] = U := by rw [← hU.out, lnR_append, usedL_append]; rfl
  have K1 : Hid (Below w.heap.size w (w.alloc (.cells #[.slice x.A y x.c, .bool x.e] 30))) := hid ((Below.refl _ w).alloc (Nat.le_refl _) _)
  have K3 : Hid (Below w.heap.size w (((w.alloc (.cells #[.slice x.A y x.c, .bool x.e] 30)).alloc (.cells #[.slice x.A y x.c, .bool x.e] 30)).alloc (.cells #[.slice A n c, .slice (some ⟨w.heap.size + 1, 0, none⟩) 1 1] 28))) := hid ((K1.out.alloc K1.out.size _).alloc (by simp; omega) _)
  have HLi : Hid (Lies (((w.alloc (.cells #[.slice x.A y x.c, .bool x.e] 30)).alloc (.cells #[.slice x.A y x.c, .bool x.e] 30)).alloc (.cells #[.slice A n c, .slice (some ⟨w.heap.size + 1, 0, none⟩) 1 1] 28)) (((w.alloc (.cells #[.slice x.A y x.c, .bool x.e] 30)).alloc (.cells #[.slice x.A y x.c, .bool x.e] 30)).alloc (.cells #[.slice A n c, .slice (some ⟨w.heap.size + 1, 0, none⟩) 1 1] 28)).heap.size (some ⟨w.heap.size + 2, 0, none⟩) ([(⟨A, c, rs⟩ : Sr), ⟨some ⟨w.heap.size + 1, 0, none⟩, 1, [x]⟩].map Sr.v)) :=
    hid (lies_rows _ _ (by simp) ⟨A, c, rs⟩ ⟨some ⟨w.heap.size + 1, 0, none⟩, 1, [x]⟩ _ _ (by unfold Sr.v; rw [hn]) rfl)
  have HB1 : Box (((w.alloc (.cells #[.slice x.A y x.c, .bool x.e] 30)).alloc (.cells #[.slice x.A y x.c, .bool x.e] 30)).alloc (.cells #[.slice A n c, .slice (some ⟨w.heap.size + 1, 0, none⟩) 1 1] 28)) (w.heap.size + 1) 30 #[.slice x.A y x.c, .bool x.e] := box_al (box_nw (by simp))
  have HLn := hid (rows_ln (s1 := ⟨A, c, rs⟩) (s2 := ⟨some ⟨w.heap.size + 1, 0, none⟩, 1, [x]⟩) (ln_up hl K3.out).out (ln_litq hy.out HB1 (slb_up hx K3.out).out))
  have HB := hid HB1
  rw [hy.out]
  clear HB1
  by_cases hu : U ≤ 1024
  · have hp : Hid (putL (lnR rs) x.ln = (lnR (rs ++ [x]), true)) := hid (by unfold putL; rw [hU2, if_pos hu, lnR_append]; rfl)
    have hui : ¬ (1024 : Int) < (U : Int) := by omega
    clear hU2 hu
    go_enter Try.func10, Try.ntmps10
    go_wp2_with (first
      | (refine bx30 (by rfl) _ (by rfl) _ _ (by rfl) ?_
         intro G0
         have d0 := G0.out.cell 0
         have d1 := G0.out.cell 1)
      | (go_at_call 22
         (with_reducible refine (concatL_two w _ K3.out _ _ (n + 1) ⟨A, c, rs⟩ ⟨some ⟨w.heap.size + 1, 0, none⟩, 1, [x]⟩ HLi HLn hlen hm3).mono ?_)
         rintro e u1 ⟨A1, c1, rfl, N1, k1, _⟩
         have l1 := hid N1.out.ln)
      | (go_at_call 18
         (with_reducible refine (usedp_any _ A1 (n + 1) c1 (rs ++ [x]) l1 hlen hm1 htj).mono ?_)
         rw [hU.out]
         rintro e u2 ⟨rfl, k2⟩
         have l2 := ln_up l1 k2.out)
      | (go_at_call 23
         (with_reducible refine (copied_any _ A1 (n + 1) c1 (rs ++ [x]) l2 hlen hm1 htj).mono ?_)
         rintro e u3 ⟨A3, c3, q3, rfl, hq3, N3, k3⟩))
    go_ret2
    have b2 : Below w.heap.size w u2 := k1.trans (k2.out.mono k1.size)
    rw [hp.out]
    exact ⟨A3, n + 1, c3, q3, rfl, hq3, hid N3.out.len, hid (N3.out.mono b2.size).lnF, hid (b2.trans (k3.out.mono b2.size))⟩
  · have hp : Hid (putL (lnR rs) x.ln = (lnR rs, false)) := hid (by unfold putL; rw [hU2, if_neg hu])
    have hui : (1024 : Int) < (U : Int) := by omega
    clear hU2 hu
    go_enter Try.func10, Try.ntmps10
    go_wp2_with (first
      | (refine bx30 (by rfl) _ (by rfl) _ _ (by rfl) ?_
         intro G0
         have d0 := G0.out.cell 0
         have d1 := G0.out.cell 1)
      | (go_at_call 22
         (with_reducible refine (concatL_two w _ K3.out _ _ (n + 1) ⟨A, c, rs⟩ ⟨some ⟨w.heap.size + 1, 0, none⟩, 1, [x]⟩ HLi HLn hlen hm3).mono ?_)
         rintro e u1 ⟨A1, c1, rfl, N1, k1, _⟩
         have l1 := hid N1.out.ln)
      | (go_at_call 18
         (with_reducible refine (usedp_any _ A1 (n + 1) c1 (rs ++ [x]) l1 hlen hm1 htj).mono ?_)
         rw [hU.out]
         rintro e u2 ⟨rfl, k2⟩
         have b2 : Below w.heap.size w u2 := k1.trans (k2.out.mono k1.size)
         have l2 := ln_up hl b2)
      | (go_at_call 23
         (with_reducible refine (copied_any _ A n c rs l2 hn hm2 ht).mono ?_)
         rintro e u3 ⟨A3, c3, q3, rfl, hq3, N3, k3⟩))
    go_ret2
    rw [hp.out]
    exact ⟨A3, n, c3, q3, rfl, hq3, hid N3.out.len, hid (N3.out.mono b2.size).lnF, hid (b2.trans (k3.out.mono b2.size))⟩
end Go.Proofs.Ytjncahcigbdbgab
