import Derived.Test.YtggcampdkgfmgaaGreatJI
namespace Go.Proofs.YtggcampdkgfmgaaGreat.L13
open Go.RowKit

/-! Layer 13, once more: a read's bytes and what it leaves are apart. -/
/-- As RetRF; the bytes lie below a block from which on what is left lies. -/
def RetRG (w : World) (p : List UInt8 × List (List UInt8 × Bool) × Bool) (e : Ending) (w' : World) : Prop := ∃ Ab nb cb A m c qs B, e = .returned (.tuple #[.slice Ab nb cb, .slice A m c, .bool p.2.2]) ∧ Hid (p.1.length = nb) ∧ Hid (SlB w' w'.heap.size Ab cb p.1) ∧ Hid (p.1 ≠ [] → ∀ a, Ab = some a → w.heap.size ≤ a.block ∧ a.block < B) ∧ Hid (lnR qs = p.2.1) ∧ Hid (qs.length = m) ∧ Hid (LnF w' B A c qs) ∧ Hid (w.heap.size ≤ B) ∧ Hid (Below w.heap.size w w')
theorem own_low {w : World} {base n c : Nat} {A : Option Addr} {bs : List UInt8} {ne : Prop} (h : w.ownsRow base 5 1 (.slice A n c) n (bv bs)) {B : Nat} (hB : w.heap.size ≤ B) {b0 : Nat} (hb : b0 ≤ base) : ne → ∀ a, A = some a → b0 ≤ a.block ∧ a.block < B := fun _ a ha => by
  subst ha
  have h1 := h.lt a.block rfl
  omega
set_option maxRecDepth 100000 in
set_option maxHeartbeats 4000000 in
theorem readg_any (w : World) (A : Option Addr) (n c : Nat) (rs : List Rc) (k : Int) (hl : Hid (LnV w w.heap.size A c rs)) (hn : rs.length = n) (hm : n ≤ 4000) (ht : Hid (∀ r ∈ rs, r.bs.length ≤ 140737488351232)) :
    Calls Tryz.prog 106 #[.slice A n c, .int .i64 k] w (RetRG w (readL (lnR rs) k)) := by
  cases rs with
  | nil =>
    obtain rfl : n = 0 := hn.symm
    go_enter Tryz.func106, Tryz.ntmps106
    go_wp2
    go_ret3
    exact ⟨none, 0, 0, none, 0, 0, [], w.heap.size, rfl, hid rfl, hid (slb_nil _), hid (fun h => absurd rfl h), hid rfl, hid rfl, hid (lnF_nil _ _), hid (Nat.le_refl _), hid (Below.refl _ _)⟩
  | cons r0 rt =>
    have hpos : 0 < n := by rw [← hn]; simp
    have hposi : ((n : Int) == 0) = false := beq_eq_false_iff_ne.2 (by omega)
    by_cases hk : k ≤ 0
    · have hp : Hid (readL (lnR (r0 :: rt)) k = ([], lnR (r0 :: rt), true)) := hid (by show (if k ≤ 0 then _ else _) = _; rw [if_pos hk]; rfl)
      go_enter Tryz.func106, Tryz.ntmps106
      go_wp2_with (first
        | (go_at_call 138
           (with_reducible refine (copied_any _ A n c (r0 :: rt) hl hn hm ht).mono ?_)
           rintro e u1 ⟨A1, c1, q1, rfl, hq1, N1, k1⟩))
      go_ret3
      rw [hp.out]
      exact ⟨none, 0, 0, A1, n, c1, q1, w.heap.size, rfl, hid rfl, hid (slb_nil _), hid (fun h => absurd rfl h), hq1, hid N1.out.len, hid N1.out.lnF, hid (Nat.le_refl _), k1⟩
    · have hk1 : ¬ k ≤ 0 := hk
      obtain ⟨m, rfl⟩ : ∃ m : Nat, k = m := ⟨k.toNat, by omega⟩
      obtain ⟨x, hx⟩ : ∃ x, Hid (r0.bs.length = x) := ⟨_, hid rfl⟩
      have hx5 : x ≤ 140737488351232 := by rw [← hx.out]; exact ht.out r0 List.mem_cons_self
      have htt : Hid (∀ r ∈ rt, r.bs.length ≤ 140737488351232) := hid (fun r hr => ht.out r (List.mem_cons_of_mem _ hr))
      have hrt : rt.length = n - 1 := by simp at hn; omega
      have hm1 : n - 1 ≤ 4000 := by omega
      obtain ⟨b, o, r, hA, hr, d0, d1, hS⟩ := hl.out.at (k := 0) (by simp)
      obtain rfl : r0 = r := by simpa using hr
      rw [hx.out] at d0
      subst hA
      have S0 := hid hS
      have hcc := hl.out.len
      simp only [List.length_cons] at hcc
      obtain ⟨A7, c7, rt1, HT⟩ : ∃ A7 c7, (∀ W : World, (Instr.sliceAt 41 (.slice (some ⟨b, o, none⟩) n c) (some (.int .i64 1)) none none).run Tryz.prog W = .ok (.slice A7 (n - 1) c7) W) ∧ Hid (LnV w w.heap.size A7 c7 rt) := ⟨_, _, run_tailp ⟨b, o, none⟩ n c hpos (by omega), hid hl.out.tail⟩
      simp only [Nat.zero_mul, Nat.add_zero] at d0 d1
      clear hr hS hcc
      by_cases hxm : x ≤ m
      · have hp : Hid (readL (lnR (r0 :: rt)) (m : Int) = (r0.bs, lnR rt, true)) := hid (by show (if (m : Int) ≤ 0 then _ else if (r0.bs.length : Int) ≤ (m : Int) then _ else _) = _; rw [if_neg hk, hx.out, if_pos (by omega)]; rfl)
        have hmin : ((m : Int) ≤ (x : Int) ∧ (m : Int) = (x : Int)) ∨ (¬ (m : Int) ≤ (x : Int) ∧ x = x) := by omega
        have hxx : x - x = 0 := Nat.sub_self x
        have htk : r0.bs.take x = r0.bs := List.take_of_length_le (by rw [hx.out]; exact Nat.le_refl _)
        have HTK := hid htk
        clear htk
        clear hxm
        go_enter Tryz.func106, Tryz.ntmps106
        go_wp2_with (first
          | (go_at_call 139
             (with_reducible refine (cut_at _ r0.A x r0.c x r0.bs r0.e (m : Int) S0 hx.out hx5 (Nat.le_refl _) hmin).mono ?_)
             rintro e u1 ⟨A1, c1, A2, c2, rfl, O1, S1, k1⟩
             rw [hxx]
             have k2 : Hid (Below w.heap.size w (u1.alloc (.cells #[.slice A2 0 c2, .bool r0.e] 132))) := hid (k1.out.alloc k1.out.size _)
             have HT2 := ln_up HT k2.out)
          | (go_at_call 138
             (with_reducible refine (copied_any _ A7 (n - 1) c7 rt HT2 hrt hm1 htt).mono ?_)
             rintro e u3 ⟨A3, c3, q3, rfl, hq3, N3, k3⟩))
        go_ret3
        rw [hp.out]
        have b3 : Below u1.heap.size u1 u3 := ((Below.refl _ u1).alloc (Nat.le_refl _) _).trans (k3.out.mono (by simp))
        have O1' := O1.out
        rw [HTK.out] at O1'
        exact ⟨A1, x, c1, A3, n - 1, c3, q3, u1.heap.size, rfl, hx, slb_own hx (hid (own_keep O1' b3)), hid (own_low O1' (Nat.le_refl _) (Nat.le_refl _)), hq3, hid N3.out.len, hid (N3.out.mono (by simp)).lnF, hid k1.out.size, hid (k1.out.trans (b3.mono k1.out.size))⟩
      · have hp : Hid (readL (lnR (r0 :: rt)) (m : Int) = (r0.bs.take m, (r0.bs.drop m, r0.e) :: lnR rt, true)) := hid (by show (if (m : Int) ≤ 0 then _ else if (r0.bs.length : Int) ≤ (m : Int) then _ else _) = _; rw [if_neg hk, hx.out, if_neg (by omega)]; rfl)
        have hmx : m ≤ x := by omega
        have hmin : ((m : Int) ≤ (x : Int) ∧ (m : Int) = (m : Int)) ∨ (¬ (m : Int) ≤ (x : Int) ∧ x = m) := Or.inl ⟨by omega, rfl⟩
        obtain ⟨q, hq⟩ : ∃ q, x - m = q := ⟨_, rfl⟩
        have hqd : (r0.bs.drop m).length = q := by rw [List.length_drop, hx.out, hq]
        have hq0 : ((q : Int) == 0) = false := beq_eq_false_iff_ne.2 (by omega)
        have htl : (r0.bs.take m).length = m := by rw [List.length_take, hx.out]; omega
        have HTL := hid htl
        have HQD := hid hqd
        have hlen2 : ∀ A2 c2, (([(⟨A2, c2, r0.bs.drop m, r0.e⟩ : Rc)]) ++ rt).length = n := fun A2 c2 => by rw [List.length_append, hrt]; simp; omega
        have htj : ∀ A2 c2, Hid (∀ r ∈ [(⟨A2, c2, r0.bs.drop m, r0.e⟩ : Rc)] ++ rt, r.bs.length ≤ 140737488351232) := fun A2 c2 => hid (fun r hr => by
          rcases List.mem_append.1 hr with h | h
          · rw [List.mem_singleton.1 h]; show (r0.bs.drop m).length ≤ _; rw [HQD.out]; omega
          · exact htt.out r h)
        have hm3 : n ≤ 1000000 := by omega
        clear htl hqd hxm
        go_enter Tryz.func106, Tryz.ntmps106
        go_wp2_with (first
          | (go_at_call 139
             (with_reducible refine (cut_at _ r0.A x r0.c m r0.bs r0.e (m : Int) S0 hx.out hx5 hmx hmin).mono ?_)
             rintro e u1 ⟨A1, c1, A2, c2, rfl, O1, S1, k1⟩
             rw [hq]))
        have k2 : Hid (Below w.heap.size w (u1.alloc (.cells #[.slice A2 q c2, .bool r0.e] 132))) := hid (k1.out.alloc k1.out.size _)
        have j1 : Hid (Below u1.heap.size u1 (u1.alloc (.cells #[.slice A2 q c2, .bool r0.e] 132))) := hid ((Below.refl _ u1).alloc (Nat.le_refl _) _)
        have G1 : Hid (Box (u1.alloc (.cells #[.slice A2 q c2, .bool r0.e] 132)) u1.heap.size 132 #[.slice A2 q c2, .bool r0.e]) := hid (Box.new u1 132 _)
        obtain ⟨gl, hgl⟩ : ∃ g, u1.heap.size = g := ⟨_, rfl⟩
        rw [hgl] at G1 ⊢
        generalize u1.alloc (.cells #[.slice A2 q c2, .bool r0.e] 132) = u at k2 j1 G1 ⊢
        have S2 := slb_at S1 j1
        have T2 := ln_up HT k2.out
        have bz : ∀ W, Below u.heap.size u W → W.cell? ⟨gl, 0, none⟩ = some (.slice A2 q c2) ∧ W.cell? ⟨gl, 1, none⟩ = some (.bool r0.e) := fun W h => ⟨(box_below G1.out h).cell 0, (box_below G1.out h).cell 1⟩
        go_region_held3 (fun W => W.cell? ⟨gl, 0, none⟩ = some (.slice A2 q c2) ∧ W.cell? ⟨gl, 1, none⟩ = some (.bool r0.e)) (first | exact bz _ (by repeat (first | exact Below.refl _ _ | exact b5 | exact b6 | with_reducible apply bel_dr | with_reducible apply bel_al))) ((first
          | (go_at_call 140
             (with_reducible refine (concatL_two u _ ?c1 _ _ n ⟨some ⟨u.heap.size, 0, none⟩, 1, [⟨A2, c2, r0.bs.drop m, r0.e⟩]⟩ ⟨A7, c7, rt⟩ ?c2 ?c3 (hlen2 _ _) hm3).mono ?_)
             case c1 => repeat (first | exact Below.refl _ _ | exact b5 | exact b6 | with_reducible apply bel_dr | with_reducible apply bel_al)
             case c2 => exact hid (lies_rows _ _ (by simp) ⟨some ⟨u.heap.size, 0, none⟩, 1, [⟨A2, c2, r0.bs.drop m, r0.e⟩]⟩ ⟨A7, c7, rt⟩ _ _ rfl (by unfold Sr.v; rw [hrt]))
             case c3 => exact hid (rows_ln (ln_litq HQD.out (by first | exact box_al (box_nw rfl) | exact box_al (box_dr (box_nw rfl)) | exact box_dr (box_al (box_nw rfl))) (slb_up S2 (by repeat (first | exact Below.refl _ _ | exact b5 | exact b6 | with_reducible apply bel_dr | with_reducible apply bel_al))).out) (ln_up T2 (by repeat (first | exact Below.refl _ _ | exact b5 | exact b6 | with_reducible apply bel_dr | with_reducible apply bel_al))).out)
             rintro e u5 ⟨A5, c5, rfl, N5, b5, d5⟩
             have l5 := hid N5.out.ln)
          | (go_at_call 138
             (with_reducible refine (copied_grow u _ ?c4 A5 n c5 _ l5 (hlen2 _ _) hm (htj _ _)).mono ?_)
             case c4 => repeat (first | exact Below.refl _ _ | exact b5 | exact b6 | with_reducible apply bel_dr | with_reducible apply bel_al)
             rintro e u6 ⟨A6, c6, q6, rfl, hq6, N6, b6, d6⟩)))
        all_goals
          have b16 : Hid (Below u1.heap.size u1 u6) := hid (j1.out.trans (b6.mono j1.out.size))
          have N7 := hid (N6.out.mono (Nat.le_trans j1.out.size b5.size))
          have K7 : Hid (Below w.heap.size w u6) := hid (k1.out.trans (b16.out.mono k1.out.size))
          have Q7 : Hid (lnR q6 = (r0.bs.drop m, r0.e) :: lnR rt) := hid hq6.out
          clear bz b5 b6 d5 d6 N5 N6 l5 hq6
          go_wp2
          go_ret3
          rw [hp.out]
          exact ⟨A1, m, c1, A6, n, c6, q6, u1.heap.size, rfl, HTL, slb_own HTL (hid (own_keep O1.out b16.out)), hid (own_low O1.out (Nat.le_refl _) (Nat.le_refl _)), Q7, hid N7.out.len, hid N7.out.lnF, hid k1.out.size, K7⟩
end Go.Proofs.YtggcampdkgfmgaaGreat.L13
