import Derived.Test.YtdcohhfbifiemaaKV
namespace Go.Proofs.Ytdcohhfbifiemaa
open Go.RowKit Go.Maps

theorem due_len (now : Int) (S : List Tm) : (ids (dueP now S)).length ≤ S.length := by
  unfold ids dueP
  rw [List.length_map]
  exact (List.takeWhile_sublist _).length_le
theorem dueS_len (now : Int) (S : List Tm) : (dueS now S).length ≤ S.length := (List.dropWhile_sublist _).length_le
theorem Two.okd {w0 w : World} {X : List Nat} {a b : Nat} {S R : List Tm} (h : Two w0 w X a b S R) {id d : Int} (hx : (id, d) ∈ S) : okI d := by
  obtain ⟨Ha, Ma, ra, Hb, Mb, rb, h1, _⟩ := h.body
  exact (h1.wf _ hx).2
theorem ops_at {w : World} {B : Nat} {A : Option Addr} {l : List OpV} (h : OpsV w B A l) {k : Nat} (hk : k < l.length) : ∃ b o, A = some ⟨b, o, none⟩ ∧ b < B ∧ w.cell? ⟨b, o + k * 3, none⟩ = some (.int .i64 l[k].1) ∧ w.cell? ⟨b, o + k * 3 + 1, none⟩ = some (.int .i64 l[k].2.1) ∧ w.cell? ⟨b, o + k * 3 + 2, none⟩ = some (.int .i64 l[k].2.2) := by
  obtain ⟨b, o, e, hb, hc⟩ := h (List.ne_nil_of_length_pos (by omega))
  obtain ⟨h1, h2, h3⟩ := hc k hk
  exact ⟨b, o, e, hb, h1, h2, h3⟩
section
variable (w : World)
set_option maxHeartbeats 4000000 in
set_option maxRecDepth 100000 in
theorem cancels_great (A : Option Addr) (c n : Nat) (id at_ : Int) (l : List OpV) (_hn : Hid (l.length = n)) (hg : 200 < n) (_hm : n ≤ maxLen) :
    Calls Try.prog 6 #[.slice A n c, .int .i64 id, .int .i64 at_] w fun e w' => e = .returned (.bool true) ∧ Hid (Below w.heap.size w w') := by
  have hb : Hid (Below w.heap.size w w) := Below.refl _ _
  have t1 : (n : Int) > 200 := by omega
  go_enter Try.func6, Try.ntmps6
  go_wp2_with (first
    | (go_at_call 7
       refine (alive_any w w hb).mono ?_
       rintro e w1 ⟨rfl, H1⟩))
  go_ret
  exact ⟨rfl, H1⟩
set_option maxHeartbeats 8000000 in
set_option maxRecDepth 100000 in
theorem cancels_walk (A : Option Addr) (c n : Nat) (id at_ : Int) (l : List OpV) (hl : OpsV w w.heap.size A l) (hok : Hid (okO l)) (hi : Hid (okI id ∧ okI at_)) (hn : Hid (l.length = n)) (hg : n ≤ 200) :
    Calls Try.prog 6 #[.slice A n c, .int .i64 id, .int .i64 at_] w fun e w' => e = .returned (.bool true) ∧ Hid (Below w.heap.size w w') := by
  have hb : Hid (Below w.heap.size w w) := Below.refl _ _
  have HL := hid hl
  have t1 : ¬ ((n : Int) > 200) := by omega
  have hmm := @run_makeMap Try.prog
  clear hl
  go_enter Try.func6, Try.ntmps6
  go_wp2_with (first
    | (go_at_call 7
       refine (alive_any w w hb).mono ?_
       rintro e w1 ⟨rfl, H1⟩)
    | (go_at_call 8
       (first
        | (with_reducible refine (two_new w w1 H1).mono ?_
           rintro e w2 ⟨a, rfl, HA⟩
           have H2 := hid HA.out.2.2.1
           have HW := hid H1.out.size
           clear H1)
        | (with_reducible refine (two_new w w2 H2).mono ?_
           rintro e w3 ⟨b, rfl, HBb⟩
           have HT := hid (two_made w w1 HA HW.out HBb)
           clear H2 HA HBb))))
  have HT4 : Hid (Two w (w3.alloc (.map #[] 0)) [w3.heap.size] a b [] []) := HT.out.add ((But.refl [] w3).alloc _) (Nat.le_refl _) (by simp)
  have HM4 : Hid (Mp (w3.alloc (.map #[] 0)) 2 w3.heap.size ([] : List Tm).length (fun x => look x [])) := Mp.made w3 2
  generalize (w3.alloc (.map #[] 0)) = w4 at HT4 HM4 ⊢
  generalize w3.heap.size = M at HT4 HM4 ⊢
  clear HT t1
  go_loopw [25] (fun v wr => ∃ (k : Nat) (S : List Tm), v = .int .i64 k ∧ k ≤ n ∧ S.length ≤ k ∧ Hid (Two w wr [M] a b S S) ∧ Hid (Mp wr 2 M S.length (fun x => look x S))) (fun v _ => n - (intOf v).toNat)
  case atStart => exact ⟨0, [], rfl, Nat.zero_le _, Nat.le_refl _, HT4, HM4⟩
  case round =>
    obtain ⟨k, S, rfl, hk, hSk, HT, HM⟩ := hrel
    by_cases hkn : k < n
    · have hkl : k < l.length := by rw [hn.out]; exact hkn
      obtain ⟨o, ho⟩ : ∃ o, l[k] = o := ⟨_, rfl⟩
      have HO := hid (hok.out o (by rw [← ho]; exact List.getElem_mem _))
      obtain ⟨bb, oo, rfl, hbb, q0, q1, q2⟩ := ops_at (HL.out.below HT.out.bel) hkl
      rw [ho] at q0 q1 q2
      obtain ⟨o0, o1, o2⟩ := o
      simp only at q0 q1 q2 HO
      have hi1 : 0 ≤ (k : Int) ∧ (k : Int) < n := by omega
      have HTa : Hid (Two w (wr.alloc (.cells #[.int .i64 o0, .int .i64 o1, .int .i64 o2] 31)) [M] a b S S) := HT.out.keep0 ((But.refl [] _).alloc _)
      have HMa : Hid (Mp (wr.alloc (.cells #[.int .i64 o0, .int .i64 o1, .int .i64 o2] 31)) 2 M S.length (fun x => look x S)) := HM.out.keep ((But.refl [] _).alloc _) (by simp)
      have HXa : Hid (Box (wr.alloc (.cells #[.int .i64 o0, .int .i64 o1, .int .i64 o2] 31)) wr.heap.size 31 #[.int .i64 o0, .int .i64 o1, .int .i64 o2]) := Box.new _ _ _
      obtain ⟨hsrt, hnd, _⟩ := HT.out.srt
      obtain ⟨se, ss⟩ := setS_lt (S := S) (by omega) o1 o2
      have SE := hid se
      have SS := hid ss
      have HLK := hid (look_ins hnd o1 o2)
      have HLN := hid (ins_len hnd o1 o2)
      clear ho hkl hsrt hnd se ss
      by_cases ho0 : o0 = 1
      · subst ho0
        go_wp2_with (first
          | (go_at_call 9
             (first
              | (with_reducible refine (two_set_a w _ HTa HO SE SS).mono ?_
                 rintro e w5 ⟨rfl, HT5, HF5⟩
                 have HX5 := hid (HF5.out.box HXa.out (by decide) (by decide))
                 have HM5 := hid (HF5.out.mp HMa.out (by simp))
                 have c51 : w5.cell? ⟨wr.heap.size, 1, none⟩ = some (.int .i64 o1) := HX5.out.cell 1
                 have c52 : w5.cell? ⟨wr.heap.size, 2, none⟩ = some (.int .i64 o2) := HX5.out.cell 2
                 clear HTa HXa HMa HF5)
              | (with_reducible refine (two_set_b w _ HT5 HO SE SS).mono ?_
                 rintro e w6 ⟨rfl, HT6, HF6⟩
                 have HX6 := hid (HF6.out.box HX5.out (by decide) (by decide))
                 have c61 : w6.cell? ⟨wr.heap.size, 1, none⟩ = some (.int .i64 o1) := HX6.out.cell 1
                 have c62 : w6.cell? ⟨wr.heap.size, 2, none⟩ = some (.int .i64 o2) := HX6.out.cell 2
                 obtain ⟨w7, hrun, hm7, hk7⟩ := (HF6.out.mp HM5.out (by simp)).put Try.underlying45 Try.underlying2 (by unfold maxLen; omega) HO.out.1 HO.out.2
                 rw [← HLN.out, ← HLK.out] at hm7
                 have HT7 := hid (HT6.out.keep hk7 (by simp))
                 have HM7 := hid hm7
                 clear HT5 HX5 HM5 HF6 hm7 hk7))))
        go_roundw
        case rel => exact ⟨k + 1, _, by go_num, by omega, by rw [HLN.out]; split <;> omega, HT7, HM7⟩
        case measure => simp [intOf]; omega
      · have t3 : (o0 == 1) = false := by simpa using ho0
        go_wp2
        go_roundw
        case rel => exact ⟨k + 1, S, by go_num, by omega, by omega, HTa, HMa⟩
        case measure => simp [intOf]; omega
    · obtain ⟨hsrt, hnd, hc⟩ := HT.out.srt
      obtain ⟨m, hm⟩ : ∃ m, S.length = m := ⟨_, rfl⟩
      have HSN := hid hm
      obtain ⟨l1, h1⟩ : ∃ z, ids (dueP at_ S) = z := ⟨_, rfl⟩
      obtain ⟨S1, h2⟩ : ∃ z, dueS at_ S = z := ⟨_, rfl⟩
      obtain ⟨l2, h3⟩ : ∃ z, ids (dueP 9223372036854775807 S1) = z := ⟨_, rfl⟩
      obtain ⟨S2, h4⟩ : ∃ z, dueS 9223372036854775807 S1 = z := ⟨_, rfl⟩
      have hl1 : l1.length ≤ 1000000 := by have := due_len at_ S; rw [h1] at this; omega
      have hl2 : l2.length ≤ 1000000 := by have := due_len 9223372036854775807 S1; have h5 := dueS_len at_ S; rw [h3] at this; rw [h2] at h5; omega
      have HL1 := hid h1
      have HS1 := hid h2
      have HL2 := hid h3
      have HS2 := hid h4
      obtain ⟨se, ss⟩ := setS_lt (S := S) (by omega) id at_
      have SE := hid se
      have SS := hid ss
      have hlk := HM.out.look Try.underlying45 Try.underlying2 (zero2 wr) hi.out.1
      have hm256 : m ≤ 200 := by omega
      cases hf : look id S with
      | some d0 =>
        have hd0 : okI d0 := HT.out.okd (look_some hf)
        have HO2 := hid (And.intro hi.out.1 hd0)
        have h5 : (ins (id, at_) (rem id S)).length < 256 := by rw [ins_len hnd, hf]; simp; omega
        obtain ⟨se2, ss2⟩ := setS_lt h5 id d0
        rw [set_back hsrt hnd hf] at ss2
        have SE2 := hid se2
        have SS2 := hid ss2
        rw [hf] at hlk
        simp only [Option.getD_some, Option.isSome_some] at hlk
        clear hsrt hnd hc hm h1 h2 h3 h4 se ss se2 ss2 h5 hf hd0
        go_wp2_with (first
         | (go_at_call 9
            (first
             | (with_reducible refine (two_set_b w _ HT hi SE SS).mono ?_
                rintro e w10 ⟨rfl, HTb, HFb⟩
                clear HT SE SS HFb)
             | (with_reducible refine (two_set_b w _ HTb HO2 SE2 SS2).mono ?_
                rintro e w11 ⟨rfl, HQ, HFc⟩
                clear HTb HFc)))
         | (go_at_call 17
            (first
             | (with_reducible refine (two_len_a w _ HSN HQ).mono ?_
                rintro e w20 ⟨rfl, rfl⟩)
             | (with_reducible refine (two_len_b w _ HSN HQ).mono ?_
                rintro e w21 ⟨rfl, rfl⟩)))
         | (go_at_call 14
            (first
             | (with_reducible refine (two_due_a w _ HQ HL1 HS1).mono ?_
                rintro e w22 ⟨A1, n1, c1, rfl, O1, HT1, HF1⟩
                clear HQ HF1)
             | (with_reducible refine (two_due_b w _ HT1 HL1 HS1).mono ?_
                rintro e w23 ⟨A2, n2, c2, rfl, O2, HT2, HF2⟩
                have O12 := hid (HF2.out.own O1.out (by decide) (by decide))
                clear HT1 HF2 O1)
             | (with_reducible refine (two_due_a w _ HT3 HL2 HS2).mono ?_
                rintro e w24 ⟨A3, n3, c3, rfl, O3, HT4, HF3⟩
                clear HT3 HF3)
             | (with_reducible refine (two_due_b w _ HT4 HL2 HS2).mono ?_
                rintro e w25 ⟨A4, n4, c4, rfl, O4, HT5, HF4⟩
                have O34 := hid (HF4.out.own O3.out (by decide) (by decide))
                clear HT4 HF4 O3)))
         | (go_at_call 13
            (first
             | (with_reducible refine (ints_rows _ O12 O2 hl1).mono ?_
                rintro e w26 ⟨rfl, HK1⟩
                have HT3 := hid (HT2.out.keep0 HK1.out)
                clear HT2 HK1 O12 O2)
             | (with_reducible refine (ints_rows _ O34 O4 hl2).mono ?_
                rintro e w27 ⟨rfl, HK2⟩
                have HT6 := hid (HT5.out.keep0 HK2.out)
                clear HT5 HK2 O34 O4))))
        go_ret
        exact ⟨rfl, HT6.out.bel⟩
      | none =>
        have hhas : has id S = false := by rw [← look_has, hf]; rfl
        have h5 : (ins (id, at_) (rem id S)).length = m + 1 := by rw [ins_len hnd, hf, hm]; rfl
        have HB1 := hid h5
        have HC1 := hid (has_ins (rem id S) id at_)
        have HC2 := hid (cancel_back hsrt (d' := at_) hhas)
        rw [hf] at hlk
        simp only [Option.getD_none, Option.isSome_none] at hlk
        clear hsrt hnd hc hm h1 h2 h3 h4 se ss h5 hf hhas
        go_wp2_with (first
         | (go_at_call 9
            with_reducible refine (two_set_b w _ HT hi SE SS).mono ?_
            rintro e w10 ⟨rfl, HTb, HFb⟩
            clear HT SE SS HFb)
         | (go_at_call 11
            with_reducible refine (two_cancel_b w _ HTb (hid hi.out.1) HC1 HC2).mono ?_
            rintro e w11 ⟨rfl, HQ, HFc⟩
            clear HTb HFc)
         | (go_at_call 17
            (first
             | (with_reducible refine (two_len_b w _ HB1 HTb).mono ?_
                rintro e w12 ⟨rfl, rfl⟩)
             | (with_reducible refine (two_len_a w _ HSN HTb).mono ?_
                rintro e w13 ⟨rfl, rfl⟩)))
         | (go_at_call 17
            (first
             | (with_reducible refine (two_len_a w _ HSN HQ).mono ?_
                rintro e w20 ⟨rfl, rfl⟩)
             | (with_reducible refine (two_len_b w _ HSN HQ).mono ?_
                rintro e w21 ⟨rfl, rfl⟩)))
         | (go_at_call 14
            (first
             | (with_reducible refine (two_due_a w _ HQ HL1 HS1).mono ?_
                rintro e w22 ⟨A1, n1, c1, rfl, O1, HT1, HF1⟩
                clear HQ HF1)
             | (with_reducible refine (two_due_b w _ HT1 HL1 HS1).mono ?_
                rintro e w23 ⟨A2, n2, c2, rfl, O2, HT2, HF2⟩
                have O12 := hid (HF2.out.own O1.out (by decide) (by decide))
                clear HT1 HF2 O1)
             | (with_reducible refine (two_due_a w _ HT3 HL2 HS2).mono ?_
                rintro e w24 ⟨A3, n3, c3, rfl, O3, HT4, HF3⟩
                clear HT3 HF3)
             | (with_reducible refine (two_due_b w _ HT4 HL2 HS2).mono ?_
                rintro e w25 ⟨A4, n4, c4, rfl, O4, HT5, HF4⟩
                have O34 := hid (HF4.out.own O3.out (by decide) (by decide))
                clear HT4 HF4 O3)))
         | (go_at_call 13
            (first
             | (with_reducible refine (ints_rows _ O12 O2 hl1).mono ?_
                rintro e w26 ⟨rfl, HK1⟩
                have HT3 := hid (HT2.out.keep0 HK1.out)
                clear HT2 HK1 O12 O2)
             | (with_reducible refine (ints_rows _ O34 O4 hl2).mono ?_
                rintro e w27 ⟨rfl, HK2⟩
                have HT6 := hid (HT5.out.keep0 HK2.out)
                clear HT5 HK2 O34 O4))))
        go_ret
        exact ⟨rfl, HT6.out.bel⟩
end
end Go.Proofs.Ytdcohhfbifiemaa
