import Derived.Test.YtdcohhfbifiemaaLB
import Derived.Test.YtdcohhfbifiemaaKZ
namespace Go.Proofs.Ytdcohhfbifiemaa
open Go.RowKit Go.Maps

theorem once_in {D : DataW Unit} {S : List Tm} {x c : Int} (hf : ∀ a, okI a → Maps.has D (.int .i64 a) = (look a S).isSome ∧ ∀ v, look a S = some v → D.atKey (.int .i64 a) (.lit (.int .i64 0)) = .lit (.int .i64 v)) (hx : okI x) (hat : ∀ zd, D.atKey (.int .i64 x) zd = .lit (.int .i64 c)) : (x, c) ∈ S := by
  have h1 := hf x hx
  rw [has_true_of_atKey hat] at h1
  obtain ⟨v, hv⟩ := Option.isSome_iff_exists.1 h1.1.symm
  have h2 := h1.2 v hv
  rw [hat] at h2
  injection h2 with h2
  injection h2 with _ h2
  rw [h2]
  exact look_some hv
theorem once_drop {P : List Tm} {j : Nat} {p : Tm} (h : P[j]? = some p) : P.drop j = p :: P.drop (j + 1) := by
  obtain ⟨hj, rfl⟩ := List.getElem?_eq_some_iff.1 h
  exact List.drop_eq_getElem_cons hj
theorem once_nd {P S : List Tm} (h : nd (P ++ S)) (j : Nat) : nd (P.drop j ++ S) := by
  have : (P.drop j ++ S).Sublist (P ++ S) := (List.drop_sublist j P).append_right S
  exact List.Pairwise.sublist this h
theorem once_del {w : World} {M : Nat} {P S : List Tm} {j : Nat} {p : Tm} (hn : nd (P.drop j ++ S)) (hp : P.drop j = p :: P.drop (j + 1))
    (h : Mp w 2 M (if (look p.1 (P.drop j ++ S)).isSome then (P.drop j ++ S).length - 1 else (P.drop j ++ S).length) (delF (fun x => look x (P.drop j ++ S)) p.1)) :
    Mp w 2 M (P.drop (j + 1) ++ S).length (fun x => look x (P.drop (j + 1) ++ S)) := by
  rw [hp, List.cons_append] at h hn
  rw [look_mem hn (by simp : p ∈ p :: (P.drop (j + 1) ++ S)), if_pos (by rfl), ← look_rem, rem_head hn] at h
  exact h
theorem ids_cells {w : World} {base n c : Nat} {A : Option Addr} {P : List Tm} (h : w.ownsRow base 3 1 (.slice A n c) n (iv (ids P))) {p : Tm} (hp : p ∈ P) :
    ∃ b o, A = some ⟨b, o, none⟩ ∧ ∀ (i : Nat) (q : Tm), P[i]? = some q → w.cell? ⟨b, o + i, none⟩ = some (.int .i64 q.1) := by
  obtain ⟨b, o, e, _, hc⟩ := Lies.own h (by intro e; have := congrArg List.length e; simp [iv, ids] at this; rw [this] at hp; cases hp)
  exact ⟨b, o, e, fun i q hq => hc i _ (by simp [iv, ids, hq])⟩
section
variable (w : World)
set_option maxHeartbeats 4000000 in
set_option maxRecDepth 100000 in
theorem once_great (A : Option Addr) (c n : Nat) (hg : 200 < n) (_hm : n ≤ maxLen) :
    Calls Try.prog 4 #[.slice A n c] w fun e w' => e = .returned (.bool true) ∧ Hid (Below w.heap.size w w') := by
  have hb : Hid (Below w.heap.size w w) := Below.refl _ _
  have t1 : (n : Int) > 200 := by omega
  go_enter Try.func4, Try.ntmps4
  go_wp2_with (first
    | (go_at_call 7
       refine (alive_any w w hb).mono ?_
       rintro e w1 ⟨rfl, H1⟩))
  go_ret
  exact ⟨rfl, H1⟩
set_option maxHeartbeats 16000000 in
set_option maxRecDepth 100000 in
theorem once_walk (A : Option Addr) (c n : Nat) (l : List OpV) (hl : OpsV w w.heap.size A l) (hok : Hid (okO l)) (hn : Hid (l.length = n)) (hg : n ≤ 200) :
    Calls Try.prog 4 #[.slice A n c] w fun e w' => e = .returned (.bool true) ∧ Hid (Below w.heap.size w w') := by
  have hb : Hid (Below w.heap.size w w) := Below.refl _ _
  have HL := hid hl
  have t1 : ¬ ((n : Int) > 200) := by omega
  have hmm := @run_makeMap Try.prog
  clear hl
  go_enter Try.func4, Try.ntmps4
  go_wp2_with (first
    | (go_at_call 7
       refine (alive_any w w hb).mono ?_
       rintro e w1 ⟨rfl, H1⟩)
    | (go_at_call 8
       with_reducible refine (one_new w w1 H1).mono ?_
       rintro e w3 ⟨a, rfl, HT⟩
       clear H1))
  have HT4 : Hid (One w (w3.alloc (.map #[] 0)) [w3.heap.size] a []) := HT.out.add ((But.refl [] w3).alloc _) (Nat.le_refl _) (by simp)
  have HM4 : Hid (Mp (w3.alloc (.map #[] 0)) 2 w3.heap.size ([] : List Tm).length (fun x => look x [])) := Mp.made w3 2
  generalize (w3.alloc (.map #[] 0)) = w4 at HT4 HM4 ⊢
  generalize w3.heap.size = M at HT4 HM4 ⊢
  clear HT t1
  go_loopw [30] (fun v wr => ∃ (k : Nat) (S : List Tm), v = .int .i64 k ∧ k ≤ n ∧ S.length ≤ k ∧ Hid (One w wr [M] a S) ∧ Hid (Mp wr 2 M S.length (fun x => look x S))) (fun v _ => n - (intOf v).toNat)
  case atStart => exact ⟨0, [], rfl, Nat.zero_le _, Nat.le_refl _, HT4, HM4⟩
  case round =>
    obtain ⟨k, S, rfl, hk, hSk, HT, HM⟩ := hrel
    by_cases hkn : k < n
    · have hkl : k < l.length := by rw [hn.out]; exact hkn
      obtain ⟨o, ho⟩ : ∃ o, l[k] = o := ⟨_, rfl⟩
      have HO := hid (hok.out o (by rw [← ho]; exact List.getElem_mem _))
      obtain ⟨bb, oo, rfl, hbb, q0, q1, q2⟩ := ops_at (HL.out.below HT.out.bel) hkl
      rw [ho] at q0 q1 q2
      obtain ⟨o0, o1, o2⟩ := o
      simp only at q0 q1 q2 HO
      have hi1 : 0 ≤ (k : Int) ∧ (k : Int) < n := by omega
      have HTa : Hid (One w (wr.alloc (.cells #[.int .i64 o0, .int .i64 o1, .int .i64 o2] 31)) [M] a S) := HT.out.keep0 ((But.refl [] _).alloc _)
      have HMa : Hid (Mp (wr.alloc (.cells #[.int .i64 o0, .int .i64 o1, .int .i64 o2] 31)) 2 M S.length (fun x => look x S)) := HM.out.keep ((But.refl [] _).alloc _) (by simp)
      have HXa : Hid (Box (wr.alloc (.cells #[.int .i64 o0, .int .i64 o1, .int .i64 o2] 31)) wr.heap.size 31 #[.int .i64 o0, .int .i64 o1, .int .i64 o2]) := Box.new _ _ _
      obtain ⟨hsrt, hnd, _⟩ := HT.out.srt
      obtain ⟨m, hm⟩ : ∃ m, S.length = m := ⟨_, rfl⟩
      have HSN := hid hm
      clear ho hkl
      by_cases ho1 : o0 = 1
      · subst ho1
        obtain ⟨se, ss⟩ := setS_lt (S := S) (by omega) o1 o2
        have SE := hid se
        have SS := hid ss
        have HLK := hid (look_ins hnd o1 o2)
        obtain ⟨m5, h5⟩ : ∃ z, (ins (o1, o2) (rem o1 S)).length = z := ⟨_, rfl⟩
        have HLN := hid h5
        have hlen5 := ins_len hnd o1 o2
        rw [h5] at hlen5
        have HLL := hid hlen5
        have hm5 : m5 ≤ k + 1 := by rw [hlen5]; split <;> omega
        clear hsrt hnd se ss h5 hlen5
        go_wp2_with (first
          | (go_at_call 9
             (with_reducible refine (one_set w _ HTa HO SE SS).mono ?_
              rintro e w5 ⟨rfl, HT5, HF5⟩
              have HX5 := hid (HF5.out.box HXa.out (by decide) (by decide))
              have c51 : w5.cell? ⟨wr.heap.size, 1, none⟩ = some (.int .i64 o1) := HX5.out.cell 1
              have c52 : w5.cell? ⟨wr.heap.size, 2, none⟩ = some (.int .i64 o2) := HX5.out.cell 2
              obtain ⟨w7, hrun, hm7, hk7⟩ := (HF5.out.mp HMa.out (by simp)).put Try.underlying45 Try.underlying2 (by unfold maxLen; omega) HO.out.1 HO.out.2
              rw [← HLL.out, ← HLK.out] at hm7
              have HT7 := hid (HT5.out.keep hk7 (by simp))
              have hlen := hm7.lenM Try.underlying45 3
              have HM7 := hid hm7
              clear HTa HXa HMa HF5 HT5 hm7 hk7))
          | (go_at_call 17
             with_reducible refine (one_len w _ HLN HT7).mono ?_
             rintro e w8 ⟨rfl, rfl⟩))
        go_roundw
        case rel => exact ⟨k + 1, _, by go_num, by omega, by rw [HLN.out]; exact hm5, HT7, by rw [HLN.out]; exact HM7⟩
        case measure => simp [intOf]; omega
      · have t3 : (o0 == 1) = false := by simpa using ho1
        by_cases ho2 : o0 = 2
        · subst ho2
          obtain ⟨v, hv⟩ : ∃ v, has o1 S = v := ⟨_, rfl⟩
          obtain ⟨S5, hS5⟩ : ∃ z, rem o1 S = z := ⟨_, rfl⟩
          have HV := hid hv
          have HS5 := hid hS5
          have hlk := HMa.out.look Try.underlying45 Try.underlying2 (zero2 _) HO.out.1
          simp only [look_has, hv] at hlk
          obtain ⟨m5, h5⟩ : ∃ z, S5.length = z := ⟨_, rfl⟩
          have HLN := hid h5
          have hlen5 := rem_len hnd o1
          have HLK := hid (look_rem (S := S) o1)
          rw [hS5, h5] at hlen5
          rw [hS5] at HLK
          have HLL := hid hlen5
          have hm5 : m5 ≤ k + 1 := by rw [hlen5]; split <;> omega
          have hvv : (v != v) = false := by simp
          clear hsrt hnd h5 hlen5 hv hS5
          go_wp2_with (first
            | (go_at_call 11
               (with_reducible refine (one_cancel w _ HTa (hid HO.out.1) HV HS5).mono ?_
                rintro e w5 ⟨rfl, HT5, HF5⟩
                have HX5 := hid (HF5.out.box HXa.out (by decide) (by decide))
                have c51 : w5.cell? ⟨wr.heap.size, 1, none⟩ = some (.int .i64 o1) := HX5.out.cell 1
                obtain ⟨w7, hrun, hm7, hk7⟩ := (HF5.out.mp HMa.out (by simp)).del Try.underlying45 HO.out.1 0
                rw [← HLL.out, ← HLK.out] at hm7
                have HT7 := hid (HT5.out.keep hk7 (by simp))
                have hlen := hm7.lenM Try.underlying45 3
                have HM7 := hid hm7
                clear HTa HXa HMa HF5 HT5 hm7 hk7))
            | (go_at_call 17
               with_reducible refine (one_len w _ HLN HT7).mono ?_
               rintro e w8 ⟨rfl, rfl⟩))
          go_roundw
          case rel => exact ⟨k + 1, _, by go_num, by omega, by rw [HLN.out]; exact hm5, HT7, by rw [HLN.out]; exact HM7⟩
          case measure => simp [intOf]; omega
        · have t4 : (o0 == 2) = false := by simpa using ho2
          by_cases ho3 : o0 = 3
          · subst ho3
            obtain ⟨S5, hS5⟩ : ∃ z, dueS o2 S = z := ⟨_, rfl⟩
            obtain ⟨P, hP⟩ : ∃ z, dueP o2 S = z := ⟨_, rfl⟩
            have HL3 : Hid (ids (dueP o2 S) = ids P) := hid (by rw [hP])
            have HS5 := hid hS5
            have HSP : Hid (P ++ S5 = S) := hid (by rw [← hP, ← hS5]; exact due_split o2 S)
            have HPD : Hid (∀ x ∈ P, x.2 ≤ o2) := hid (by rw [← hP]; exact due_at)
            have HSD : Hid (∀ x ∈ S5, o2 < x.2) := hid (by rw [← hS5]; exact due_rest hsrt)
            have HSRT : Hid (srt (P ++ S5)) := hid (by rw [HSP.out]; exact hsrt)
            have HND : Hid (nd (P ++ S5)) := hid (by rw [HSP.out]; exact hnd)
            have HOKD : Hid (∀ x ∈ P ++ S5, okI x.1 ∧ okI x.2) := hid (fun x hx => HT.out.okd (by rw [HSP.out] at hx; exact hx))
            have hm200 : m ≤ 200 := by omega
            clear hsrt hnd hm hP hS5
            go_wp2_with (first
              | (go_at_call 14
                 (with_reducible refine (one_due w _ HTa HL3 HS5).mono ?_
                  rintro e w5 ⟨A5, n5, c5, rfl, HOW5, HT5, HF5⟩
                  have HX5 := hid (HF5.out.box HXa.out (by decide) (by decide))
                  have HM5 : Hid (Mp w5 2 M (P ++ S5).length (fun x => look x (P ++ S5))) := hid (by rw [HSP.out]; exact HF5.out.mp HMa.out (by simp))
                  have c52 : w5.cell? ⟨wr.heap.size, 2, none⟩ = some (.int .i64 o2) := HX5.out.cell 2
                  have HNL : Hid (P.length = n5) := hid (by have := own_len HOW5.out; simpa [ids] using this)
                  clear HTa HXa HMa HF5)))
            generalize wr.heap.size = g at HX5 c52 ⊢
            have hn5 : n5 ≤ m := by
              have e1 := HNL.out
              have e2 := HSP.out
              have e3 := HSN.out
              rw [← e2] at e3
              simp at e3
              omega
            obtain ⟨wb, hwb⟩ : ∃ z, z = wr := ⟨_, rfl⟩
            rw [← hwb] at HT HM q0 q1 q2
            clear hwb
            go_loopw [76] (fun v wr => ∃ (j : Nat), v = .int .i64 j ∧ j ≤ n5 ∧ w5 = wr) (fun v _ => n5 - (intOf v).toNat)
            case atStart => exact ⟨0, rfl, Nat.zero_le _, rfl⟩
            case round =>
              obtain ⟨j, rfl, hj, hwr⟩ := hrel
              subst hwr
              by_cases hjn : j < n5
              · obtain ⟨p, hp⟩ : ∃ p, P[j]? = some p := ⟨_, List.getElem?_eq_getElem (by rw [HNL.out]; omega)⟩
                have hpm := List.mem_of_getElem? hp
                obtain ⟨b9, o9, rfl, hcs⟩ := ids_cells HOW5.out hpm
                have cj := hcs j p hp
                have hlk := HM5.out.look Try.underlying45 Try.underlying2 (zero2 _) (HOKD.out p (by simp [hpm])).1
                simp only [look_mem HND.out (show p ∈ P ++ S5 by simp [hpm]), Option.getD_some, Option.isSome_some] at hlk
                have t6 : ¬ (p.2 > o2) := by have := HPD.out p hpm; omega
                have hi3 : 0 ≤ (j : Int) ∧ (j : Int) < n5 := by omega
                by_cases hj0 : j = 0
                · subst hj0
                  have cj1 : w5.cell? ⟨b9, o9, none⟩ = some (.int .i64 p.1) := by simpa using cj
                  clear hp hpm hcs
                  go_wp2
                  go_roundw
                  case rel => exact ⟨1, by go_num, by omega, trivial⟩
                  case measure => simp [intOf]; omega
                · have t7 : (j : Int) > 0 := by omega
                  obtain ⟨p0, hp0⟩ : ∃ p, P[j - 1]? = some p := ⟨_, List.getElem?_eq_getElem (by rw [HNL.out]; omega)⟩
                  have cj0 := hcs (j - 1) p0 hp0
                  have ej : (j : Int) - 1 = ((j - 1 : Nat) : Int) := by omega
                  have hi4 : 0 ≤ ((j - 1 : Nat) : Int) ∧ ((j - 1 : Nat) : Int) < n5 := by omega
                  have t8 : (p0.1 == p.1) = false := by
                    simp only [beq_eq_false_iff_ne, ne_eq]
                    intro e
                    have := nd_get (List.pairwise_append.1 HND.out).1 hp0 hp e
                    omega
                  clear hp hpm hcs hp0
                  generalize hjz : j - 1 = j1 at cj0 ej hi4
                  go_wp2
                  go_roundw
                  case rel => exact ⟨j + 1, by go_num, by omega, trivial⟩
                  case measure => simp [intOf]; omega
              · go_wp2
                clear hjn hj
                go_loopw [14] (fun v wr => ∃ (j d : Nat), v = .int .i64 j ∧ 1 ≤ j ∧ (j ≤ n5 ∨ j = 1) ∧ wr = w5.drewN d) (fun v _ => n5 - (intOf v).toNat)
                case atStart => exact ⟨1, 0, rfl, Nat.le_refl _, .inr rfl, rfl⟩
                case round =>
                  obtain ⟨j, d, rfl, hj1, hj, hwr⟩ := hrel
                  by_cases hjn : j < n5
                  · obtain ⟨p, hp⟩ : ∃ p, P[j]? = some p := ⟨_, List.getElem?_eq_getElem (by rw [HNL.out]; omega)⟩
                    obtain ⟨p0, hp0⟩ : ∃ p, P[j - 1]? = some p := ⟨_, List.getElem?_eq_getElem (by rw [HNL.out]; omega)⟩
                    have hpm := List.mem_of_getElem? hp
                    have hpm0 := List.mem_of_getElem? hp0
                    obtain ⟨b9, o9, rfl, hcs⟩ := ids_cells HOW5.out hpm
                    have cj := hcs j p hp
                    have cj0 := hcs (j - 1) p0 hp0
                    have hlk1 : ∀ e, (Instr.lookup 45 (.map (some M)) (.int .i64 p.1) false).run Try.prog (w5.drewN e) = .ok (.int .i64 p.2) (w5.drewN e) := fun e => by
                      have := Mp.look1 (w := w5.drewN e) HM5.out Try.underlying45 Try.underlying2 (zero2 _) (HOKD.out p (by simp [hpm])).1
                      simpa only [look_mem HND.out (show p ∈ P ++ S5 by simp [hpm]), Option.getD_some] using this
                    have hlk2 : ∀ e, (Instr.lookup 45 (.map (some M)) (.int .i64 p0.1) false).run Try.prog (w5.drewN e) = .ok (.int .i64 p0.2) (w5.drewN e) := fun e => by
                      have := Mp.look1 (w := w5.drewN e) HM5.out Try.underlying45 Try.underlying2 (zero2 _) (HOKD.out p0 (by simp [hpm0])).1
                      simpa only [look_mem HND.out (show p0 ∈ P ++ S5 by simp [hpm0]), Option.getD_some] using this
                    have hlk3 : (Instr.lookup 45 (.map (some M)) (.int .i64 p.1) false).run Try.prog (w5.drewN d).drew = .ok (.int .i64 p.2) (w5.drewN d).drew := hlk1 (d + 1)
                    have hlk4 : (Instr.lookup 45 (.map (some M)) (.int .i64 p0.1) false).run Try.prog (w5.drewN d).drew = .ok (.int .i64 p0.2) (w5.drewN d).drew := hlk2 (d + 1)
                    have hlt : lt p0 p = true := by
                      obtain ⟨i1, e1⟩ := List.getElem?_eq_some_iff.1 hp0
                      obtain ⟨i2, e2⟩ := List.getElem?_eq_some_iff.1 hp
                      have := List.pairwise_iff_getElem.1 (List.pairwise_append.1 HSRT.out).1 (j - 1) j i1 i2 (by omega)
                      rw [e1, e2] at this
                      exact this
                    have ej : (j : Int) - 1 = ((j - 1 : Nat) : Int) := by omega
                    have hi3 : 0 ≤ (j : Int) ∧ (j : Int) < n5 := by omega
                    have hi4 : 0 ≤ ((j - 1 : Nat) : Int) ∧ ((j - 1 : Nat) : Int) < n5 := by omega
                    have hj5 : (j : Int) < n5 := by omega
                    generalize hjz : j - 1 = j1 at cj0 ej hi4
                    obtain ⟨p1, p2⟩ := p
                    obtain ⟨p01, p02⟩ := p0
                    simp only at cj cj0 hlk1 hlk2 hlk3 hlk4
                    unfold lt at hlt
                    simp only at hlt
                    clear hp hp0 hpm hpm0 hcs hjz
                    subst hwr
                    by_cases hdd : p02 = p2
                    · subst hdd
                      rw [if_pos rfl] at hlt
                      have hlt' : p01 < p1 := by simpa using hlt
                      have tg1 : decide (p02 < p02) = false := by simp
                      have tg2 : decide (p1 ≤ p01) = false := by simp; omega
                      have tg3 : (p02 == p02) = true := by simp
                      go_wp2
                      go_quiet (fail)
                      go_wp2
                      go_quiet (fail)
                      go_wp2
                      go_roundw
                      case rel => exact ⟨j + 1, _, by go_num, by omega, .inl (by omega), rfl⟩
                      case measure => simp [intOf]; omega
                    · rw [if_neg hdd] at hlt
                      have hlt' : p02 < p2 := by simpa using hlt
                      have tg1 : decide (p2 < p02) = false := by simp; omega
                      have tg2 : (p02 == p2) = false := by simpa using hdd
                      go_wp2
                      go_quiet (fail)
                      go_wp2
                      go_quiet (fail)
                      go_wp2
                      go_roundw
                      case rel => exact ⟨j + 1, _, by go_num, by omega, .inl (by omega), rfl⟩
                      case measure => simp [intOf]; omega
                  · subst hwr
                    have HT6 : Hid (One w (w5.drewN d) [M] a S5) := hid (HT5.out.keep0 ((But.refl [] w5).drewN d))
                    have HM6 : Hid (Mp (w5.drewN d) 2 M (P.drop 0 ++ S5).length (fun x => look x (P.drop 0 ++ S5))) := HM5.out
                    have HX6 : Hid (Box (w5.drewN d) g 31 #[.int .i64 3, .int .i64 o1, .int .i64 o2]) := HX5.out
                    have HW6 : Hid ((w5.drewN d).ownsRow w.heap.size 3 1 (.slice A5 n5 c5) n5 (iv (ids P))) := HOW5.out
                    go_wp2
                    generalize w5.drewN d = w6 at HT6 HM6 HX6 HW6 ⊢
                    clear hjn hj hj1 HT5 HM5 HX5 HOW5 c52
                    go_loopw [150] (fun v wr => ∃ (j : Nat), v = .int .i64 j ∧ j ≤ n5 ∧ Hid (One w wr [M] a S5) ∧ Hid (Mp wr 2 M (P.drop j ++ S5).length (fun x => look x (P.drop j ++ S5))) ∧ Hid (Box wr g 31 #[.int .i64 3, .int .i64 o1, .int .i64 o2]) ∧ Hid (wr.ownsRow w.heap.size 3 1 (.slice A5 n5 c5) n5 (iv (ids P)))) (fun v _ => n5 - (intOf v).toNat)
                    case atStart => exact ⟨0, rfl, Nat.zero_le _, HT6, HM6, HX6, HW6⟩
                    case round =>
                      obtain ⟨j, rfl, hj, HT7, HM7, HX7, HW7⟩ := hrel
                      by_cases hjn : j < n5
                      · obtain ⟨p, hp⟩ : ∃ p, P[j]? = some p := ⟨_, List.getElem?_eq_getElem (by rw [HNL.out]; omega)⟩
                        have hpm := List.mem_of_getElem? hp
                        obtain ⟨b9, o9, rfl, hcs⟩ := ids_cells HW7.out hpm
                        have cj := hcs j p hp
                        have hi3 : 0 ≤ (j : Int) ∧ (j : Int) < n5 := by omega
                        obtain ⟨w8, hrun, hm8, hk8⟩ := HM7.out.del Try.underlying45 (HOKD.out p (by simp [hpm])).1 0
                        have HM8 := hid (once_del (once_nd HND.out j) (once_drop hp) hm8)
                        have HT8 := hid (HT7.out.keep hk8 (by simp))
                        have HX8 := hid (hk8.box HX7.out (by simp; exact fun e => HM7.out.ne HX7.out e.symm))
                        have HW8 := hid (hk8.own HW7.out (fun q hq hx => by
                          obtain ⟨_, cs, hb⟩ := own_box HW7.out q hq
                          simp at hx
                          subst hx
                          exact HM7.out.ne hb rfl))
                        clear hp hpm hcs hm8 hk8
                        go_wp2
                        go_roundw
                        case rel => exact ⟨j + 1, by go_num, by omega, HT8, HM8, HX8, HW8⟩
                        case measure => simp [intOf]; omega
                      · have hd : P.drop j = [] := List.drop_of_length_le (by rw [HNL.out]; omega)
                        have hm7 := HM7.out
                        rw [hd, List.nil_append] at hm7
                        obtain ⟨D, hown, hsz, hf⟩ := hm7
                        have HF := hid hf
                        have HSZ := hid hsz
                        clear hd hf hsz
                        go_wp2_with (first
                          | (at_range
                             (refine wpList_range_own _ rfl _ 45 rfl 3 2 lawI Try.underlying45 _ M _ D rfl hown ?_
                              intro w8 hrg8 hg8 hs8)))
                        have hlg := HX7.out.lt
                        have HG := hid hlg
                        obtain ⟨r, hr⟩ : ∃ r, wr.heap.size = r := ⟨_, rfl⟩
                        rw [hr] at hrg8 hs8 hlg ⊢
                        have hgr : g ≠ r := by omega
                        have hk8 : But [] wr w8 := (But.refl [] wr).grown hg8 (by simp)
                        have HT8 : Hid (One w w8 [r, M] a S5) := hid (HT7.out.add hk8 (by omega) (by omega))
                        have HX8 := hid (hk8.box HX7.out (by simp))
                        have HR8 := hid hrg8
                        clear hrg8 hs8 hg8 hk8 HT7 HX7 HW7 hown hr HG hlg
                        go_loopw [20] (fun _ wr => ∃ (left : Lit → Bool) (cnt : Nat), Hid (wr.ranges Try.prog 3 (plainElem Try.prog 2) M r S5.length D left cnt) ∧ Hid (One w wr [r, M] a S5) ∧ Hid (Box wr g 31 #[.int .i64 3, .int .i64 o1, .int .i64 o2])) (fun _ wr => wr.rangeLeft M r)
                        case atStart => exact ⟨_, _, HR8, HT8, HX8⟩
                        case round =>
                          obtain ⟨left, cnt, HR, HT9, HX9⟩ := hrel
                          obtain ⟨m5, h5⟩ : ∃ z, S5.length = z := ⟨_, rfl⟩
                          have HLN := hid h5
                          have hown9 := HR.out.owns
                          have hlen : (Builtin.len_ #[45] 3 #[.map (some M)]).run Try.prog wr = .ok (.int .i64 m5) wr := by
                            have := hown9.len Try.underlying45 3
                            rw [HSZ.out, h5] at this
                            exact this
                          have HM9 : Hid (Mp wr 2 M m5 (fun x => look x S5)) := hid ⟨D, by rw [← h5]; exact hown9, by rw [HSZ.out, h5], HF.out⟩
                          have HT10 : Hid (One w wr [M] a S5) := hid (HT9.out.sub (by simp))
                          have hm5 : m5 ≤ k + 1 := by
                            have e2 := HSP.out
                            have e3 := HSN.out
                            have e4 := hSk
                            rw [← e2] at e4
                            simp [h5] at e4
                            omega
                          clear h5 hown9
                          go_wp2_with (first
                            | (at_next
                               (refine wpList_next_ranges_ii _ rfl _ rfl 3 2 .i64 .i64 lawI Try.underlying3 Try.underlying2 M r S5.length D _ _ rfl HR.out ?_ ?_))
                            | (go_at_call 17
                               with_reducible refine (one_len w _ HLN HT10).mono ?_
                               rintro e w12 ⟨rfl, rfl⟩))
                          · intro _ _
                            go_wp2_with (first
                              | (go_at_call 17
                                 with_reducible refine (one_len w _ HLN HT10).mono ?_
                                 rintro e w12 ⟨rfl, rfl⟩))
                            go_roundw
                            case rel => exact ⟨k + 1, S5, by go_num, by omega, by rw [HLN.out]; exact hm5, HT10, by rw [HLN.out]; exact HM9⟩
                            case measure => simp [intOf]; omega
                          · intro x cc w9 cnt9 hwx hwc hlx hat hrg9 hlt9 hg9 hs9 hen9
                            have hk9 : But [r] wr w9 := but_grown hg9 (by simp)
                            have HT11 := hid (HT9.out.keep hk9 (by simp))
                            have HX11 := hid (hk9.box HX9.out (by simp; exact hgr))
                            have c52 : w9.cell? ⟨g, 2, none⟩ = some (.int .i64 o2) := HX11.out.cell 2
                            have tcc : ¬ (cc ≤ o2) := by
                              have := HSD.out _ (once_in HF.out hwx hat)
                              simp only at this
                              omega
                            have HRG := hid hrg9
                            have HLT := hid hlt9
                            clear hrg9 hlt9 hg9 hs9 hk9 hat hlx hwc HT9 HX9 HT10 HM9 hlen
                            go_wp2
                            go_roundw
                            case rel => exact ⟨_, _, HRG, HT11, HX11⟩
                            case measure => rw [HRG.out.left_eq, HR.out.left_eq]; exact HLT.out
          · have t5 : (o0 == 3) = false := by simpa using ho3
            have hlen := HMa.out.lenM Try.underlying45 3
            rw [hm] at hlen
            have HT7 := HTa
            clear hsrt hnd hm
            go_wp2_with (first
              | (go_at_call 17
                 with_reducible refine (one_len w _ HSN HT7).mono ?_
                 rintro e w8 ⟨rfl, rfl⟩))
            go_roundw
            case rel => exact ⟨k + 1, S, by go_num, by omega, by omega, HTa, HMa⟩
            case measure => simp [intOf]; omega
    · go_wp2
      go_ret
      exact ⟨rfl, HT.out.bel⟩
end
end Go.Proofs.Ytdcohhfbifiemaa
