import Derived.Test.YtlmdbcmaophhnaaDoorNC
namespace Go.Proofs.YtlmdbcmaophhnaaDoor
open Go.RowKit

theorem kinds_n (W : World) (A : Option Addr) (c n : Nat) (ks : List Int) (b : Bool) (hk : Hid (Lies W W.heap.size A (ks.map (Value.int .i64)))) (hn : ks.length = n) (hl : n ≤ 1000000) (hb : Hid (kindsB (ks.map kfd) = b)) :
    Calls Tryd.prog 34 #[.slice A n c] W fun e w' => e = .returned (.bool b) ∧ W = w' := by
  subst hn
  refine (kinds_any W A c ks hk.out hl).mono ?_
  rw [hb.out]
  exact fun e w' h => h
theorem fault_n (W : World) (B : Nat) (v : Value) (f : Fd) (er : Int) (hv : Hid (FdV W B v f)) (hB : B ≤ W.heap.size) (hk : Hid (1 ≤ f.kind ∧ f.kind ≤ 6)) (he : Hid (fault f = er)) :
    Calls Tryd.prog 35 #[v] W fun e w' => e = .returned (.int .i64 er) ∧ Hid (Below W.heap.size W w') := by
  refine (fault_any W B v f hv.out hB hk.out).mono ?_
  rw [he.out]
  exact fun e w' h => h
theorem one_n (W : World) (B : Nat) (v : Value) (f : Fd) (n : Nat) (hv : Hid (FdV W B v f)) (hB : B ≤ W.heap.size) (hk : Hid (1 ≤ f.kind ∧ f.kind ≤ 6)) (hf : Hid (fault f = 0)) (hn : (enc f).length = n) :
    Calls Tryd.prog 36 #[v] W fun e w' => ∃ A c, e = .returned (.slice A n c) ∧ Hid (w'.ownsRow W.heap.size 5 1 (.slice A n c) n (bv (enc f))) ∧ Hid (Below W.heap.size W w') := by
  subst hn
  exact one_any W B v f hv.out hB hk.out hf.out

set_option maxHeartbeats 4000000 in
set_option maxRecDepth 100000 in
theorem rwrite_any (w : World) (A : Option Addr) (c : Nat) (l : List Fd) (hl : FdsV w w.heap.size A l) (hn : l.length ≤ 1000) :
    Calls Tryd.prog 22 #[.slice A l.length c] w (WriteR w (writeF l)) := by
  have HL := hid hl
  have HWF := hid (fds_wf hl)
  clear hl
  obtain ⟨i3, hi3, hz3, hz31, hz32⟩ := info_parts Tryd.info3
  obtain ⟨i5, hi5, hz5, hz51, hz52⟩ := info_parts Tryd.info5
  go_enter Tryd.func22, Tryd.ntmps22
  go_wp2
  go_loopw [13, 4] (fun i v wr => ∃ (k : Nat) (A' : Option Addr) (c' : Nat), k ≤ l.length ∧ i = .int .i64 k ∧ v = .slice A' k c' ∧ wr.ownsRow w.heap.size 3 1 (.slice A' k c') k ((l.take k).map (fun f => Value.int .i64 f.kind)) ∧ Below w.heap.size w wr) (fun i _ _ => l.length - (intOf i).toNat)
  case atStart => exact ⟨0, none, 0, Nat.zero_le _, rfl, rfl, World.ownsRow_nil _ _ _ _, Below.refl _ _⟩
  case round =>
    obtain ⟨k, A', c', hk, rfl, rfl, hro, hbw⟩ := hrel
    have HRO := hid hro
    have HBW := hid hbw
    have hszr : w.heap.size ≤ wr.heap.size := hbw.size
    by_cases hlt : k < l.length
    · obtain ⟨b, o, rfl, hb3, hcells⟩ := HL.out (by intro e; rw [e] at hlt; simp at hlt)
      obtain ⟨tA, tc, lA, lc, hfd, e0, e1, e2, e3⟩ := hcells k hlt
      have c0 := (hbw.cell (p := ⟨b, _, none⟩) hb3).trans e0
      have c1 := (hbw.cell (p := ⟨b, _, none⟩) hb3).trans e1
      have c2' := (hbw.cell (p := ⟨b, _, none⟩) hb3).trans e2
      have c3' := (hbw.cell (p := ⟨b, _, none⟩) hb3).trans e3
      clear e0 e1 e2 e3 hcells hfd
      have HT : Hid (l.take (k + 1) = l.take k ++ [l[k]]) := take_snoc _ _ hlt
      obtain ⟨f, Hf⟩ : ∃ f, Hid (l[k] = f) := ⟨_, hid rfl⟩
      have hwf := HWF.out l[k] (List.getElem_mem hlt)
      rw [Hf.out] at c0 c1 c2' c3' HT hwf
      obtain ⟨hfn, hfk, _⟩ := hwf
      clear hro hbw Hf
      go_wp2_with (first
        | (at_builtin
           (
             have hl7 := lit_lies (wr.alloc (.cells #[.int .i64 f.kind, .int .u32 f.n, .slice tA f.text.length tc, .slice lA f.list.length lc] 50)) #[.int .i64 f.kind] 3 (0, 0) (wr.heap.size + 1) (by simp)
             refine wpList_app _ rfl (.tmp 17) (.tmp 20) 64 rfl w.heap.size 3 i3 _ 1 8 Tryd.underlying64 hi3 hz3 hz31 hz32 rfl (by decide) A' k c' ((l.take k).map (fun f => Value.int .i64 f.kind)) ?a1 ?a2 ?aB ?aA 1 1 ?an ?a3 ?a4 ?a5 ?a6 ?g3 ?g4 ?g5 ?_
             case a2 => exact (HRO.out.alloc _).alloc _
             case aB => exact wr.heap.size + 1 + 1
             case aA => exact some ⟨wr.heap.size + 1, 0, none⟩
             case an => exact (#[.int .i64 f.kind] : Array Value).toList
             case a1 => rfl
             case a5 => exact hl7
             case a3 => rfl
             case a4 => rfl
             case a6 => exact one1 _
             case g3 => unfold maxLen; omega
             case g4 => omega
             case g5 => simp; omega
             intro A8 c8 w4 ho4 hg4
             have HB4 := hid (kinds_fin rfl HRO.out HBW.out hg4).1
             have HO4 := hid ho4
             clear ho4 hg4 hl7)))
      go_roundw
      case rel =>
        refine ⟨k + 1, A8, c8, by omega, by go_num, rfl, ?_, HB4.out⟩
        rw [HT.out, List.map_append]
        exact HO4.out
      case measure => simp [intOf]; omega
    · have hd : l.take k = l := List.take_of_length_le (by omega)
      have hk' : k = l.length := by omega
      subst hk'
      rw [hd] at HRO
      have HKL : Hid (Lies wr wr.heap.size A' ((l.map Fd.kind).map (Value.int .i64))) := by
        have h := Lies.own HRO.out
        rw [List.map_map]
        exact h
      have hm2 : (l.map Fd.kind).length = l.length := by simp
      obtain ⟨kb, HKB⟩ : ∃ z, Hid (kindsB l = z) := ⟨_, hid rfl⟩
      have HKB2 : Hid (kindsB ((l.map Fd.kind).map kfd) = kb) := by show _ = _; rw [kindsB_kfd, HKB.out]
      clear hro hbw HRO
      cases kb with
      | false =>
        have HE : Hid (writeF l = (2, [])) := by show _ = _; rw [writeF, if_neg (by rw [HKB.out]; simp)]
        go_wp2_with (first
          | (go_at_call 34
             ((with_reducible refine (kinds_n _ _ c' l.length (l.map Fd.kind) false HKL hm2 (by omega) HKB2).mono ?_); rintro e w' ⟨rfl, rfl⟩)))
        go_ret2
        rw [HE.out]
        exact writeR_err _ _ _ HBW.out
      | true =>
        have HE : Hid (writeF l = wrF [] l) := by show _ = _; rw [writeF, if_pos HKB.out]
        go_wp2_with (first
          | (go_at_call 34
             ((with_reducible refine (kinds_n _ _ c' l.length (l.map Fd.kind) true HKL hm2 (by omega) HKB2).mono ?_); rintro e w' ⟨rfl, rfl⟩)))
        go_loopw [28, 7] (fun i v wr => ∃ (k n : Nat) (A' : Option Addr) (c' : Nat) (acc : List UInt8), k ≤ l.length ∧ i = .int .i64 k ∧ v = .slice A' n c' ∧ wr.ownsRow w.heap.size 5 1 (.slice A' n c') n (bv acc) ∧ Below w.heap.size w wr ∧ n ≤ 33792 ∧ Hid (acc.length = n) ∧ Hid (wrF [] l = wrF acc (l.drop k))) (fun i _ _ => l.length - (intOf i).toNat)
        case atStart => exact ⟨0, 0, none, 0, [], Nat.zero_le _, rfl, rfl, World.ownsRow_nil _ _ _ _, HBW.out, Nat.zero_le _, rfl, rfl⟩
        case round =>
          clear HKL HKB2 HBW hszr
          obtain ⟨k, n, A9, c9, acc, hk, rfl, rfl, hro, hbw, hn3, HN, HP⟩ := hrel
          have HRO := hid hro
          have HBW := hid hbw
          have hszs : w.heap.size ≤ wr.heap.size := hbw.size
          by_cases hlt : k < l.length
          · obtain ⟨b, o, rfl, hb3, hcells⟩ := HL.out (by intro e; rw [e] at hlt; simp at hlt)
            obtain ⟨tA, tc, lA, lc, hfd, e0, e1, e2, e3⟩ := hcells k hlt
            have c0 := (hbw.cell (p := ⟨b, _, none⟩) hb3).trans e0
            have c1 := (hbw.cell (p := ⟨b, _, none⟩) hb3).trans e1
            have c2' := (hbw.cell (p := ⟨b, _, none⟩) hb3).trans e2
            have c3' := (hbw.cell (p := ⟨b, _, none⟩) hb3).trans e3
            clear e0 e1 e2 e3 hcells
            have hkk := (kindsB_iff l).1 HKB.out k hlt
            simp only [kindB, Bool.and_eq_true, decide_eq_true_eq] at hkk
            have HKK := hid hkk.1
            have HD : Hid (wrF [] l = wrF acc (l[k] :: l.drop (k + 1))) := by show _ = _; rw [HP.out, List.drop_eq_getElem_cons hlt]
            obtain ⟨f, Hf⟩ : ∃ f, Hid (l[k] = f) := ⟨_, hid rfl⟩
            have hwf := HWF.out l[k] (List.getElem_mem hlt)
            rw [Hf.out] at c0 c1 c2' c3' hwf HD HKK hfd
            obtain ⟨hfn, hfk, _⟩ := hwf
            have HFD1 : Hid (∀ o, FdV (wr.alloc o) w.heap.size (.agg #[.int .i64 f.kind, .int .u32 f.n, .slice tA f.text.length tc, .slice lA f.list.length lc]) f) := fun o => hfd.keep (hbw.alloc hszs _)
            obtain ⟨fa, HF⟩ : ∃ z, Hid (fault f = z) := ⟨_, hid rfl⟩
            clear hro hbw Hf hfd hkk HP
            by_cases h0 : fa = 0
            · subst h0
              obtain ⟨m, HM⟩ : ∃ z, Hid ((enc f).length = z) := ⟨_, hid rfl⟩
              have hm3 : m ≤ 33792 := by have := enc_len f HKK.out HF.out; rw [HM.out] at this; exact this
              by_cases hov : 33792 < n + m
              · have HE2 : Hid (wrF [] l = (6, [])) := by
                  show _ = _
                  rw [HD.out, wrF, if_pos HF.out, if_pos (by rw [List.length_append, HN.out, HM.out]; exact hov)]
                have t1 : (33792 : Int) < (n : Int) + m := by omega
                go_wp2_with (first
                  | (go_at_call 35
                     ((with_reducible refine (fault_n _ w.heap.size _ f 0 (hid (HFD1.out _)) (by simp; omega) HKK HF).mono ?_); rintro e w4 ⟨rfl, HB4x⟩)
                     have hx4 := box_below (Box.new wr 50 _) HB4x.out
                     have c40 : w4.cell? ⟨wr.heap.size, 0, none⟩ = some (.int .i64 f.kind) := hx4.cell 0
                     have c41 : w4.cell? ⟨wr.heap.size, 1, none⟩ = some (.int .u32 f.n) := hx4.cell 1
                     have c42 : w4.cell? ⟨wr.heap.size, 2, none⟩ = some (.slice tA f.text.length tc) := hx4.cell 2
                     have c43 : w4.cell? ⟨wr.heap.size, 3, none⟩ = some (.slice lA f.list.length lc) := hx4.cell 3
                     have HB4 : Hid (Below w.heap.size w w4) := (HBW.out.alloc hszs _).trans (HB4x.out.mono (by simp; omega))
                     have HFD4 := hid ((HFD1.out _).keep (HB4x.out.mono (by simp; omega)))
                     have HRO4 := hid (own_keep (HRO.out.alloc _) HB4x.out)
                     have hz4 : w.heap.size ≤ w4.heap.size := HB4.out.size
                     clear hx4 HB4x)
                  | (go_at_call 36
                     ((with_reducible refine (one_n _ w.heap.size _ f m HFD4 hz4 HKK HF HM.out).mono ?_); rintro e w5 ⟨A5, c5, rfl, HO5, HB5x⟩)
                     have HB5 : Hid (Below w.heap.size w w5) := HB4.out.trans (HB5x.out.mono hz4)
                     have HRO5 := hid (own_keep HRO4.out HB5x.out)
                     have HL5 := hid (Lies.own HO5.out)
                     have hz5' : w.heap.size ≤ w5.heap.size := HB5.out.size
                     clear HB5x)
                  | (at_builtin
                     (
                       refine wpList_app _ rfl (.tmp 37) (.tmp 39) 23 rfl w.heap.size 5 i5 _ 1 1 Tryd.underlying23 hi5 hz5 hz51 hz52 rfl (by decide) A9 n c9 (bv acc) rfl HRO5.out w5.heap.size A5 m c5 (bv (enc f)) rfl ?g1 HL5.out (bv_one _) ?g3 ?g4 ?g5 ?_
                       case g1 => rw [bv_length, HM.out, Nat.mul_one]
                       case g3 => unfold maxLen; omega
                       case g4 => omega
                       case g5 => omega
                       intro A8 c8 w8 ho8 hg8
                       have HB8 := hid (app_bel HB5.out HRO5.out hg8)
                       clear ho8 hg8)))
                go_ret2
                rw [HE.out, HE2.out]
                exact writeR_err _ _ _ HB8.out
              · have HE2 : Hid (wrF [] l = wrF (acc ++ enc f) (l.drop (k + 1))) := by
                  show _ = _
                  rw [HD.out, wrF, if_pos HF.out, if_neg (by rw [List.length_append, HN.out, HM.out]; exact hov)]
                have t1 : decide ((33792 : Int) < (n : Int) + m) = false := by simp; omega
                have hov' : n + m ≤ 33792 := by omega
                clear hov
                go_wp2_with (first
                  | (go_at_call 35
                     ((with_reducible refine (fault_n _ w.heap.size _ f 0 (hid (HFD1.out _)) (by simp; omega) HKK HF).mono ?_); rintro e w4 ⟨rfl, HB4x⟩)
                     have hx4 := box_below (Box.new wr 50 _) HB4x.out
                     have c40 : w4.cell? ⟨wr.heap.size, 0, none⟩ = some (.int .i64 f.kind) := hx4.cell 0
                     have c41 : w4.cell? ⟨wr.heap.size, 1, none⟩ = some (.int .u32 f.n) := hx4.cell 1
                     have c42 : w4.cell? ⟨wr.heap.size, 2, none⟩ = some (.slice tA f.text.length tc) := hx4.cell 2
                     have c43 : w4.cell? ⟨wr.heap.size, 3, none⟩ = some (.slice lA f.list.length lc) := hx4.cell 3
                     have HB4 : Hid (Below w.heap.size w w4) := (HBW.out.alloc hszs _).trans (HB4x.out.mono (by simp; omega))
                     have HFD4 := hid ((HFD1.out _).keep (HB4x.out.mono (by simp; omega)))
                     have HRO4 := hid (own_keep (HRO.out.alloc _) HB4x.out)
                     have hz4 : w.heap.size ≤ w4.heap.size := HB4.out.size
                     clear hx4 HB4x)
                  | (go_at_call 36
                     ((with_reducible refine (one_n _ w.heap.size _ f m HFD4 hz4 HKK HF HM.out).mono ?_); rintro e w5 ⟨A5, c5, rfl, HO5, HB5x⟩)
                     have HB5 : Hid (Below w.heap.size w w5) := HB4.out.trans (HB5x.out.mono hz4)
                     have HRO5 := hid (own_keep HRO4.out HB5x.out)
                     have HL5 := hid (Lies.own HO5.out)
                     have hz5' : w.heap.size ≤ w5.heap.size := HB5.out.size
                     clear HB5x)
                  | (at_builtin
                     (
                       refine wpList_app _ rfl (.tmp 37) (.tmp 39) 23 rfl w.heap.size 5 i5 _ 1 1 Tryd.underlying23 hi5 hz5 hz51 hz52 rfl (by decide) A9 n c9 (bv acc) rfl HRO5.out w5.heap.size A5 m c5 (bv (enc f)) rfl ?g1 HL5.out (bv_one _) ?g3 ?g4 ?g5 ?_
                       case g1 => rw [bv_length, HM.out, Nat.mul_one]
                       case g3 => unfold maxLen; omega
                       case g4 => omega
                       case g5 => omega
                       intro A8 c8 w8 ho8 hg8
                       have HB8 := hid (app_bel HB5.out HRO5.out hg8)
                       have HO8 := hid ho8
                       clear ho8 hg8)))
                go_roundw
                case rel =>
                  refine ⟨k + 1, n + m, A8, c8, acc ++ enc f, by omega, by go_num, by first | rfl | go_num, ?_, HB8.out, hov', ?_, HE2⟩
                  · rw [bv_append]; exact HO8.out
                  · show _ = _
                    rw [List.length_append, HN.out, HM.out]
                case measure => simp [intOf]; omega
            · have HE2 : Hid (wrF [] l = (fa, [])) := by
                show _ = _
                rw [HD.out, wrF, HF.out, if_neg h0]
              have t1 : (fa != 0) = true := by simpa using h0
              clear h0
              go_wp2_with (first
                | (go_at_call 35
                   ((with_reducible refine (fault_n _ w.heap.size _ f fa (hid (HFD1.out _)) (by simp; omega) HKK HF).mono ?_); rintro e w4 ⟨rfl, HB4x⟩)
                   have HB4 : Hid (Below w.heap.size w w4) := (HBW.out.alloc hszs _).trans (HB4x.out.mono (by simp; omega))
                   clear HB4x))
              go_ret2
              rw [HE.out, HE2.out]
              exact writeR_err _ _ _ HB4.out
          · have hd : l.drop k = [] := List.drop_of_length_le (by omega)
            have HE2 : Hid (wrF [] l = (0, acc)) := by show _ = _; rw [HP.out, hd, wrF]
            clear hd hro hbw
            go_wp2
            go_ret2
            rw [HE.out, HE2.out]
            refine ⟨A9, c9, ?_, ?_, HBW.out⟩
            · rw [HN.out]; rfl
            · show wr.ownsRow _ _ _ (.slice A9 acc.length c9) acc.length _
              rw [HN.out]
              exact HRO.out
end Go.Proofs.YtlmdbcmaophhnaaDoor
