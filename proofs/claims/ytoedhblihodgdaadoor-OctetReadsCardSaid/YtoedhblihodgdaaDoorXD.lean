import Derived.Test.YtoedhblihodgdaaDoorXC
import Derived.Test.YtoedhblihodgdaaDoorWU
namespace Go.Proofs.YtoedhblihodgdaaDoor
open Go.RowKit

theorem Tryd.info3 : (Tryd.prog.info? 3).map (fun i => (i.zero, i.size, i.bytes)) = some (some (.int .i64 0), 1, 8) := by kernel_rfl

theorem own_slb {w : World} {base n c : Nat} {A : Option Addr} {bs : List UInt8} (h : w.ownsRow base 5 1 (.slice A bs.length c) bs.length (bv bs)) : SlB w w.heap.size A c bs := by
  have hc := own_caps h
  refine ⟨hc.1, hc.2, ?_, Lies.own h⟩
  rintro rfl
  rcases h.2 with ⟨hv, _⟩ | ⟨g, cap, cur, hv, _⟩
  · injection hv
  · injection hv with hv
    cases hv
theorem write_b (W : World) (A : Option Addr) (c n : Nat) (l : List Fd) (er : Int) (bs : List UInt8) (hX : Hid (writeF l = (er, bs))) (hn : l.length = n) (hF : Hid (FdsV W W.heap.size A l)) (hc : n ≤ c) (hc2 : c ≤ maxLen) (m : Nat) (hm : bs.length = m) :
    Calls Tryd.prog 11 #[.slice A n c] W fun e w2 => ∃ A1 c1, e = .returned (.tuple #[.slice A1 m c1, .int .i64 er]) ∧ Hid (SlB w2 w2.heap.size A1 c1 bs) ∧ Hid (Below W.heap.size W w2) := by
  subst hn; subst hm
  refine (write_any W A c l hF.out hc hc2).mono ?_
  rw [hX.out]
  rintro e w2 ⟨A1, c1, rfl, ho, hb⟩
  exact ⟨A1, c1, rfl, own_slb (n := 0) ho, hb⟩
theorem same_n (W : World) (A A2 : Option Addr) (c c2 n m : Nat) (xs ys : List Fd) (hx : Hid (FdsV W W.heap.size A xs)) (hy : Hid (FdsV W W.heap.size A2 ys)) (hn : xs.length = n) (hm : ys.length = m) (hl : n ≤ 1000) (hl2 : m ≤ 1000) (he : Hid (xs = ys)) :
    Calls Tryd.prog 14 #[.slice A n c, .slice A2 m c2] W fun e w' => e = .returned (.bool true) ∧ Hid (Below W.heap.size W w') := by
  subst hn; subst hm
  refine (same_any W _ _ A A2 c c2 xs ys hx.out hy.out (by unfold maxLen; omega) (by unfold maxLen; omega)).mono ?_
  rintro e w2 ⟨rfl, n, rfl⟩
  rw [he.out]
  exact ⟨by simp, bel_drewN (Below.refl _ _) n⟩
theorem own_n (W : World) (A : Option Addr) (c n : Nat) (l : List Fd) (hl : Hid (FdsV W W.heap.size A l)) (hs : Hid (Sized l)) (hn : l.length = n) (h1 : n ≤ 1000) :
    Calls Tryd.prog 19 #[.slice A n c] W fun e w2 => ∃ A1 c1, e = .returned (.slice A1 n c1) ∧ Hid (FdsV w2 w2.heap.size A1 (l.map ownF)) ∧ Hid (Below W.heap.size W w2) := by
  subst hn
  exact own_any W A c l hl.out hs.out h1
theorem one1 (k : Int) : ∀ u ∈ (#[Value.int .i64 k] : Array Value).toList, u.oneCell' = true := by
  intro u hu
  simp only [List.mem_cons, List.mem_nil_iff, or_false] at hu
  subst hu
  rfl
theorem kinds_fin {w3 wr w8 : World} {k : Nat} {A' : Option Addr} {c' : Nat} {xs : List Value} {o1 : Obj} {cs : Array Value} {g : Nat} (hg : g = wr.heap.size) (hro : wr.ownsRow w3.heap.size 3 1 (.slice A' k c') k xs) (hbw : Below w3.heap.size w3 wr)
    (hg8 : ((wr.alloc (.cells cs 37)).alloc o1).grownBy w8 (Value.slice A' k c').ownBlock) : Below w3.heap.size w3 w8 ∧ Box w8 g 37 cs := by
  subst hg
  have hro7 := (hro.alloc (.cells cs 37)).alloc o1
  have k8 : Kept w3.heap.size [3] ((wr.alloc (.cells cs 37)).alloc o1) w8 := (Kept.refl _ _ _).grown hg8 (fun k hk => by obtain ⟨a, cs, b⟩ := own_box hro7 k hk; exact ⟨a, 3, cs, by simp, b⟩)
  have hb7 : Below w3.heap.size w3 ((wr.alloc (.cells cs 37)).alloc o1) := (hbw.alloc hbw.size _).alloc (by have := hbw.size; simp; omega) _
  refine ⟨hb7.trans (k8.below (by have := hbw.size; simp; omega)), k8.box (box_below (Box.new wr 37 cs) ((Below.refl _ _).alloc (Nat.le_refl _) _)) (by decide)⟩

theorem size_k (W : World) (B : Nat) (v : Value) (f : Fd) (n : Nat) (hv : Hid (FdV W B v f)) (hB : B ≤ W.heap.size) (hX : Hid (writeF [f] = (0, enc f))) (hn : (enc f).length = n) :
    Calls Tryd.prog 15 #[v] W fun e w' => e = .returned (.int .i64 n) ∧ Hid (Below W.heap.size W w') := by
  subst hn
  exact size_any W B v f hv.out hB 0 (enc f) hX
/-- Of the round over field k of what is written. -/
theorem back_at {l : List Fd} (hok : okW l) (k : Nat) (hk : k < l.length) :
    Hid (writeF [l[k]] = (0, enc l[k])) ∧ (encs (l.take (k + 1))).length = (encs (l.take k)).length + (enc l[k]).length ∧ (encs (l.take k)).length + (enc l[k]).length ≤ 33792 := by
  have hkk := (kindsB_iff l).1 hok.1 k hk
  simp only [kindB, Bool.and_eq_true, decide_eq_true_eq] at hkk
  have hta : encs (l.take (k + 1)) = encs (l.take k) ++ enc l[k] := by rw [take_snoc _ _ hk, encs_append]; simp [encs]
  have h3 : encs l = encs (l.take (k + 1)) ++ encs (l.drop (k + 1)) := by rw [← encs_append, List.take_append_drop]
  have e := congrArg List.length h3
  rw [hta] at e
  simp only [List.length_append] at e
  have := hok.2.2
  refine ⟨size_ok hkk.1 (hok.2.1 _ (List.getElem_mem hk)) (by omega), by rw [hta, List.length_append], by omega⟩

set_option maxHeartbeats 4000000 in
set_option maxRecDepth 100000 in
theorem back_any (w : World) (A : Option Addr) (c : Nat) (l : List Fd) (m : Int) (hl : FdsV w w.heap.size A l) (hc : l.length ≤ c) (hc2 : c ≤ maxLen) (hs : Sized l) (hm : w.cell? ⟨0, 0, none⟩ = some (.int .i64 m)) :
    Calls Tryd.prog 5 #[.slice A l.length c] w fun e w' => e = .returned (.bool true) ∧ Below w.heap.size w w' := by
  have HL := hid hl
  have HS := hid hs
  have HM := hid hm
  have HWF := hid (fds_wf hl)
  have hpos : 0 < w.heap.size := World.block_lt_of_cell? w _ hm
  clear hl hs hm
  unfold maxLen at hc2
  by_cases hgr : great l = true
  · have HG := hid hgr
    clear hgr
    go_enter Tryd.func5, Tryd.ntmps5
    go_wp2_with (first
      | (go_at_call 8
         ((with_reducible refine (alive_any _ m HM.out).mono ?_); rintro e w1 ⟨rfl, hb⟩)
         have HB1 := hid hb
         have HL1 := fds_at HL HB1
         clear hb)
      | (go_at_call 9
         ((with_reducible refine (great_any _ _ A c l HL1.out (Nat.le_refl _) (by unfold maxLen; omega)).mono ?_); rintro e w2 ⟨rfl, hb⟩)
         rw [HG.out]
         have HB2 := bel_trans HB1 (hid hb)
         clear hb))
    go_ret
    exact ⟨rfl, HB2.out⟩
  · have hg : great l = false := by simpa using hgr
    have hle : l.length ≤ 100 := by
      simp only [great, Bool.or_eq_false_iff, decide_eq_false_iff_not] at hg
      omega
    have HG := hid hg
    clear hgr hg
    obtain ⟨⟨er, bs⟩, HX⟩ : ∃ x, Hid (writeF l = x) := ⟨_, hid rfl⟩
    by_cases her : er = 0
    · subst her
      have hok : okW l := writeF_zero (by rw [HX.out])
      have HBS : Hid (encs l = bs) := by
        have h := writeF_ok hok
        rw [HX.out] at h
        injection h with _ h
        exact h.symm
      have HRE : Hid (readF (l.map Fd.kind) bs = (0, l.map ownF)) := by
        rw [← HBS.out]
        exact readF_encs hok (fun f hf => (HWF.out f hf).1)
      have hb33 : bs.length ≤ 33792 := by
        have := hok.2.2
        rw [HBS.out] at this
        exact this
      have HOK := hid hok
      clear hok
      obtain ⟨i3, hi3, hz3, hz31, hz32⟩ := info_parts Tryd.info3
      go_enter Tryd.func5, Tryd.ntmps5
      go_wp2_with (first
        | (go_at_call 8
           ((with_reducible refine (alive_any _ m HM.out).mono ?_); rintro e w1 ⟨rfl, hb⟩)
           have HB1 := hid hb
           have HL1 := fds_at HL HB1
           clear hb)
        | (go_at_call 9
           ((with_reducible refine (great_any _ _ A c l HL1.out (Nat.le_refl _) (by unfold maxLen; omega)).mono ?_); rintro e w2 ⟨rfl, hb⟩)
           rw [HG.out]
           have HB2 := bel_trans HB1 (hid hb)
           have HL2 := fds_at HL HB2
           clear hb)
        | (go_at_call 11
           ((with_reducible refine (write_b _ A c l.length l 0 bs HX rfl HL2 hc (by unfold maxLen; omega) bs.length rfl).mono ?_); rintro e w3 ⟨A3, c3, rfl, HS3, HBy⟩)
           have HB3 := bel_trans HB2 HBy
           have HL3 := fds_at HL HB3))
      have hsz3 : w.heap.size ≤ w3.heap.size := HB3.out.size
      go_loopw [27, 5, 6] (fun i v s wr => ∃ (k : Nat) (A' : Option Addr) (c' : Nat), k ≤ l.length ∧ i = .int .i64 k ∧ v = .slice A' k c' ∧ s = .int .i64 (encs (l.take k)).length ∧ wr.ownsRow w3.heap.size 3 1 (.slice A' k c') k ((l.take k).map (fun f => Value.int .i64 f.kind)) ∧ Below w3.heap.size w3 wr) (fun i _ _ _ => l.length - (intOf i).toNat)
      case atStart => exact ⟨0, none, 0, Nat.zero_le _, rfl, rfl, rfl, World.ownsRow_nil _ _ _ _, Below.refl _ _⟩
      case round =>
        obtain ⟨k, A', c', hk, rfl, rfl, rfl, hro, hbw⟩ := hrel
        have HRO := hid hro
        have HBW := hid hbw
        have hszr : w3.heap.size ≤ wr.heap.size := hbw.size
        by_cases hlt : k < l.length
        · obtain ⟨b, o, rfl, hb3, hcells⟩ := HL3.out (by intro e; rw [e] at hlt; simp at hlt)
          obtain ⟨tA, tc, lA, lc, hfd, e0, e1, e2, e3⟩ := hcells k hlt
          have c0 := (hbw.cell (p := ⟨b, _, none⟩) hb3).trans e0
          have c1 := (hbw.cell (p := ⟨b, _, none⟩) hb3).trans e1
          have c2' := (hbw.cell (p := ⟨b, _, none⟩) hb3).trans e2
          have c3' := (hbw.cell (p := ⟨b, _, none⟩) hb3).trans e3
          clear e0 e1 e2 e3 hcells
          obtain ⟨HX1, hta, hfit⟩ := back_at HOK.out k hlt
          have HT : Hid (l.take (k + 1) = l.take k ++ [l[k]]) := take_snoc _ _ hlt
          have hwf := HWF.out l[k] (List.getElem_mem hlt)
          clear hro hbw HX HRE HOK HL HL1 HL2
          obtain ⟨f, Hf⟩ : ∃ f, Hid (l[k] = f) := ⟨_, hid rfl⟩
          rw [Hf.out] at hfd c0 c1 c2' c3' HT hwf HX1 hta hfit
          have HFD := hid hfd
          obtain ⟨hfn, hfk, _⟩ := hwf
          obtain ⟨a, Ha⟩ : ∃ z, Hid ((encs (l.take k)).length = z) := ⟨_, hid rfl⟩
          obtain ⟨a2, Ha2⟩ : ∃ z, Hid ((encs (l.take (k + 1))).length = z) := ⟨_, hid rfl⟩
          obtain ⟨n, Hn⟩ : ∃ z, Hid ((enc f).length = z) := ⟨_, hid rfl⟩
          rw [Ha.out, Ha2.out, Hn.out] at hta
          rw [Ha.out, Hn.out] at hfit
          rw [Ha.out]
          have HTA := hid hta
          clear hta hfd Hf Ha
          go_wp2_with (first
            | (at_builtin
               (
                 have hl7 := lit_lies (wr.alloc (.cells #[.int .i64 f.kind, .int .u32 f.n, .slice tA f.text.length tc, .slice lA f.list.length lc] 37)) #[.int .i64 f.kind] 3 (0, 0) (wr.heap.size + 1) (by simp)
                 refine wpList_app _ rfl (.tmp 31) (.tmp 34) 39 rfl w3.heap.size 3 i3 _ 1 8 Tryd.underlying39 hi3 hz3 hz31 hz32 rfl (by decide) A' k c' ((l.take k).map (fun f => Value.int .i64 f.kind)) ?a1 ?a2 ?aB ?aA 1 1 ?an ?a3 ?a4 ?a5 ?a6 ?g3 ?g4 ?g5 ?_
                 case a2 => exact (HRO.out.alloc _).alloc _
                 case aB => exact wr.heap.size + 1 + 1
                 case aA => exact some ⟨wr.heap.size + 1, 0, none⟩
                 case an => exact (#[.int .i64 f.kind] : Array Value).toList
                 case a1 => rfl
                 case a5 => exact hl7
                 case a3 => rfl
                 case a4 => rfl
                 case a6 => exact one1 _
                 case g3 => unfold maxLen; omega
                 case g4 => omega
                 case g5 => simp; omega
                 intro A8 c8 w4 ho4 hg4
                 obtain ⟨hb4, hx4⟩ := kinds_fin rfl HRO.out HBW.out hg4
                 have c40 : w4.cell? ⟨wr.heap.size, 0, none⟩ = some (.int .i64 f.kind) := hx4.cell 0
                 have c41 : w4.cell? ⟨wr.heap.size, 1, none⟩ = some (.int .u32 f.n) := hx4.cell 1
                 have c42 : w4.cell? ⟨wr.heap.size, 2, none⟩ = some (.slice tA f.text.length tc) := hx4.cell 2
                 have c43 : w4.cell? ⟨wr.heap.size, 3, none⟩ = some (.slice lA f.list.length lc) := hx4.cell 3
                 have HB4 := hid hb4
                 have HO4 := hid ho4
                 have HFD4 := hid (HFD.out.keep hb4)
                 have hz4 : w3.heap.size ≤ w4.heap.size := hb4.size
                 clear ho4 hg4 hb4 hx4 hl7))
            | (go_at_call 15
               ((with_reducible refine (size_k _ _ _ f n HFD4 hz4 HX1 Hn.out).mono ?_); rintro e w5 ⟨rfl, HB5⟩)))
          go_roundw
          case rel =>
            refine ⟨k + 1, A8, c8, by omega, by go_num, rfl, by rw [Ha2.out, HTA.out]; go_num, ?_, HB4.out.trans (HB5.out.mono hz4)⟩
            rw [HT.out, List.map_append]
            exact own_keep HO4.out HB5.out
          case measure => simp [intOf]; omega
        · have hd : l.take k = l := List.take_of_length_le (by omega)
          have hk' : k = l.length := by omega
          subst hk'
          rw [hd] at HRO ⊢
          rw [HBS.out]
          have HLr := fds_at HL3 HBW
          have HSr := slb_at HS3 HBW
          have HBr := bel_trans HB3 HBW
          have HMr := hm_below HM HBr hpos
          have hkl : Hid (Lies wr wr.heap.size A' ((l.map Fd.kind).map (Value.int .i64))) := by
            have h := Lies.own HRO.out
            rw [List.map_map]
            exact h
          have hm1 : (l.map ownF).length = l.length := by simp
          have hm2 : (l.map Fd.kind).length = l.length := by simp
          have HWO : Hid (∀ f ∈ l.map ownF, Wf f) := fun f hf => by
            obtain ⟨g, hg, rfl⟩ := List.mem_map.1 hf
            exact ownF_wf (HWF.out g hg)
          clear hro hbw HL1 HL2 HX
          go_wp2_with (first
            | (go_at_call 17
               ((with_reducible refine (read_n _ _ _ l.length (l.map Fd.kind) _ c3 bs.length bs m 0 (l.map ownF) l.length HRE hm1 hm2 rfl hkl (by omega) HSr HMr).mono ?_); rintro e w6 ⟨A6, c6, rfl, HR6, HB6⟩)
               have HL6 := fds_at HLr HB6
               have HF6 : Hid (FdsV w6 w6.heap.size A6 (l.map ownF)) := by
                 obtain ⟨cs, ho, hf⟩ := HR6.out
                 exact flat_fds ho hf HWO.out)
            | (go_at_call 19
               ((with_reducible refine (own_n _ _ c l.length l HL6 HS rfl (by omega)).mono ?_); rintro e w7 ⟨A7, c7, rfl, HF7, HB7⟩)
               have HF67 := fds_at HF6 HB7)
            | (go_at_call 14
               ((with_reducible refine (same_n _ _ _ _ _ l.length l.length (l.map ownF) (l.map ownF) HF67 HF7 hm1 hm1 (by omega) (by omega) (hid rfl)).mono ?_); rintro e w8 ⟨rfl, HB8⟩)))
          go_ret
          exact ⟨rfl, (bel_trans (bel_trans (bel_trans HBr HB6) HB7) HB8).out⟩
    · have HE : Hid (bs = []) := by
        have h := writeF_err l (by rw [HX.out]; exact her)
        rw [HX.out] at h
        exact h
      have HL0 : bs.length = 0 := congrArg List.length HE.out
      have t1 : (er != 0) = true := by simpa using her
      clear her
      go_enter Tryd.func5, Tryd.ntmps5
      go_wp2_with (first
        | (go_at_call 8
           ((with_reducible refine (alive_any _ m HM.out).mono ?_); rintro e w1 ⟨rfl, hb⟩)
           have HB1 := hid hb
           have HL1 := fds_at HL HB1
           clear hb)
        | (go_at_call 9
           ((with_reducible refine (great_any _ _ A c l HL1.out (Nat.le_refl _) (by unfold maxLen; omega)).mono ?_); rintro e w2 ⟨rfl, hb⟩)
           rw [HG.out]
           have HB2 := bel_trans HB1 (hid hb)
           have HL2 := fds_at HL HB2
           clear hb)
        | (go_at_call 11
           ((with_reducible refine (write_b _ A c l.length l er bs HX rfl HL2 hc (by unfold maxLen; omega) 0 HL0).mono ?_); rintro e w3 ⟨A3, c3, rfl, HS3, HBy⟩)
           have HB3 := bel_trans HB2 HBy))
      go_ret
      exact ⟨rfl, HB3.out⟩
end Go.Proofs.YtoedhblihodgdaaDoor
