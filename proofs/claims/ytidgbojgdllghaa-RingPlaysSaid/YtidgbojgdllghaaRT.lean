import Derived.Test.YtidgbojgdllghaaRQ
namespace Go.Proofs.Ytidgbojgdllghaa
open Go.RowKit

theorem quiet_v {P : Program} {f : FuncId} {args : Array Value} {W : World} {a : Nat} {v : Value} (hc : Calls P f args (W.drewN a) fun e w' => e = .returned v ∧ w' = W.drewN a) :
    Calls P f args (W.drewN a) fun e w'' => e = .returned v ∧ ∃ m, w'' = W.drewN m := hc.mono fun _ _ ⟨he, hm⟩ => ⟨he, a, hm⟩
theorem quiet_v2 {P : Program} {f : FuncId} {args : Array Value} {W : World} {a n : Nat} {v : Value} (hc : Calls P f args (W.drewN (a + n)) fun e w' => e = .returned v ∧ w' = W.drewN (a + n)) :
    Calls P f args (W.drewN (a + n)) fun e w'' => e = .returned v ∧ ∃ m, w'' = W.drewN (a + m) := hc.mono fun _ _ ⟨he, hm⟩ => ⟨he, n, hm⟩
theorem quiet_b {P : Program} {f : FuncId} {args : Array Value} {W : World} {a : Nat} {v : Value} (hc : Calls P f args (W.drewN a) fun e w' => ∃ k, e = .returned v ∧ w' = (W.drewN a).drewN k) :
    Calls P f args (W.drewN a) fun e w'' => e = .returned v ∧ ∃ m, w'' = W.drewN m := hc.mono fun _ _ ⟨k, he, hm⟩ => ⟨he, a + k, by rw [hm, World.drewN_drewN]⟩
theorem quiet_b2 {P : Program} {f : FuncId} {args : Array Value} {W : World} {a n : Nat} {v : Value} (hc : Calls P f args (W.drewN (a + n)) fun e w' => ∃ k, e = .returned v ∧ w' = (W.drewN (a + n)).drewN k) :
    Calls P f args (W.drewN (a + n)) fun e w'' => e = .returned v ∧ ∃ m, w'' = W.drewN (a + m) := hc.mono fun _ _ ⟨k, he, hm⟩ => ⟨he, n + k, by rw [hm, World.drewN_drewN, Nat.add_assoc]⟩

/-- A row that the law turns byte by byte. -/
structure Mt (w0 w : World) (A : Option Addr) (n c : Nat) : Prop where
  but : But (Value.slice A n c).ownBlock.toList w0 w
  row : 0 < n → ∃ g cur, A = some ⟨g, 0, none⟩ ∧ Box w g 5 cur ∧ ∀ j, j < n → ∃ z : Int, cur[j]? = some (.int .u8 z)
theorem Mt.start {w : World} {base n c : Nat} {A : Option Addr} {xs : List UInt8} (hn : xs.length = n) (h : w.ownsRow base 5 1 (.slice A n c) n (bv xs)) : Mt w w A n c := by
  subst hn
  refine ⟨But.refl _ _, fun hp => ?_⟩
  obtain ⟨g, rfl⟩ := own_addr h hp
  rcases h.2 with ⟨hv, _⟩ | ⟨g', cap, cur, hv, _, hx, _⟩
  · cases hv
  · injection hv with e1 _ _
    injection e1 with e1
    injection e1 with e1
    subst e1
    refine ⟨g, cur, rfl, hx, fun j hj => ⟨(xs[j].toNat : Int), ?_⟩⟩
    rw [← Box.cell hx]
    exact cell_own rfl h j hj
theorem Mt.store {w0 w : World} {n c g : Nat} {cur : Array Value} (m : Mt w0 w (some ⟨g, 0, none⟩) n c) (hx : Box w g 5 cur) (hc : ∀ j, j < n → ∃ z : Int, cur[j]? = some (.int .u8 z)) (k : Nat) (z : Int) : Mt w0 (w.setCell ⟨g, k, none⟩ (.int .u8 z)) (some ⟨g, 0, none⟩) n c := by
  refine ⟨m.but.store (.inl (by simp [Value.ownBlock])) _, fun _ => ⟨g, _, rfl, hx.store k _, fun j hj => ?_⟩⟩
  obtain ⟨y, hy⟩ := hc j hj
  by_cases hkj : k = j
  · subst hkj
    have hlt := (Array.getElem?_eq_some_iff.1 hy).1
    exact ⟨z, by simp [Array.getElem?_setIfInBounds, hlt]⟩
  · exact ⟨y, by rw [Array.getElem?_setIfInBounds, if_neg hkj]; exact hy⟩
theorem Mt.drewN {w0 w : World} {A : Option Addr} {n c : Nat} (m : Mt w0 w A n c) (d : Nat) : Mt w0 (w.drewN d) A n c := ⟨m.but.drewN d, m.row⟩

set_option maxHeartbeats 4000000 in
set_option maxRecDepth 100000 in
theorem plays_great (w : World) (size : Int) (A : Option Addr) (c n : Nat) (l : List OpV) (hl : Hid (OpsV w w.heap.size A l)) (hn : Hid (l.length = n)) (hl2 : n ≤ maxLen) (hg : Hid (greatO l = true)) :
    Calls Try.prog 3 #[.int .i64 size, .slice A n c] w fun e w' => e = .returned (.bool true) ∧ Hid (Below w.heap.size w w') := by
  go_enter Try.func3, Try.ntmps3
  go_wp2_with (first
    | (go_at_call 7
       ((with_reducible refine (alive_any _).mono ?_); rintro e w1 ⟨rfl, HB1⟩)
       have HL1 : Hid (OpsV w1 w1.heap.size A l) := ops_at hl HB1)
    | (go_at_call 8
       ((with_reducible refine (great_any _ A c n l true HL1 hn hl2 hg).mono ?_); rintro e w2 ⟨rfl, HB2⟩)))
  go_ret
  exact ⟨rfl, (bel_trans HB1 HB2).out⟩
set_option maxHeartbeats 4000000 in
set_option maxRecDepth 100000 in
theorem plays_bad (w : World) (size : Int) (A : Option Addr) (c n : Nat) (l : List OpV) (hl : Hid (OpsV w w.heap.size A l)) (hn : Hid (l.length = n)) (hl2 : n ≤ maxLen) (hg : Hid (greatO l = false)) (hs : size < 1 ∨ 65536 < size) :
    Calls Try.prog 3 #[.int .i64 size, .slice A n c] w fun e w' => e = .returned (.bool true) ∧ Hid (Below w.heap.size w w') := by
  go_enter Try.func3, Try.ntmps3
  go_wp2_with (first
    | (go_at_call 7
       ((with_reducible refine (alive_any _).mono ?_); rintro e w1 ⟨rfl, HB1⟩)
       have HL1 : Hid (OpsV w1 w1.heap.size A l) := ops_at hl HB1)
    | (go_at_call 8
       ((with_reducible refine (great_any _ A c n l false HL1 hn hl2 hg).mono ?_); rintro e w2 ⟨rfl, HB2⟩))
    | (go_at_call 9
       ((with_reducible refine (new_bad _ size hs).mono ?_); rintro e w3 ⟨rfl, rfl⟩))
    | (go_at_call 10
       ((with_reducible refine (rnew_bad _ size hs).mono ?_); rintro e w3 ⟨rfl, rfl⟩)))
  go_ret
  exact ⟨rfl, (bel_trans HB1 HB2).out⟩

set_option maxHeartbeats 8000000 in
set_option maxRecDepth 100000 in
theorem plays_walk (w : World) (size : Nat) (A : Option Addr) (c n : Nat) (l : List OpV) (hl : Hid (OpsV w w.heap.size A l)) (hn : Hid (l.length = n)) (hl2 : n ≤ maxLen) (hg : Hid (greatO l = false)) (hs1 : 1 ≤ size) (hs2 : size ≤ 65536)
    (hsz : Hid (∀ o ∈ l, o.2.2.length ≤ 140737488355328)) :
    Calls Try.prog 3 #[.int .i64 size, .slice A n c] w fun e w' => e = .returned (.bool true) ∧ Hid (Below w.heap.size w w') := by
  obtain ⟨i0, hi0, hz0, hz1, hz2⟩ := info_parts Try.info5
  have h200 := great_len hg.out
  rw [hn.out] at h200
  go_enter Try.func3, Try.ntmps3
  go_wp2_with (first
    | (go_at_call 7
       ((with_reducible refine (alive_any _).mono ?_); rintro e w1 ⟨rfl, HB1⟩)
       have HL1 : Hid (OpsV w1 w1.heap.size A l) := ops_at hl HB1)
    | (go_at_call 8
       ((with_reducible refine (great_any _ A c n l false HL1 hn hl2 hg).mono ?_); rintro e w2 ⟨rfl, HB2⟩)
       have HBw2 := bel_trans HB1 HB2
       have hz2' := HBw2.out.size)
    | (go_at_call 9
       ((with_reducible refine (new_any _ size hs1 hs2).mono ?_); rintro e w3 ⟨g, rfl, h, HR3, hg3, hh3, HB3⟩)
       have HBw3 := bel_trans HBw2 HB3
       have hlr := HR3.out.lt)
    | (go_at_call 10
       ((with_reducible refine (rnew_any _ size hs1 hs2).mono ?_); rintro e w4 ⟨gm, rfl, HM4, hgm4, HB4⟩)
       have HBw4 := bel_trans HBw3 HB4
       have hlm := (HM4.out 0).lt.1
       have hz4 := HB4.out.size
       have HR4 : Hid (Rg w4 g h size []) := HR3.out.keep (But.of_below HB4.out []) (by simp) (by simp)))
  have hlo1 : w.heap.size ≤ g := by omega
  have hlo2 : w.heap.size ≤ h := by omega
  have hlo3 : w.heap.size ≤ gm := by omega
  have hne1 : g ≠ gm := by omega
  have hne2 : h ≠ gm := by omega
  obtain ⟨M, HM⟩ : ∃ x, Hid (w4.heap.size = x) := ⟨_, hid rfl⟩
  have hgM : g < M := by rw [← HM.out]; omega
  have hhM : h < M := by rw [← HM.out]; omega
  have hmM : gm < M := by rw [← HM.out]; omega
  have hM4 : M ≤ w4.heap.size := by rw [HM.out]; exact Nat.le_refl _
  have hM1 : w.heap.size ≤ M := by omega
  clear hg3 hh3 hlr hgm4 hlm hz4 hz2'
  go_loopw [48] (fun i wr => ∃ (k : Nat), k ≤ n ∧ i = .int .i64 k ∧ M ≤ wr.heap.size ∧
    Hid (∃ q ob, Rg wr g h size q ∧ Rf wr M gm size q ob) ∧ Hid (Below w.heap.size w wr)) (fun i _ => n - (intOf i).toNat)
  case atStart => exact ⟨0, Nat.zero_le _, rfl, hM4, ⟨[], none, HR4.out, HM4.out M⟩, HBw4⟩
  case round =>
    obtain ⟨k, hk, rfl, hMr, HQQ, HBr⟩ := hrel
    obtain ⟨q, ob, hrg, hrf⟩ := HQQ.out
    have HRr := hid hrg
    have HFr := hid hrf
    have hqs := hrg.sizes.2.2
    have hobl := hrf.lt.2
    clear hrg hrf
    by_cases hlt : k < n
    · have hkl : k < l.length := by rw [hn.out]; exact hlt
      obtain ⟨b0, o0, rfl, hbw, hcells⟩ := hl.out (by intro e; rw [e] at hkl; simp at hkl)
      obtain ⟨tA, tc, hsl, e0, e1, e2⟩ := hcells k hkl
      have c0 := (HBr.out.cell (p := ⟨b0, _, none⟩) hbw).trans e0
      have c1' := (HBr.out.cell (p := ⟨b0, _, none⟩) hbw).trans e1
      have c2' := (HBr.out.cell (p := ⟨b0, _, none⟩) hbw).trans e2
      have hx47 := hsz.out _ (List.getElem_mem hkl)
      obtain ⟨bb, HBB⟩ : ∃ x, Hid (l[k].2.2 = x) := ⟨_, hid rfl⟩
      rw [HBB.out] at c2' hsl hx47
      obtain ⟨x, HX⟩ : ∃ x : Nat, Hid (bb.length = x) := ⟨_, hid rfl⟩
      rw [HX.out] at c2' hx47
      obtain ⟨kk, HKK⟩ : ∃ x : Int, Hid (l[k].1 = x) := ⟨_, hid rfl⟩
      obtain ⟨kn, HKN⟩ : ∃ x : Int, Hid (l[k].2.1 = x) := ⟨_, hid rfl⟩
      rw [HKK.out] at c0
      rw [HKN.out] at c1'
      have HSL := hid hsl
      have i1 : (k : Int) < n := by omega
      clear e0 e1 e2 hcells hsl
      obtain ⟨⟨out, m, q'⟩, HST⟩ : ∃ x, Hid (stepF size kk kn bb q = x) := ⟨_, hid rfl⟩
      obtain ⟨ol, HOL⟩ : ∃ x : Nat, Hid (out.length = x) := ⟨_, hid rfl⟩
      obtain ⟨lq, HLq⟩ : ∃ x : Nat, Hid (q'.length = x) := ⟨_, hid rfl⟩
      have hstl := step_len (k := kk) (n := kn) (b := bb) hqs
      rw [HST.out] at hstl
      simp only at hstl
      rw [HOL.out, HLq.out] at hstl
      obtain ⟨hol, hml, hql⟩ := hstl
      have HBo : Hid (Below w.heap.size w (wr.alloc (.cells #[.int .i64 kk, .int .i64 kn, .slice tA x tc] 34))) := HBr.out.alloc HBr.out.size _
      have HXo : Hid (Box (wr.alloc (.cells #[.int .i64 kk, .int .i64 kn, .slice tA x tc] 34)) wr.heap.size 34 #[.int .i64 kk, .int .i64 kn, .slice tA x tc]) := Box.new _ _ _
      have HAx : Hid (bb ≠ [] → ∀ a, tA = some a → a.block ≠ h) := slb_far HSL hlo2
      have HAm : Hid (bb ≠ [] → ∀ a, tA = some a → a.block ≠ gm ∧ ob ≠ some a.block) := fun hne a ha => by
        obtain ⟨bk, o, e2, hlt2, _⟩ := HSL.out.2.2.2 (by
          intro e3
          apply hne
          simpa [bv] using e3)
        subst ha
        injection e2 with e2
        subst e2
        refine ⟨fun e => by simp at e; omega, fun e => ?_⟩
        have := (hobl _ e).1
        simp at this
        omega
      have hszr := HBr.out.size
      have HSo := slb_at HSL HBo
      have hxo : (wr.alloc (.cells #[.int .i64 kk, .int .i64 kn, .slice tA x tc] 34)).heap.size = wr.heap.size + 1 := by simp
      have co2 := (box_below HXo.out ((Below.refl _ _).alloc (Nat.le_refl _) (.cells #[] 5))).cell 2
      go_wp2_with (first
        | (at_builtin
           (refine wpList_appx _ rfl (.tmp 52) (.tmp 54) 32 rfl (wr.heap.size + 1) 5 i0 _ 1 Try.underlying32 hi0 hz0 hz1 hz2 rfl (some ⟨wr.heap.size + 1, 0, none⟩) 0 0 [] rfl (lit_own (by simp) (by simp)) _ tA x tc (bv bb) rfl (by rw [bv_length, HX.out]) (HSo.out.2.2.2.alloc (Nat.le_refl _) _) (bv_one _) (by unfold maxLen; omega) (by omega) (by simp) ?_
            intro A4 c4 w4 ho4 hg4 hb4
            have HOi : Hid (w4.ownsRow (wr.heap.size + 1) 5 1 (.slice A4 x c4) x (bv bb)) := by
              show World.ownsRow _ _ _ _ _ _ _
              simpa using ho4
            have HK4 : Hid (But [] wr w4) := (((But.refl [] wr).alloc _).alloc _).grown hg4 (fun y hy => .inr (by simp [Value.ownBlock] at hy; omega))
            have HX4 : Hid (Box w4 wr.heap.size 34 #[.int .i64 kk, .int .i64 kn, .slice tA x tc]) := by
              refine (box_below HXo.out ((Below.refl _ _).alloc (Nat.le_refl _) _)).same (hg4.block _ (by simp; omega) (fun e => by simp [Value.ownBlock] at e))
            have hlt4 := HX4.out.lt
            have c40 := HX4.out.cell 0
            have c41 := HX4.out.cell 1
            have HR4' : Hid (Rg w4 g h size q) := HRr.out.keep HK4.out (by simp) (by simp)
            have HF4 : Hid (Rf w4 M gm size q ob) := HFr.out.keep HK4.out (by simp) (by simp)
            have HSi : Hid (SlB w4 w4.heap.size A4 c4 bb) := own_slb' HX.out HOi.out
            have HAi : Hid (bb ≠ [] → ∀ a, A4 = some a → a.block ≠ h) := fun _ a ha => by
              subst ha
              have := (HOi.out.lt a.block rfl).1
              omega
            have HBw4 : Hid (Below w.heap.size w w4) := HBr.out.trans (HK4.out.below hszr (by simp))
            have hsz4 := HK4.out.size
            clear ho4 hg4 hb4))
        | (go_at_call 11
           ((with_reducible refine (do_q _ kk kn x HR4' HSi HAi HX HST HOL).mono ?_); rintro e w7 ⟨A7, c7, rfl, HS7⟩)
           have HB7 : Hid (Below w.heap.size w w7) := HBw4.out.trans (HS7.out.but.below HBw4.out.size (by simp; omega))
           have HF7 : Hid (Rf w7 M gm size q ob) := HF4.out.keep HS7.out.but (not_two (Ne.symm hne1) (Ne.symm hne2)) (fun y hy => not_two (by have := (hobl y hy).1; omega) (by have := (hobl y hy).1; omega))
           have HX7 : Hid (Box w7 wr.heap.size 34 #[.int .i64 kk, .int .i64 kn, .slice tA x tc]) := HS7.out.but.box HX4.out (not_two (by omega) (by omega))
           have c70 := HX7.out.cell 0
           have c71 := HX7.out.cell 1
           have c72 := HX7.out.cell 2
           have HOi7 : Hid (w7.ownsRow (wr.heap.size + 1) 5 1 (.slice A4 x c4) x (bv bb)) := HS7.out.but.own HOi.out (fun y hy => not_two (by have := (HOi.out.lt y hy).1; omega) (by have := (HOi.out.lt y hy).1; omega))
           have HS7' := slb_at HSL HB7
           have hsz7 := HS7.out.but.size
           have hM7 : M ≤ w7.heap.size := by omega)
        | (go_at_call 12
           ((with_reducible refine (rdo_any _ kk kn HF7 hqs hs2 hM7 HS7' HAm x HX HST HOL).mono ?_); rintro e w8 ⟨A8, c8, rfl, HS8⟩)))
      obtain ⟨ob', hs8⟩ := HS8.out
      have HS8' := hid hs8
      have hlo8 : ∀ y ∈ gm :: ob.toList, w.heap.size ≤ y := fun y hy => by
        rcases List.mem_cons.1 hy with rfl | hy
        · exact hlo3
        · have := (hobl y (by simpa using hy)).1
          omega
      have hfar : ∀ y, wr.heap.size < y → y ∉ gm :: ob.toList := fun y hy hm => by
        rcases List.mem_cons.1 hm with rfl | hm
        · omega
        · have := (hobl y (by simpa using hm)).2
          omega
      have HB8 : Hid (Below w.heap.size w w8) := HB7.out.trans (hs8.but.below HB7.out.size hlo8)
      have HR8 : Hid (Rg w8 g h size q') := HS7.out.rg.keep hs8.but (fun hm => by
        rcases List.mem_cons.1 hm with e | hm
        · exact hne1 e
        · have := (hobl g (by simpa using hm)).1; omega) (fun hm => by
        rcases List.mem_cons.1 hm with e | hm
        · exact hne2 e
        · have := (hobl h (by simpa using hm)).1; omega)
      have HF8 : Hid (Rf w8 M gm size q' ob') := hs8.rf
      have HOb8 : Hid (w8.ownsRow w4.heap.size 5 1 (.slice A7 ol c7) ol (bv out)) := hs8.but.own HS7.out.own (fun y hy => hfar y (by have := (HS7.out.own.lt y hy).1; omega))
      have HOi8 : Hid (w8.ownsRow (wr.heap.size + 1) 5 1 (.slice A4 x c4) x (bv bb)) := hs8.but.own HOi7.out (fun y hy => hfar y (by have := (HOi7.out.lt y hy).1; omega))
      have hkb : ∀ y, (Value.slice A7 ol c7).ownBlock = some y → w4.heap.size ≤ y ∧ y < w7.heap.size := fun y hy => HS7.out.own.lt y hy
      have hki : ∀ y, (Value.slice A4 x c4).ownBlock = some y → wr.heap.size < y ∧ y < w4.heap.size := fun y hy => HOi.out.lt y hy
      have hobn : ∀ y, ob' = some y → y < wr.heap.size ∨ w7.heap.size ≤ y := fun y hy => (hs8.blk y hy).imp (fun e => (hobl y e).2) id
      have HX8 : Hid (Box w8 wr.heap.size 34 #[.int .i64 kk, .int .i64 kn, .slice tA x tc]) := hs8.but.box HX7.out (fun hm => by
        rcases List.mem_cons.1 hm with e | hm
        · omega
        · have := (hobl _ (by simpa using hm)).2; omega)
      have c82 := HX8.out.cell 2
      obtain ⟨Am, cm, hxm, hom, hobm⟩ := HF8.out
      rw [HLq.out] at hxm hom hobm
      have cm1 := hxm.cell 1
      have HXm := hid hxm
      have HOm := hid hom
      clear hs8 hxm hom c40 c41 c70 c71 c72
      have HLb : Hid (Lies w8 w8.heap.size A7 (bv out)) := Lies.own HOb8.out
      have HLw : Hid (Lies w8 w8.heap.size A8 (bv out)) := Lies.own HS8'.out.own
      have HLi : Hid (Lies w8 w8.heap.size A4 (bv bb)) := Lies.own HOi8.out
      have HLo : Hid (Lies w8 w8.heap.size tA (bv bb)) := (slb_at HSL HB8).out.2.2.2
      have hsz8 := HS8'.out.but.size
      obtain ⟨xr, HXR⟩ : ∃ z : Nat, Hid (size - lq = z) := ⟨_, hid rfl⟩
      have hxr : (size : Int) - lq = xr := by have := HXR.out; omega
      have HRd : Hid (∀ a, Rg (w8.drewN a) g h size q') := fun a => HR8.out.keep ((But.refl [] w8).drewN a) (by simp) (by simp)
      have Q1 : Hid (∀ a, Calls Try.prog 13 #[.slice A7 ol c7, .slice A8 ol c8] (w8.drewN a) fun e w' => ∃ k, e = .returned (.bool true) ∧ w' = (w8.drewN a).drewN k) := fun a =>
        bytes_q _ A7 A8 c7 c8 ol ol out out true (hid (HLb.out.drewN a)) (hid (HLw.out.drewN a)) HOL HOL (by unfold maxLen; omega) (by unfold maxLen; omega) (hid (by simp))
      have Q2 : Hid (∀ a, Calls Try.prog 14 #[.pointer (some ⟨g, 0, none⟩)] (w8.drewN a) fun e w' => e = .returned (.int .i64 lq) ∧ w' = w8.drewN a) := fun a => len_n _ lq HLq.out (hid (HRd.out a))
      have Q3 : Hid (∀ a, Calls Try.prog 15 #[.pointer (some ⟨g, 0, none⟩)] (w8.drewN a) fun e w' => e = .returned (.int .i64 size) ∧ w' = w8.drewN a) := fun a => cap_any _ (hid (HRd.out a))
      have Q4 : Hid (∀ a, Calls Try.prog 16 #[.pointer (some ⟨g, 0, none⟩)] (w8.drewN a) fun e w' => e = .returned (.int .i64 xr) ∧ w' = w8.drewN a) := fun a => room_n _ xr (by rw [HLq.out]; exact HXR.out) (hid (HRd.out a))
      have Q5 : Hid (∀ a, Calls Try.prog 13 #[.slice A4 x c4, .slice tA x tc] (w8.drewN a) fun e w' => ∃ k, e = .returned (.bool true) ∧ w' = (w8.drewN a).drewN k) := fun a =>
        bytes_q _ A4 tA c4 tc x x bb bb true (hid (HLi.out.drewN a)) (hid (HLo.out.drewN a)) HX HX (by unfold maxLen; omega) (by unfold maxLen; omega) (hid (by simp))
      go_quiet (first
        | (go_at_call 13; first | (with_reducible exact quiet_b2 (Q1.out _)) | (with_reducible exact quiet_b (Q1.out _)) | (with_reducible exact quiet_b2 (Q5.out _)) | (with_reducible exact quiet_b (Q5.out _)))
        | (go_at_call 14; first | (with_reducible exact quiet_v2 (Q2.out _)) | (with_reducible exact quiet_v (Q2.out _)))
        | (go_at_call 15; first | (with_reducible exact quiet_v2 (Q3.out _)) | (with_reducible exact quiet_v (Q3.out _)))
        | (go_at_call 16; first | (with_reducible exact quiet_v2 (Q4.out _)) | (with_reducible exact quiet_v (Q4.out _))))
      go_wp2
      obtain ⟨W9, hW9⟩ : ∃ z : World, z = w8.drewN nq := ⟨_, rfl⟩
      have hk9 : But [] w8 (w8.drewN nq) := (But.refl [] w8).drewN nq
      have HR9 : Hid (Rg (w8.drewN nq) g h size q') := HRd.out nq
      have HF9 : Hid (Rf (w8.drewN nq) M gm size q' ob') := HF8.out.keep hk9 (by simp) (by simp)
      have HB9 : Hid (Below w.heap.size w (w8.drewN nq)) := bel_drewN HB8.out nq
      have HOb9 : Hid ((w8.drewN nq).ownsRow w4.heap.size 5 1 (.slice A7 ol c7) ol (bv out)) := hk9.own HOb8.out (by simp)
      have HOi9 : Hid ((w8.drewN nq).ownsRow (wr.heap.size + 1) 5 1 (.slice A4 x c4) x (bv bb)) := hk9.own HOi8.out (by simp)
      have hM9 : M ≤ (w8.drewN nq).heap.size := by show M ≤ w8.heap.size; omega
      rw [← hW9] at HR9 HF9 HB9 HOb9 HOi9 hM9
      have hkib : ∀ y, (Value.slice A4 x c4).ownBlock = some y → y ∉ (Value.slice A7 ol c7).ownBlock.toList := fun y hy hm => by
        have h1 := (hki y hy).2
        have h2 := (hkb y (by simpa using hm)).1
        omega
      have hkM : ∀ y ∈ (Value.slice A7 ol c7).ownBlock.toList, M ≤ y := fun y hm => by
        have h2 := (hkb y (by simpa using hm)).1
        omega
      have hkM2 : ∀ y ∈ (Value.slice A4 x c4).ownBlock.toList, M ≤ y := fun y hm => by
        have h2 := (hki y (by simpa using hm)).1
        omega
      have hob1 : ∀ y, ob' = some y → y ∉ (Value.slice A7 ol c7).ownBlock.toList := fun y hy hm => by
        have h2 := hkb y (by simpa using hm)
        rcases hobn y hy with h1 | h1 <;> omega
      have hob2 : ∀ y, ob' = some y → y ∉ (Value.slice A4 x c4).ownBlock.toList := fun y hy hm => by
        have h2 := hki y (by simpa using hm)
        rcases hobn y hy with h1 | h1 <;> omega
      have HHkib := hid hkib
      have HHkM := hid hkM
      have HHkM2 := hid hkM2
      have HHob1 := hid hob1
      have HHob2 := hid hob2
      clear hkib hkM hkM2 hob1 hob2 hkb hki hobn hfar hlo8 c82 cm1 hk9
      go_loopw [119] (fun i w9 => ∃ k1 : Nat, k1 ≤ ol ∧ i = .int .i64 k1 ∧ Hid (Mt W9 w9 A7 ol c7)) (fun i _ => ol - (intOf i).toNat)
      case atStart => exact ⟨0, Nat.zero_le _, rfl, by rw [← hW9]; exact Mt.start HOL.out HOb9.out⟩
      case round =>
        obtain ⟨k1, hk1, rfl, HM1⟩ := hrel
        by_cases hlt1 : k1 < ol
        · obtain ⟨gb, cur, hA7, hbx, hz⟩ := HM1.out.row (by omega)
          subst hA7
          obtain ⟨z, hz2⟩ := hz k1 hlt1
          have cc : wr.cell? ⟨gb, k1, none⟩ = some (.int .u8 z) := by rw [hbx.cell]; exact hz2
          have ff : wr.frozen? ⟨gb, k1, none⟩ = false := hbx.frozen k1
          have HBX := hid hbx
          have HZ := hid hz
          have i2 : (k1 : Int) < ol := by omega
          clear hbx hz hz2
          go_wp2
          go_roundw
          case rel => exact ⟨k1 + 1, by omega, by go_num, HM1.out.store HBX.out HZ.out k1 _⟩
          case measure => simp [intOf]; omega
        · have HK1 := hid HM1.out.but
          have HRb : Hid (Rg wr g h size q') := HR9.out.keep HK1.out (fun hm => by have := HHkM.out _ hm; omega) (fun hm => by have := HHkM.out _ hm; omega)
          have HFb : Hid (Rf wr M gm size q' ob') := HF9.out.keep HK1.out (fun hm => by have := HHkM.out _ hm; omega) HHob1.out
          have HBb : Hid (Below w.heap.size w wr) := HB9.out.trans (HK1.out.below HB9.out.size (fun y hm => by have := HHkM.out _ hm; omega))
          have HOb : Hid (∃ b, wr.ownsRow b 5 1 (.slice A4 x c4) x (bv bb)) := ⟨_, HK1.out.own HOi9.out HHkib.out⟩
          have hMb : M ≤ wr.heap.size := Nat.le_trans hM9 HK1.out.size
          obtain ⟨wb, hwb⟩ : ∃ z : World, z = wr := ⟨_, rfl⟩
          rw [← hwb] at HRb HFb HBb HOb hMb
          have j9 : ¬ ((k1 : Int) < ol) := by omega
          clear HK1 HM1
          go_wp2
          go_loopw [133] (fun i w9 => ∃ k2 : Nat, k2 ≤ x ∧ i = .int .i64 k2 ∧ Hid (Mt wb w9 A4 x c4)) (fun i _ => x - (intOf i).toNat)
          case atStart =>
            obtain ⟨bs, hos⟩ := HOb.out
            exact ⟨0, Nat.zero_le _, rfl, by rw [← hwb]; exact Mt.start HX.out hos⟩
          case round =>
            obtain ⟨k2, hk2, rfl, HM2⟩ := hrel
            by_cases hlt2 : k2 < x
            · obtain ⟨gb, cur, hA4, hbx, hz⟩ := HM2.out.row (by omega)
              subst hA4
              obtain ⟨z, hz2⟩ := hz k2 hlt2
              have cc : wr.cell? ⟨gb, k2, none⟩ = some (.int .u8 z) := by rw [hbx.cell]; exact hz2
              have ff : wr.frozen? ⟨gb, k2, none⟩ = false := hbx.frozen k2
              have HBX := hid hbx
              have HZ := hid hz
              have i2 : (k2 : Int) < x := by omega
              clear hbx hz hz2
              go_wp2
              go_roundw
              case rel => exact ⟨k2 + 1, by omega, by go_num, HM2.out.store HBX.out HZ.out k2 _⟩
              case measure => simp [intOf]; omega
            · have HK2 := hid HM2.out.but
              have HRc : Hid (Rg wr g h size q') := HRb.out.keep HK2.out (fun hm => by have := HHkM2.out _ hm; omega) (fun hm => by have := HHkM2.out _ hm; omega)
              have HFc : Hid (Rf wr M gm size q' ob') := HFb.out.keep HK2.out (fun hm => by have := HHkM2.out _ hm; omega) HHob2.out
              have HBc : Hid (Below w.heap.size w wr) := HBb.out.trans (HK2.out.below HBb.out.size (fun y hm => by have := HHkM2.out _ hm; omega))
              have hMc : M ≤ wr.heap.size := Nat.le_trans hMb HK2.out.size
              have j9 : ¬ ((k2 : Int) < x) := by omega
              clear HK2 HM2
              go_wp2
              clear hobm HXm HOm
              obtain ⟨An, cn, hxn, hon, _⟩ := HFc.out
              rw [HLq.out] at hxn hon
              have HXn : Hid (Box wr.drew gm 42 #[.int .i64 size, .slice An lq cn]) := hxn
              have HOn : Hid (wr.drew.ownsRow M 5 1 (.slice An lq cn) lq (bv q')) := hon
              have cn0 : wr.drew.cell? ⟨gm, 1, none⟩ = some (.slice An lq cn) := HXn.out.cell 1
              have HRp : Hid (Rg wr.drew g h size q') := HRc.out.keep ((But.refl [] wr).drew) (by simp) (by simp)
              have HDs : Hid (had (size : Int) q'.length = lq) := by show _ = _; rw [had_nat, HLq.out]; omega
              have HDt : Hid (q'.take lq = q') := by show _ = _; rw [← HLq.out]; exact List.take_length
              have hBc := HBc.out.size
              clear hxn hon
              go_region_law (first
                | (go_simp
                   go_at_call 17
                   ((with_reducible refine (peek_n wr.drew size lq HDs.out HDt.out HRp).mono ?_); rintro e w10 ⟨A10, c10, rfl, HO10, HB10⟩)
                   have hx10 := box_below HXn.out HB10.out
                   have c100 : w10.cell? ⟨gm, 1, none⟩ = some (.slice An lq cn) := hx10.cell 1
                   have HOn10 := hid (own_keep HOn.out HB10.out)
                   have HRq : Hid (Rg w10 g h size q') := HRp.out.keep (But.of_below HB10.out []) (by simp) (by simp)
                   have HFq : Hid (Rf w10 M gm size q' ob') := HFc.out.keep ((But.refl [] wr).drew.same (But.of_below HB10.out [])) (by simp) (by simp)
                   have HBq : Hid (Below w.heap.size w w10) := HBc.out.trans (((Below.refl wr.heap.size wr).drew.trans HB10.out).mono hBc)
                   have hMq : M ≤ w10.heap.size := Nat.le_trans hMc HB10.out.size
                   clear hx10)
                | (go_simp
                   go_at_call 13
                   ((with_reducible refine (bytes_q w10 A10 An c10 cn lq lq q' q' true (hid (Lies.own HO10.out)) (hid (Lies.own HOn10.out)) HLq HLq (by unfold maxLen; omega) (by unfold maxLen; omega) (hid (by simp))).mono ?_); rintro e w11 ⟨d, rfl, rfl⟩)))
              all_goals
                go_wp2
                go_roundw
                case rel => exact ⟨k + 1, by omega, by go_num, hMq, ⟨q', ob', HRq.out.keep ((But.refl [] w10).drewN d) (by simp) (by simp), HFq.out.keep ((But.refl [] w10).drewN d) (by simp) (by simp)⟩, bel_drewN HBq.out d⟩
                case measure => simp [intOf]; omega
    · go_wp2
      go_ret
      exact ⟨rfl, HBr⟩
end Go.Proofs.Ytidgbojgdllghaa
