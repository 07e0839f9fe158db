import Derived.Test.YtidgbojgdllghaaRM
namespace Go.Proofs.Ytidgbojgdllghaa
open Go.RowKit

/-- A ring that came of New behind block B. -/
structure RgB (w : World) (B g h size : Nat) (q : List UInt8) : Prop where
  rg : Rg w g h size q
  lo1 : B ≤ g
  lo2 : B ≤ h
theorem RgB.keep {w w' : World} {B g h size : Nat} {q : List UInt8} {L : List Nat} (r : RgB w B g h size q) (k : But L w w') (hg : g ∉ L) (hh : h ∉ L) : RgB w' B g h size q := ⟨r.rg.keep k hg hh, r.lo1, r.lo2⟩
theorem ops_at {w w' : World} {A : Option Addr} {l : List OpV} (h : Hid (OpsV w w.heap.size A l)) (hb : Hid (Below w.heap.size w w')) : Hid (OpsV w' w'.heap.size A l) := fun hn => by
  obtain ⟨b, o, e, hlt, hk⟩ := (OpsV.below h.out hb.out) hn
  refine ⟨b, o, e, by have := hb.out.size; omega, fun k hkl => ?_⟩
  obtain ⟨tA, tc, h0, h1⟩ := hk k hkl
  exact ⟨tA, tc, ⟨h0.1, h0.2.1, h0.2.2.1, h0.2.2.2.more hb.out.size⟩, h1⟩
/-- Two rings that share no block. -/
def Apart (g h g' h' : Nat) : Prop := g ≠ g' ∧ g ≠ h' ∧ h ≠ g' ∧ h ≠ h'

/-- What stands in the four rings. -/
structure Four (w : World) (B size : Nat) (gr hr gs hs ga ha gb hb : Nat) (q1 q2 : List UInt8) : Prop where
  r : RgB w B gr hr size q1
  s : RgB w B gs hs size q2
  a : RgB w B ga ha size q1
  b : RgB w B gb hb size q2
  rs : Apart gr hr gs hs
  ra : Apart gr hr ga ha
  rb : Apart gr hr gb hb
  sa : Apart gs hs ga ha
  sb : Apart gs hs gb hb
  ab : Apart ga ha gb hb
theorem Four.keep {w w' : World} {B size : Nat} {gr hr gs hs ga ha gb hb : Nat} {q1 q2 : List UInt8} {L : List Nat} (f : Four w B size gr hr gs hs ga ha gb hb q1 q2) (k : But L w w') (h1 : gr ∉ L) (h2 : hr ∉ L) (h3 : gs ∉ L) (h4 : hs ∉ L) (h5 : ga ∉ L) (h6 : ha ∉ L) (h7 : gb ∉ L) (h8 : hb ∉ L) : Four w' B size gr hr gs hs ga ha gb hb q1 q2 :=
  ⟨f.r.keep k h1 h2, f.s.keep k h3 h4, f.a.keep k h5 h6, f.b.keep k h7 h8, f.rs, f.ra, f.rb, f.sa, f.sb, f.ab⟩
theorem not_two {a b c : Nat} (h1 : a ≠ b) (h2 : a ≠ c) : a ∉ [b, c] := by
  intro h
  rcases List.mem_cons.1 h with h | h
  · exact h1 h
  · exact h2 (List.mem_singleton.1 h)
theorem Four.keep0 {w w' : World} {B size : Nat} {gr hr gs hs ga ha gb hb : Nat} {q1 q2 : List UInt8} (f : Four w B size gr hr gs hs ga ha gb hb q1 q2) (k : But [] w w') : Four w' B size gr hr gs hs ga ha gb hb q1 q2 :=
  f.keep k List.not_mem_nil List.not_mem_nil List.not_mem_nil List.not_mem_nil List.not_mem_nil List.not_mem_nil List.not_mem_nil List.not_mem_nil
/-- The first pair has taken a step. -/
theorem Four.step1 {w w2 w3 : World} {B size : Nat} {gr hr gs hs ga ha gb hb : Nat} {q1 q2 q' : List UInt8} (f : Four w B size gr hr gs hs ga ha gb hb q1 q2) (h1 : Rg w2 gr hr size q') (k1 : But [gr, hr] w w2) (h2 : Rg w3 ga ha size q') (k2 : But [ga, ha] w2 w3) : Four w3 B size gr hr gs hs ga ha gb hb q' q2 := by
  obtain ⟨e1, e2, e3, e4⟩ := f.rs
  obtain ⟨f1, f2, f3, f4⟩ := f.ra
  obtain ⟨g1, g2, g3, g4⟩ := f.rb
  obtain ⟨i1, i2, i3, i4⟩ := f.sa
  obtain ⟨j1, j2, j3, j4⟩ := f.ab
  refine ⟨⟨h1.keep k2 (not_two f1 f2) (not_two f3 f4), f.r.lo1, f.r.lo2⟩, (f.s.keep k1 (not_two (Ne.symm e1) (Ne.symm e3)) (not_two (Ne.symm e2) (Ne.symm e4))).keep k2 (not_two i1 i2) (not_two i3 i4), ⟨h2, f.a.lo1, f.a.lo2⟩, (f.b.keep k1 (not_two (Ne.symm g1) (Ne.symm g3)) (not_two (Ne.symm g2) (Ne.symm g4))).keep k2 (not_two (Ne.symm j1) (Ne.symm j3)) (not_two (Ne.symm j2) (Ne.symm j4)), f.rs, f.ra, f.rb, f.sa, f.sb, f.ab⟩
theorem Four.swap {w : World} {B size : Nat} {gr hr gs hs ga ha gb hb : Nat} {q1 q2 : List UInt8} (f : Four w B size gr hr gs hs ga ha gb hb q1 q2) : Four w B size gs hs gr hr gb hb ga ha q2 q1 := by
  obtain ⟨e1, e2, e3, e4⟩ := f.rs
  obtain ⟨i1, i2, i3, i4⟩ := f.ab
  exact ⟨f.s, f.r, f.b, f.a, ⟨Ne.symm e1, Ne.symm e3, Ne.symm e2, Ne.symm e4⟩, f.sb, f.sa, f.rb, f.ra, ⟨Ne.symm i1, Ne.symm i3, Ne.symm i2, Ne.symm i4⟩⟩

theorem do_q (w : World) {g h size c l m : Nat} {q b out q' : List UInt8} {A : Option Addr} (k n : Int) (bl : Nat) (hr : Hid (Rg w g h size q)) (hb : Hid (SlB w w.heap.size A c b)) (hA : Hid (b ≠ [] → ∀ a, A = some a → a.block ≠ h)) (hbl : Hid (b.length = bl)) (hs : Hid (stepF size k n b q = (out, m, q'))) (hl : Hid (out.length = l)) :
    Calls Try.prog 11 #[.pointer (some ⟨g, 0, none⟩), .agg #[.int .i64 k, .int .i64 n, .slice A bl c]] w fun e w' => ∃ A' c', e = .returned (.tuple #[.slice A' l c', .int .i64 m]) ∧ Hid (StepR w w' g h size out q' l A' c') :=
  do_any w k n hr hb hA bl hbl hs hl
theorem step_len {size : Nat} {k n : Int} {b q : List UInt8} (hq : q.length ≤ size) : (stepF size k n b q).1.length ≤ size ∧ (stepF size k n b q).2.1 ≤ size ∧ (stepF size k n b q).2.2.length ≤ size := by
  have := had_le n q.length
  unfold stepF
  repeat' split
  all_goals simp
  all_goals try omega

set_option maxHeartbeats 4000000 in
set_option maxRecDepth 100000 in
theorem two_great (w : World) (size : Int) (A A2 : Option Addr) (c n c2 n2 : Nat) (l : List OpV) (hl : Hid (OpsV w w.heap.size A l)) (hn : Hid (l.length = n)) (hl2 : n ≤ maxLen) (hg : Hid (greatO l = true)) :
    Calls Try.prog 5 #[.int .i64 size, .slice A n c, .slice A2 n2 c2] w fun e w' => e = .returned (.bool true) ∧ Hid (Below w.heap.size w w') := by
  go_enter Try.func5, Try.ntmps5
  go_wp2_with (first
    | (go_at_call 7
       ((with_reducible refine (alive_any _).mono ?_); rintro e w1 ⟨rfl, HB1⟩)
       have HL1 : Hid (OpsV w1 w1.heap.size A l) := ops_at hl HB1)
    | (go_at_call 8
       ((with_reducible refine (great_any _ A c n l true HL1 hn hl2 hg).mono ?_); rintro e w2 ⟨rfl, HB2⟩)))
  go_ret
  exact ⟨rfl, (bel_trans HB1 HB2).out⟩
set_option maxHeartbeats 4000000 in
set_option maxRecDepth 100000 in
theorem two_bad (w : World) (size : Int) (A A2 : Option Addr) (c n c2 n2 : Nat) (l : List OpV) (hl : Hid (OpsV w w.heap.size A l)) (hn : Hid (l.length = n)) (hl2 : n ≤ maxLen) (hg : Hid (greatO l = false)) (hs : size < 1 ∨ 65536 < size) :
    Calls Try.prog 5 #[.int .i64 size, .slice A n c, .slice A2 n2 c2] w fun e w' => e = .returned (.bool true) ∧ Hid (Below w.heap.size w w') := by
  go_enter Try.func5, Try.ntmps5
  go_wp2_with (first
    | (go_at_call 7
       ((with_reducible refine (alive_any _).mono ?_); rintro e w1 ⟨rfl, HB1⟩)
       have HL1 : Hid (OpsV w1 w1.heap.size A l) := ops_at hl HB1)
    | (go_at_call 8
       ((with_reducible refine (great_any _ A c n l false HL1 hn hl2 hg).mono ?_); rintro e w2 ⟨rfl, HB2⟩))
    | (go_at_call 9
       ((with_reducible refine (new_bad _ size hs).mono ?_); rintro e w3 ⟨rfl, rfl⟩)))
  go_ret
  exact ⟨rfl, (bel_trans HB1 HB2).out⟩

set_option maxHeartbeats 8000000 in
set_option maxRecDepth 100000 in
theorem two_walk (w : World) (size : Nat) (A A2 : Option Addr) (c n c2 n2 : Nat) (l : List OpV) (ts : List Bool) (hl : Hid (OpsV w w.heap.size A l)) (hn : Hid (l.length = n)) (hl2 : n ≤ maxLen) (hg : Hid (greatO l = false)) (hs1 : 1 ≤ size) (hs2 : size ≤ 65536)
    (ht : Hid (BoolsV w w.heap.size A2 ts)) (hn2 : Hid (ts.length = n2)) (ht2 : n2 ≤ maxLen) :
    Calls Try.prog 5 #[.int .i64 size, .slice A n c, .slice A2 n2 c2] w fun e w' => e = .returned (.bool true) ∧ Hid (Below w.heap.size w w') := by
  have h200 := great_len hg.out
  rw [hn.out] at h200
  unfold maxLen at ht2
  go_enter Try.func5, Try.ntmps5
  go_wp2_with (first
    | (go_at_call 7
       ((with_reducible refine (alive_any _).mono ?_); rintro e w1 ⟨rfl, HB1⟩)
       have HL1 : Hid (OpsV w1 w1.heap.size A l) := ops_at hl HB1)
    | (go_at_call 8
       ((with_reducible refine (great_any _ A c n l false HL1 hn hl2 hg).mono ?_); rintro e w2 ⟨rfl, HB2⟩)
       have HBw2 := bel_trans HB1 HB2
       have hz2 := HBw2.out.size)
    | (go_at_call 9
       ((with_reducible refine (new_any _ size hs1 hs2).mono ?_); rintro e w3 ⟨gr, rfl, hr, HR3, hgr, hhr, HB3⟩)
       have HBw3 := bel_trans HBw2 HB3
       have hlr := HR3.out.lt)
    | (go_at_call 9
       ((with_reducible refine (new_any _ size hs1 hs2).mono ?_); rintro e w4 ⟨gs, rfl, hs, HS4, hgs, hhs, HB4⟩)
       have HBw4 := bel_trans HBw3 HB4
       have hls := HS4.out.lt)
    | (go_at_call 9
       ((with_reducible refine (new_any _ size hs1 hs2).mono ?_); rintro e w5 ⟨ga, rfl, ha, HA5, hga, hha, HB5⟩)
       have HBw5 := bel_trans HBw4 HB5
       have hla := HA5.out.lt)
    | (go_at_call 9
       ((with_reducible refine (new_any _ size hs1 hs2).mono ?_); rintro e w6 ⟨gb, rfl, hb, HB6, hgb, hhb, HBx6⟩)
       have HBw6 := bel_trans HBw5 HBx6
       have hlb := HB6.out.lt))
  have HF6 : Hid (Four w6 w.heap.size size gr hr gs hs ga ha gb hb [] []) := by
    have k3 : But [] w3 w6 := (But.of_below HB4.out []).same ((But.of_below HB5.out []).same (But.of_below HBx6.out []))
    have k4 : But [] w4 w6 := (But.of_below HB5.out []).same (But.of_below HBx6.out [])
    have k5 : But [] w5 w6 := But.of_below HBx6.out []
    exact ⟨⟨HR3.out.keep k3 (by simp) (by simp), by omega, by omega⟩, ⟨HS4.out.keep k4 (by simp) (by simp), by omega, by omega⟩, ⟨HA5.out.keep k5 (by simp) (by simp), by omega, by omega⟩, ⟨HB6.out, by omega, by omega⟩,
      ⟨by omega, by omega, by omega, by omega⟩, ⟨by omega, by omega, by omega, by omega⟩, ⟨by omega, by omega, by omega, by omega⟩, ⟨by omega, by omega, by omega, by omega⟩, ⟨by omega, by omega, by omega, by omega⟩, ⟨by omega, by omega, by omega, by omega⟩⟩
  clear hgr hhr hgs hhs hga hha hgb hhb hlr hls hla hlb
  go_loopw [64] (fun i wr => ∃ k : Nat, k ≤ n ∧ i = .int .i64 k ∧ Hid (∃ q1 q2, Four wr w.heap.size size gr hr gs hs ga ha gb hb q1 q2) ∧ Hid (Below w.heap.size w wr)) (fun i _ => n - (intOf i).toNat)
  case atStart => exact ⟨0, Nat.zero_le _, rfl, ⟨[], [], HF6.out⟩, HBw6⟩
  case round =>
    obtain ⟨k, hk, rfl, HFF, HBr⟩ := hrel
    obtain ⟨q1, q2, hF⟩ := HFF.out
    have HF := hid hF
    clear hF
    by_cases hlt : k < n
    · have hkl : k < l.length := by rw [hn.out]; exact hlt
      obtain ⟨b0, o0, rfl, hbw, hcells⟩ := hl.out (by intro e; rw [e] at hkl; simp at hkl)
      obtain ⟨tA, tc, hsl, e0, e1, e2⟩ := hcells k hkl
      have c0 := (HBr.out.cell (p := ⟨b0, _, none⟩) hbw).trans e0
      have c1 := (HBr.out.cell (p := ⟨b0, _, none⟩) hbw).trans e1
      have c2 := (HBr.out.cell (p := ⟨b0, _, none⟩) hbw).trans e2
      obtain ⟨bb, HBB⟩ : ∃ x, Hid (l[k].2.2 = x) := ⟨_, hid rfl⟩
      rw [HBB.out] at c2 hsl
      obtain ⟨x, HX⟩ : ∃ x : Nat, Hid (bb.length = x) := ⟨_, hid rfl⟩
      rw [HX.out] at c2
      obtain ⟨kk, HKK⟩ : ∃ x : Int, Hid (l[k].1 = x) := ⟨_, hid rfl⟩
      obtain ⟨kn, HKN⟩ : ∃ x : Int, Hid (l[k].2.1 = x) := ⟨_, hid rfl⟩
      rw [HKK.out] at c0
      rw [HKN.out] at c1
      have HSL := hid hsl
      have i1 : (k : Int) < n := by omega
      clear e0 e1 e2 hcells hsl
      have HBo : Hid (Below w.heap.size w (wr.alloc (.cells #[.int .i64 kk, .int .i64 kn, .slice tA x tc] 34))) := HBr.out.alloc HBr.out.size _
      have HXo : Hid (Box (wr.alloc (.cells #[.int .i64 kk, .int .i64 kn, .slice tA x tc] 34)) wr.heap.size 34 #[.int .i64 kk, .int .i64 kn, .slice tA x tc]) := Box.new _ _ _
      have HFo : Hid (Four (wr.alloc (.cells #[.int .i64 kk, .int .i64 kn, .slice tA x tc] 34)) w.heap.size size gr hr gs hs ga ha gb hb q1 q2) := HF.out.keep0 ((But.refl [] wr).alloc _)
      have HSo := slb_at HSL HBo
      have hszr := HBr.out.size
      by_cases hk2 : k < n2
      · have hkt : k < ts.length := by rw [hn2.out]; exact hk2
        obtain ⟨bt, ot, rfl, hbt, hct⟩ := ht.out (by intro e; have := congrArg List.length e; simp at this; rw [this] at hkt; simp at hkt)
        have ct0 : ∀ cs, (wr.alloc (.cells cs 34)).cell? ⟨bt, ot + k, none⟩ = some (.bool ts[k]) := fun cs => by
          rw [(HBr.out.alloc HBr.out.size _).cell (by exact hbt)]
          exact hct k _ (by simp [List.getElem?_map, List.getElem?_eq_getElem hkt])
        have j1 : (k : Int) < n2 := by omega
        obtain ⟨tb, HTB⟩ : ∃ x, Hid (ts[k] = x) := ⟨_, hid rfl⟩
        rw [HTB.out] at ct0
        clear hct
        cases tb
        · obtain ⟨⟨out, m, q'⟩, HST⟩ : ∃ x, Hid (stepF size kk kn bb q1 = x) := ⟨_, hid rfl⟩
          obtain ⟨ol, HOL⟩ : ∃ x : Nat, Hid (out.length = x) := ⟨_, hid rfl⟩
          obtain ⟨lq, HLq⟩ : ∃ x : Nat, Hid (q'.length = x) := ⟨_, hid rfl⟩
          obtain ⟨lo, HLo⟩ : ∃ x : Nat, Hid (q2.length = x) := ⟨_, hid rfl⟩
          have hstl := step_len (k := kk) (n := kn) (b := bb) (HFo.out.r.rg.sizes.2.2)
          rw [HST.out] at hstl
          simp only at hstl
          rw [HOL.out, HLq.out] at hstl
          obtain ⟨hol, hml, hql⟩ := hstl
          have hgx := HF.out.r.rg.lt
          have hgy := HF.out.a.rg.lt
          have HRx : Hid (Rg (wr.alloc (.cells #[.int .i64 kk, .int .i64 kn, .slice tA x tc] 34)) gr hr size q1) := HFo.out.r.rg
          have HRy : Hid (Rg (wr.alloc (.cells #[.int .i64 kk, .int .i64 kn, .slice tA x tc] 34)) ga ha size q1) := HFo.out.a.rg
          have HAx : Hid (bb ≠ [] → ∀ a, tA = some a → a.block ≠ hr) := slb_far HSL HF.out.r.lo2
          have HAy : Hid (bb ≠ [] → ∀ a, tA = some a → a.block ≠ ha) := slb_far HSL HF.out.a.lo2
          have hlo1 := HF.out.r.lo1
          have hlo2 := HF.out.r.lo2
          have hlo3 := HF.out.a.lo1
          have hlo4 := HF.out.a.lo2
          go_wp2_with (first
            | (go_at_call 11
               ((with_reducible refine (do_q _ kk kn x HRx HSo HAx HX HST HOL).mono ?_); rintro e w7 ⟨A7, c7, rfl, HS7⟩)
               have hb7 : Below w.heap.size (wr.alloc (.cells #[.int .i64 kk, .int .i64 kn, .slice tA x tc] 34)) w7 := HS7.out.but.below HBo.out.size (by simp; omega)
               have HB7 : Hid (Below w.heap.size w w7) := HBo.out.trans hb7
               have HRy7 : Hid (Rg w7 ga ha size q1) := HRy.out.keep HS7.out.but (by have := HF.out.ra; obtain ⟨_, _, _, _⟩ := this; simp; omega) (by have := HF.out.ra; obtain ⟨_, _, _, _⟩ := this; simp; omega)
               have hx7 := HS7.out.but.box HXo.out (by simp; omega)
               have c70 := hx7.cell 0
               have c71 := hx7.cell 1
               have c72 := hx7.cell 2
               have HS7' := slb_at HSL HB7
               clear hb7 hx7)
            | (go_at_call 11
               ((with_reducible refine (do_q _ kk kn x HRy7 HS7' HAy HX HST HOL).mono ?_); rintro e w8 ⟨A8, c8, rfl, HS8⟩)
               have HB8 : Hid (Below w.heap.size w w8) := HB7.out.trans (HS8.out.but.below HB7.out.size (by simp; omega))
               have HO7 : Hid (Lies w8 w8.heap.size A7 (bv out)) := Lies.own (HS8.out.but.own HS7.out.own (fun z hz => by have := (HS7.out.own.lt z hz).1; simp at this; simp; omega))
               have HO8 : Hid (Lies w8 w8.heap.size A8 (bv out)) := Lies.own HS8.out.own
               have HF8 : Hid (Four w8 w.heap.size size gr hr gs hs ga ha gb hb q' q2) := HFo.out.step1 HS7.out.rg HS7.out.but HS8.out.rg HS8.out.but)
            | (go_at_call 13
               ((with_reducible refine (bytes_q _ A7 A8 c7 c8 ol ol out out true HO7 HO8 HOL HOL (by unfold maxLen; omega) (by unfold maxLen; omega) (hid (by simp))).mono ?_); rintro e w9 ⟨d, rfl, rfl⟩)
               have HF9 : Hid (Four (w8.drewN d) w.heap.size size gr hr gs hs ga ha gb hb q' q2) := HF8.out.keep0 ((But.refl [] w8).drewN d)
               have HQr : Hid (Rg (w8.drewN d) gr hr size _) := HF9.out.r.rg
               have HQa : Hid (Rg (w8.drewN d) ga ha size _) := HF9.out.a.rg
               have HQs : Hid (Rg (w8.drewN d) gs hs size _) := HF9.out.s.rg
               have HQb : Hid (Rg (w8.drewN d) gb hb size _) := HF9.out.b.rg)
            | (go_at_call 14
               ((with_reducible refine (len_n _ _ HLq.out HQr).mono ?_); rintro e w10 ⟨rfl, rfl⟩))
            | (go_at_call 14
               ((with_reducible refine (len_n _ _ HLq.out HQa).mono ?_); rintro e w10 ⟨rfl, rfl⟩))
            | (go_at_call 14
               ((with_reducible refine (len_n _ _ HLo.out HQs).mono ?_); rintro e w10 ⟨rfl, rfl⟩))
            | (go_at_call 14
               ((with_reducible refine (len_n _ _ HLo.out HQb).mono ?_); rintro e w10 ⟨rfl, rfl⟩)))
          go_roundw
          case rel => exact ⟨k + 1, by omega, by go_num, ⟨_, _, HF9.out⟩, bel_drewN HB8.out d⟩
          case measure => simp [intOf]; omega
        · obtain ⟨⟨out, m, q'⟩, HST⟩ : ∃ x, Hid (stepF size kk kn bb q2 = x) := ⟨_, hid rfl⟩
          obtain ⟨ol, HOL⟩ : ∃ x : Nat, Hid (out.length = x) := ⟨_, hid rfl⟩
          obtain ⟨lq, HLq⟩ : ∃ x : Nat, Hid (q'.length = x) := ⟨_, hid rfl⟩
          obtain ⟨lo, HLo⟩ : ∃ x : Nat, Hid (q1.length = x) := ⟨_, hid rfl⟩
          have hstl := step_len (k := kk) (n := kn) (b := bb) (HFo.out.s.rg.sizes.2.2)
          rw [HST.out] at hstl
          simp only at hstl
          rw [HOL.out, HLq.out] at hstl
          obtain ⟨hol, hml, hql⟩ := hstl
          have hgx := HF.out.s.rg.lt
          have hgy := HF.out.b.rg.lt
          have HRx : Hid (Rg (wr.alloc (.cells #[.int .i64 kk, .int .i64 kn, .slice tA x tc] 34)) gs hs size q2) := HFo.out.s.rg
          have HRy : Hid (Rg (wr.alloc (.cells #[.int .i64 kk, .int .i64 kn, .slice tA x tc] 34)) gb hb size q2) := HFo.out.b.rg
          have HAx : Hid (bb ≠ [] → ∀ a, tA = some a → a.block ≠ hs) := slb_far HSL HF.out.s.lo2
          have HAy : Hid (bb ≠ [] → ∀ a, tA = some a → a.block ≠ hb) := slb_far HSL HF.out.b.lo2
          have hlo1 := HF.out.s.lo1
          have hlo2 := HF.out.s.lo2
          have hlo3 := HF.out.b.lo1
          have hlo4 := HF.out.b.lo2
          go_wp2_with (first
            | (go_at_call 11
               ((with_reducible refine (do_q _ kk kn x HRx HSo HAx HX HST HOL).mono ?_); rintro e w7 ⟨A7, c7, rfl, HS7⟩)
               have hb7 : Below w.heap.size (wr.alloc (.cells #[.int .i64 kk, .int .i64 kn, .slice tA x tc] 34)) w7 := HS7.out.but.below HBo.out.size (by simp; omega)
               have HB7 : Hid (Below w.heap.size w w7) := HBo.out.trans hb7
               have HRy7 : Hid (Rg w7 gb hb size q2) := HRy.out.keep HS7.out.but (by have := HF.out.sb; obtain ⟨_, _, _, _⟩ := this; simp; omega) (by have := HF.out.sb; obtain ⟨_, _, _, _⟩ := this; simp; omega)
               have hx7 := HS7.out.but.box HXo.out (by simp; omega)
               have c70 := hx7.cell 0
               have c71 := hx7.cell 1
               have c72 := hx7.cell 2
               have HS7' := slb_at HSL HB7
               clear hb7 hx7)
            | (go_at_call 11
               ((with_reducible refine (do_q _ kk kn x HRy7 HS7' HAy HX HST HOL).mono ?_); rintro e w8 ⟨A8, c8, rfl, HS8⟩)
               have HB8 : Hid (Below w.heap.size w w8) := HB7.out.trans (HS8.out.but.below HB7.out.size (by simp; omega))
               have HO7 : Hid (Lies w8 w8.heap.size A7 (bv out)) := Lies.own (HS8.out.but.own HS7.out.own (fun z hz => by have := (HS7.out.own.lt z hz).1; simp at this; simp; omega))
               have HO8 : Hid (Lies w8 w8.heap.size A8 (bv out)) := Lies.own HS8.out.own
               have HF8 : Hid (Four w8 w.heap.size size gr hr gs hs ga ha gb hb q1 q') := (HFo.out.swap.step1 HS7.out.rg HS7.out.but HS8.out.rg HS8.out.but).swap)
            | (go_at_call 13
               ((with_reducible refine (bytes_q _ A7 A8 c7 c8 ol ol out out true HO7 HO8 HOL HOL (by unfold maxLen; omega) (by unfold maxLen; omega) (hid (by simp))).mono ?_); rintro e w9 ⟨d, rfl, rfl⟩)
               have HF9 : Hid (Four (w8.drewN d) w.heap.size size gr hr gs hs ga ha gb hb q1 q') := HF8.out.keep0 ((But.refl [] w8).drewN d)
               have HQr : Hid (Rg (w8.drewN d) gr hr size _) := HF9.out.r.rg
               have HQa : Hid (Rg (w8.drewN d) ga ha size _) := HF9.out.a.rg
               have HQs : Hid (Rg (w8.drewN d) gs hs size _) := HF9.out.s.rg
               have HQb : Hid (Rg (w8.drewN d) gb hb size _) := HF9.out.b.rg)
            | (go_at_call 14
               ((with_reducible refine (len_n _ _ HLo.out HQr).mono ?_); rintro e w10 ⟨rfl, rfl⟩))
            | (go_at_call 14
               ((with_reducible refine (len_n _ _ HLo.out HQa).mono ?_); rintro e w10 ⟨rfl, rfl⟩))
            | (go_at_call 14
               ((with_reducible refine (len_n _ _ HLq.out HQs).mono ?_); rintro e w10 ⟨rfl, rfl⟩))
            | (go_at_call 14
               ((with_reducible refine (len_n _ _ HLq.out HQb).mono ?_); rintro e w10 ⟨rfl, rfl⟩)))
          go_roundw
          case rel => exact ⟨k + 1, by omega, by go_num, ⟨_, _, HF9.out⟩, bel_drewN HB8.out d⟩
          case measure => simp [intOf]; omega
      · have j1 : ¬ ((k : Int) < n2) := by omega
        obtain ⟨⟨out, m, q'⟩, HST⟩ : ∃ x, Hid (stepF size kk kn bb q1 = x) := ⟨_, hid rfl⟩
        obtain ⟨ol, HOL⟩ : ∃ x : Nat, Hid (out.length = x) := ⟨_, hid rfl⟩
        obtain ⟨lq, HLq⟩ : ∃ x : Nat, Hid (q'.length = x) := ⟨_, hid rfl⟩
        obtain ⟨lo, HLo⟩ : ∃ x : Nat, Hid (q2.length = x) := ⟨_, hid rfl⟩
        have hstl := step_len (k := kk) (n := kn) (b := bb) (HFo.out.r.rg.sizes.2.2)
        rw [HST.out] at hstl
        simp only at hstl
        rw [HOL.out, HLq.out] at hstl
        obtain ⟨hol, hml, hql⟩ := hstl
        have hgx := HF.out.r.rg.lt
        have hgy := HF.out.a.rg.lt
        have HRx : Hid (Rg (wr.alloc (.cells #[.int .i64 kk, .int .i64 kn, .slice tA x tc] 34)) gr hr size q1) := HFo.out.r.rg
        have HRy : Hid (Rg (wr.alloc (.cells #[.int .i64 kk, .int .i64 kn, .slice tA x tc] 34)) ga ha size q1) := HFo.out.a.rg
        have HAx : Hid (bb ≠ [] → ∀ a, tA = some a → a.block ≠ hr) := slb_far HSL HF.out.r.lo2
        have HAy : Hid (bb ≠ [] → ∀ a, tA = some a → a.block ≠ ha) := slb_far HSL HF.out.a.lo2
        have hlo1 := HF.out.r.lo1
        have hlo2 := HF.out.r.lo2
        have hlo3 := HF.out.a.lo1
        have hlo4 := HF.out.a.lo2
        go_wp2_with (first
          | (go_at_call 11
             ((with_reducible refine (do_q _ kk kn x HRx HSo HAx HX HST HOL).mono ?_); rintro e w7 ⟨A7, c7, rfl, HS7⟩)
             have hb7 : Below w.heap.size (wr.alloc (.cells #[.int .i64 kk, .int .i64 kn, .slice tA x tc] 34)) w7 := HS7.out.but.below HBo.out.size (by simp; omega)
             have HB7 : Hid (Below w.heap.size w w7) := HBo.out.trans hb7
             have HRy7 : Hid (Rg w7 ga ha size q1) := HRy.out.keep HS7.out.but (by have := HF.out.ra; obtain ⟨_, _, _, _⟩ := this; simp; omega) (by have := HF.out.ra; obtain ⟨_, _, _, _⟩ := this; simp; omega)
             have hx7 := HS7.out.but.box HXo.out (by simp; omega)
             have c70 := hx7.cell 0
             have c71 := hx7.cell 1
             have c72 := hx7.cell 2
             have HS7' := slb_at HSL HB7
             clear hb7 hx7)
          | (go_at_call 11
             ((with_reducible refine (do_q _ kk kn x HRy7 HS7' HAy HX HST HOL).mono ?_); rintro e w8 ⟨A8, c8, rfl, HS8⟩)
             have HB8 : Hid (Below w.heap.size w w8) := HB7.out.trans (HS8.out.but.below HB7.out.size (by simp; omega))
             have HO7 : Hid (Lies w8 w8.heap.size A7 (bv out)) := Lies.own (HS8.out.but.own HS7.out.own (fun z hz => by have := (HS7.out.own.lt z hz).1; simp at this; simp; omega))
             have HO8 : Hid (Lies w8 w8.heap.size A8 (bv out)) := Lies.own HS8.out.own
             have HF8 : Hid (Four w8 w.heap.size size gr hr gs hs ga ha gb hb q' q2) := HFo.out.step1 HS7.out.rg HS7.out.but HS8.out.rg HS8.out.but)
          | (go_at_call 13
             ((with_reducible refine (bytes_q _ A7 A8 c7 c8 ol ol out out true HO7 HO8 HOL HOL (by unfold maxLen; omega) (by unfold maxLen; omega) (hid (by simp))).mono ?_); rintro e w9 ⟨d, rfl, rfl⟩)
             have HF9 : Hid (Four (w8.drewN d) w.heap.size size gr hr gs hs ga ha gb hb q' q2) := HF8.out.keep0 ((But.refl [] w8).drewN d)
             have HQr : Hid (Rg (w8.drewN d) gr hr size _) := HF9.out.r.rg
             have HQa : Hid (Rg (w8.drewN d) ga ha size _) := HF9.out.a.rg
             have HQs : Hid (Rg (w8.drewN d) gs hs size _) := HF9.out.s.rg
             have HQb : Hid (Rg (w8.drewN d) gb hb size _) := HF9.out.b.rg)
          | (go_at_call 14
             ((with_reducible refine (len_n _ _ HLq.out HQr).mono ?_); rintro e w10 ⟨rfl, rfl⟩))
          | (go_at_call 14
             ((with_reducible refine (len_n _ _ HLq.out HQa).mono ?_); rintro e w10 ⟨rfl, rfl⟩))
          | (go_at_call 14
             ((with_reducible refine (len_n _ _ HLo.out HQs).mono ?_); rintro e w10 ⟨rfl, rfl⟩))
          | (go_at_call 14
             ((with_reducible refine (len_n _ _ HLo.out HQb).mono ?_); rintro e w10 ⟨rfl, rfl⟩)))
        go_roundw
        case rel => exact ⟨k + 1, by omega, by go_num, ⟨_, _, HF9.out⟩, bel_drewN HB8.out d⟩
        case measure => simp [intOf]; omega
    · go_wp2
      go_ret
      exact ⟨rfl, HBr⟩
end Go.Proofs.Ytidgbojgdllghaa
