import Derived.Test.YtibkbcffoabhfaaKS
namespace Go.Proofs.Ytibkbcffoabhfaa
open Go.RowKit

/-- A slice of yes and no that lies there. -/
def BoolsL (w : World) (B : Nat) (A : Option Addr) (l : List Bool) : Prop := Lies w B A (l.map Value.bool)
/-- The four queues while two pairs are played. -/
def Pq (w2 w : World) (C : Cf) (gr gs ga gb : Nat) (L1 : List (List UInt8)) (o1 : Bool) (L2 : List (List UInt8)) (o2 : Bool) : Prop :=
  ∃ rr rs ra rb, Fq w2 w C gr rr L1 o1 gs rs L2 o2 ga ra L1 o1 gb rb L2 o2
/-- The first queue of a pair has taken a step. -/
def Hq (w2 w : World) (C : Cf) (gr gs ga gb : Nat) (L1' : List (List UInt8)) (o1' : Bool) (L1 : List (List UInt8)) (o1 : Bool) (L2 : List (List UInt8)) (o2 : Bool) : Prop :=
  ∃ rr rs ra rb, Fq w2 w C gr rr L1' o1' gs rs L2 o2 ga ra L1 o1 gb rb L2 o2
section
variable (w : World) {w2 : World} {C : Cf} {gr gs ga gb : Nat} {L1 L1' L2 : List (List UInt8)} {o1 o1' o2 ok : Bool} {b out : List UInt8}
theorem Pq.swap (h : Pq w2 w C gr gs ga gb L1 o1 L2 o2) : Pq w2 w C gs gr gb ga L2 o2 L1 o1 := by
  obtain ⟨rr, rs, ra, rb, f⟩ := h
  exact ⟨rs, rr, rb, ra, ⟨f.q2, f.l2, f.q1, f.l1, f.q4, f.l4, f.q3, f.l3, f.a12.symm, f.a24, f.a23, f.a14, f.a13, f.a34.symm, f.bel⟩⟩
theorem pq_do1 {A : Option Addr} {c l bl : Nat} (k : Int) (h : Hid (Pq w2 w C gr gs ga gb L1 o1 L2 o2)) (hb : Hid (SlB w w.heap.size A c b)) (hbl : Hid (b.length = bl)) (hp : Hid (doF C k b L1 o1 = (out, ok, L1', o1'))) (hl : Hid (out.length = l)) :
    Calls Try.prog 11 #[.pointer (some ⟨gr, 0, none⟩), .agg #[.int .i64 k, .slice A bl c]] w fun e w' => ∃ A' c', e = .returned (.tuple #[.slice A' l c', .bool ok]) ∧ Hid (w'.ownsRow w.heap.size 5 1 (.slice A' l c') l (bv out)) ∧ Hid (Hq w2 w' C gr gs ga gb L1' o1' L1 o1 L2 o2) ∧ Hid (Keep5 w w') := by
  obtain ⟨rr, rs, ra, rb, f⟩ := h.out
  refine (do_any w k (hid f.q1) hb hbl (hid fun _ _ _ => trivial) hp hl).mono ?_
  rintro e w' ⟨A', c', rfl, hd⟩
  obtain ⟨rr', f'⟩ := f.step hd.out.qu hd.out.but
  exact ⟨A', c', rfl, hd.out.own, ⟨rr', rs, ra, rb, f'⟩, keep5 f.q1 hd.out.but⟩
theorem pq_do2 {A : Option Addr} {c l bl : Nat} (k : Int) (h : Hid (Hq w2 w C gr gs ga gb L1' o1' L1 o1 L2 o2)) (hb : Hid (SlB w w.heap.size A c b)) (hbl : Hid (b.length = bl)) (hp : Hid (doF C k b L1 o1 = (out, ok, L1', o1'))) (hl : Hid (out.length = l)) :
    Calls Try.prog 11 #[.pointer (some ⟨ga, 0, none⟩), .agg #[.int .i64 k, .slice A bl c]] w fun e w' => ∃ A' c', e = .returned (.tuple #[.slice A' l c', .bool ok]) ∧ Hid (w'.ownsRow w.heap.size 5 1 (.slice A' l c') l (bv out)) ∧ Hid (Pq w2 w' C gr gs ga gb L1' o1' L2 o2) ∧ Hid (Keep5 w w') := by
  obtain ⟨rr, rs, ra, rb, f⟩ := h.out
  refine (do_any w k (hid f.q3) hb hbl (hid fun _ _ _ => trivial) hp hl).mono ?_
  rintro e w' ⟨A', c', rfl, hd⟩
  obtain ⟨ra', f'⟩ := f.p3.step hd.out.qu hd.out.but
  exact ⟨A', c', rfl, hd.out.own, ⟨rr, rs, ra', rb, f'.p3⟩, keep5 f.q3 hd.out.but⟩
theorem pq_used (n : Nat) (hn : Hid (sumB L1 = n)) (h : Hid (Pq w2 w C gr gs ga gb L1 o1 L2 o2)) : Calls Try.prog 15 #[.pointer (some ⟨gr, 0, none⟩)] w fun e w' => e = .returned (.int .i64 n) ∧ w' = w := by
  obtain ⟨rr, rs, ra, rb, f⟩ := h.out
  exact used_any w hn (hid f.q1)
theorem pq_used3 (n : Nat) (hn : Hid (sumB L1 = n)) (h : Hid (Pq w2 w C gr gs ga gb L1 o1 L2 o2)) : Calls Try.prog 15 #[.pointer (some ⟨ga, 0, none⟩)] w fun e w' => e = .returned (.int .i64 n) ∧ w' = w := by
  obtain ⟨rr, rs, ra, rb, f⟩ := h.out
  exact used_any w hn (hid f.q3)
theorem pq_over (h : Hid (Pq w2 w C gr gs ga gb L1 o1 L2 o2)) : Calls Try.prog 17 #[.pointer (some ⟨gr, 0, none⟩)] w fun e w' => e = .returned (.bool o1) ∧ w' = w := by
  obtain ⟨rr, rs, ra, rb, f⟩ := h.out
  exact over_any w (hid f.q1)
theorem pq_over3 (h : Hid (Pq w2 w C gr gs ga gb L1 o1 L2 o2)) : Calls Try.prog 17 #[.pointer (some ⟨ga, 0, none⟩)] w fun e w' => e = .returned (.bool o1) ∧ w' = w := by
  obtain ⟨rr, rs, ra, rb, f⟩ := h.out
  exact over_any w (hid f.q3)
end
theorem Pq.keep0 {w w' w2 : World} {C : Cf} {gr gs ga gb : Nat} {L1 L2 : List (List UInt8)} {o1 o2 : Bool} (h : Pq w2 w C gr gs ga gb L1 o1 L2 o2) (k : Below w.heap.size w w') : Pq w2 w' C gr gs ga gb L1 o1 L2 o2 := by
  obtain ⟨rr, rs, ra, rb, f⟩ := h
  exact ⟨rr, rs, ra, rb, f.below k⟩
theorem Pq.bel {w w2 : World} {C : Cf} {gr gs ga gb : Nat} {L1 L2 : List (List UInt8)} {o1 o2 : Bool} (h : Pq w2 w C gr gs ga gb L1 o1 L2 o2) : Below w2.heap.size w2 w := by
  obtain ⟨rr, rs, ra, rb, f⟩ := h
  exact f.bel
theorem Hq.bel {w w2 : World} {C : Cf} {gr gs ga gb : Nat} {L1' L1 L2 : List (List UInt8)} {o1' o1 o2 : Bool} (h : Hq w2 w C gr gs ga gb L1' o1' L1 o1 L2 o2) : Below w2.heap.size w2 w := by
  obtain ⟨rr, rs, ra, rb, f⟩ := h
  exact f.bel
theorem Pq.sum {w w2 : World} {C : Cf} {gr gs ga gb : Nat} {L1 L2 : List (List UInt8)} {o1 o2 : Bool} (h : Pq w2 w C gr gs ga gb L1 o1 L2 o2) : sumB L1 ≤ C.b ∧ C.b ≤ 65536 := by
  obtain ⟨rr, rs, ra, rb, f⟩ := h
  have h1 := f.q1.sum
  have h2 := f.q1.ok
  unfold Cf.ok at h2
  exact ⟨h1, h2.2.1⟩
/-- Four queues that were made one behind the other. -/
theorem Pq.start {w2 w3 w4 w5 w6 : World} {C : Cf} {gr gs ga gb : Nat} (h3 : ∀ S, Qu w3 S C gr none [] false) (h4 : ∀ S, Qu w4 S C gs none [] false) (h5 : ∀ S, Qu w5 S C ga none [] false) (h6 : ∀ S, Qu w6 S C gb none [] false)
    (g3 : w2.heap.size ≤ gr) (g4 : w3.heap.size ≤ gs) (g5 : w4.heap.size ≤ ga) (g6 : w5.heap.size ≤ gb) (b3 : Below w2.heap.size w2 w3) (b4 : Below w3.heap.size w3 w4) (b5 : Below w4.heap.size w4 w5) (b6 : Below w5.heap.size w5 w6) : Pq w2 w6 C gr gs ga gb [] false [] false := by
  have z3 := b3.size
  have z4 := b4.size
  have z5 := b5.size
  have z6 := b6.size
  have t3 := (h3 Tt).lt.1
  have t4 := (h4 Tt).lt.1
  have t5 := (h5 Tt).lt.1
  have t6 := (h6 Tt).lt.1
  have k3 : But [] w3 w6 := (But.of_below b4 []).same ((But.of_below b5 []).same (But.of_below b6 []))
  have k4 : But [] w4 w6 := (But.of_below b5 []).same (But.of_below b6 [])
  have k5 : But [] w5 w6 := But.of_below b6 []
  refine ⟨none, none, none, none, ⟨(h3 Tt).keep0 k3, ⟨g3, by simp⟩, (h4 Tt).keep0 k4, ⟨by omega, by simp⟩, (h5 Tt).keep0 k5, ⟨by omega, by simp⟩, h6 Tt, ⟨by omega, by simp⟩, ⟨by omega, by simp⟩, ⟨by omega, by simp⟩, ⟨by omega, by simp⟩, ⟨by omega, by simp⟩, ⟨by omega, by simp⟩, ⟨by omega, by simp⟩, ?_⟩⟩
  exact (bel_trans (hid b3) (bel_trans (hid b4) (bel_trans (hid b5) (hid b6)))).out

set_option maxHeartbeats 16000000 in
set_option maxRecDepth 100000 in
theorem two_walk (w : World) (C : Cf) (hok : Hid C.ok) (A A2 : Option Addr) (c n cc2 n2 : Nat) (l : List OpV) (ts : List Bool) (hl : Hid (OpsV w w.heap.size A l)) (hn : Hid (l.length = n)) (hl2 : n ≤ maxLen) (hg : Hid (greatO l = false))
    (ht : Hid (BoolsL w w.heap.size A2 ts)) (hn2 : Hid (ts.length = n2)) (ht2 : n2 ≤ maxLen) :
    Calls Try.prog 6 #[.agg #[.int .i64 C.b, .int .i64 C.r, .int .i64 C.h, .int .i64 C.l], .slice A n c, .slice A2 n2 cc2] w fun e w' => e = .returned (.bool true) ∧ Hid (Below w.heap.size w w') := by
  have h100 := great_len hg.out
  rw [hn.out] at h100
  unfold maxLen at ht2
  have HB0 : Hid (Below w.heap.size w (w.alloc (.cells #[.int .i64 C.b, .int .i64 C.r, .int .i64 C.h, .int .i64 C.l] 23))) := (Below.refl _ _).alloc (Nat.le_refl _) _
  have HX0 : Hid (Box (w.alloc (.cells #[.int .i64 C.b, .int .i64 C.r, .int .i64 C.h, .int .i64 C.l] 23)) w.heap.size 23 #[.int .i64 C.b, .int .i64 C.r, .int .i64 C.h, .int .i64 C.l]) := Box.new _ _ _
  have HL0 := ops_at hl HB0
  go_enter Try.func6, Try.ntmps6
  go_wp2_with (first
    | (go_at_call 7
       ((with_reducible refine (alive_any _).mono ?_); rintro e w1 ⟨rfl, HB1⟩)
       have HL1 : Hid (OpsV w1 w1.heap.size A l) := ops_at HL0 HB1
       have hx1 := hid (box_below HX0.out HB1.out))
    | (go_at_call 8
       ((with_reducible refine (great_any _ A c n l false HL1 hn hl2 hg).mono ?_); rintro e w2 ⟨rfl, HB2⟩)
       have hx2 := hid (box_below hx1.out HB2.out)
       have HL2 : Hid (OpsV w2 w2.heap.size A l) := ops_at HL1 HB2
       have HBw2 := bel_trans HB0 (bel_trans HB1 HB2)
       have c0 := hx2.out.cell 0
       have c1 := hx2.out.cell 1
       have c2 := hx2.out.cell 2
       have c3 := hx2.out.cell 3)
    | (go_at_call 9
       ((with_reducible refine (made_any _ hok).mono ?_); rintro e w3 ⟨gr, rfl, HQ3, hg3, HB3⟩)
       have hx3 := hid (box_below hx2.out HB3.out)
       have c30 := hx3.out.cell 0
       have c31 := hx3.out.cell 1
       have c32 := hx3.out.cell 2
       have c33 := hx3.out.cell 3)
    | (go_at_call 9
       ((with_reducible refine (made_any _ hok).mono ?_); rintro e w4 ⟨gs, rfl, HQ4, hg4, HB4⟩)
       have hx4 := hid (box_below hx3.out HB4.out)
       have c40 := hx4.out.cell 0
       have c41 := hx4.out.cell 1
       have c42 := hx4.out.cell 2
       have c43 := hx4.out.cell 3)
    | (go_at_call 9
       ((with_reducible refine (made_any _ hok).mono ?_); rintro e w5 ⟨ga, rfl, HQ5, hg5, HB5⟩)
       have hx5 := hid (box_below hx4.out HB5.out)
       have c50 := hx5.out.cell 0
       have c51 := hx5.out.cell 1
       have c52 := hx5.out.cell 2
       have c53 := hx5.out.cell 3)
    | (go_at_call 9
       ((with_reducible refine (made_any _ hok).mono ?_); rintro e w6 ⟨gb, rfl, HQ6, hg6, HB6⟩)
       have HP6 : Hid (Pq w2 w6 C gr gs ga gb [] false [] false) := Pq.start HQ3.out HQ4.out HQ5.out HQ6.out hg3 hg4 hg5 hg6 HB3.out HB4.out HB5.out HB6.out))
  clear c0 c1 c2 c3 c30 c31 c32 c33 c40 c41 c42 c43 c50 c51 c52 c53 hx1 hx2 hx3 hx4 hx5 hg3 hg4 hg5 hg6 HB3 HB4 HB5 HB6 HQ3 HQ4 HQ5 HQ6
  go_loopw [64] (fun i wr => ∃ k : Nat, k ≤ n ∧ i = .int .i64 k ∧ Hid (∃ L1 o1 L2 o2, Pq w2 wr C gr gs ga gb L1 o1 L2 o2)) (fun i _ => n - (intOf i).toNat)
  case atStart => exact ⟨0, Nat.zero_le _, rfl, [], false, [], false, HP6.out⟩
  case round =>
    obtain ⟨k, hk, rfl, HFF⟩ := hrel
    obtain ⟨L1, o1, L2, o2, hF⟩ := HFF.out
    have HF := hid hF
    have HBr := hid hF.bel
    clear hF
    by_cases hlt : k < n
    · have hkl : k < l.length := by rw [hn.out]; exact hlt
      obtain ⟨b0, o0, rfl, hbw, hcells⟩ := HL2.out (by intro e; rw [e] at hkl; simp at hkl)
      obtain ⟨tA, tc, hsl, e0, e2⟩ := hcells k hkl
      have c0 := (HBr.out.cell (p := ⟨b0, _, none⟩) hbw).trans e0
      have c2 := (HBr.out.cell (p := ⟨b0, _, none⟩) hbw).trans e2
      obtain ⟨bb, HBB⟩ : ∃ x, Hid (l[k].2 = x) := ⟨_, hid rfl⟩
      rw [HBB.out] at c2 hsl
      obtain ⟨x, HX⟩ : ∃ x : Nat, Hid (bb.length = x) := ⟨_, hid rfl⟩
      rw [HX.out] at c2
      obtain ⟨kk, HKK⟩ : ∃ x : Int, Hid (l[k].1 = x) := ⟨_, hid rfl⟩
      rw [HKK.out] at c0
      have HSL := hid hsl
      have i1 : (k : Int) < n := by omega
      clear e0 e2 hcells hsl
      have HBo : Hid (Below w2.heap.size w2 (wr.alloc (.cells #[.int .i64 kk, .slice tA x tc] 36))) := HBr.out.alloc HBr.out.size _
      have HXo : Hid (Box (wr.alloc (.cells #[.int .i64 kk, .slice tA x tc] 36)) wr.heap.size 36 #[.int .i64 kk, .slice tA x tc]) := Box.new _ _ _
      have HFo : Hid (Pq w2 (wr.alloc (.cells #[.int .i64 kk, .slice tA x tc] 36)) C gr gs ga gb L1 o1 L2 o2) := HF.out.keep0 ((Below.refl _ _).alloc (Nat.le_refl _) _)
      have HSo := slb_at HSL HBo
      by_cases hk2 : k < n2
      · have hkt : k < ts.length := by rw [hn2.out]; exact hk2
        obtain ⟨bt, ot, rfl, hbt, hct⟩ := ht.out (by intro e; have := congrArg List.length e; simp at this; rw [this] at hkt; simp at hkt)
        have ct0 : ∀ cs, (wr.alloc (.cells cs 36)).cell? ⟨bt, ot + k, none⟩ = some (.bool ts[k]) := fun cs => by
          have h1 := HBw2.out.cell (p := ⟨bt, ot + k, none⟩) hbt
          have h2 := ((HBr.out.alloc HBr.out.size (.cells cs 36))).cell (p := ⟨bt, ot + k, none⟩) (by have := HBw2.out.size; simp; omega)
          rw [h2, h1]
          exact hct k _ (by simp [List.getElem?_map, List.getElem?_eq_getElem hkt])
        have j1 : (k : Int) < n2 := by omega
        obtain ⟨tb, HTB⟩ : ∃ x, Hid (ts[k] = x) := ⟨_, hid rfl⟩
        rw [HTB.out] at ct0
        clear hct
        cases tb
        · obtain ⟨⟨out, ok, L', ov'⟩, HST⟩ : ∃ x, Hid (doF C kk bb L1 o1 = x) := ⟨_, hid rfl⟩
          obtain ⟨ol, HOL⟩ : ∃ x : Nat, Hid (out.length = x) := ⟨_, hid rfl⟩
          obtain ⟨us, HUS⟩ : ∃ x : Nat, Hid (sumB L' = x) := ⟨_, hid rfl⟩
          obtain ⟨uo, HUO⟩ : ∃ x : Nat, Hid (sumB L2 = x) := ⟨_, hid rfl⟩
          have hol : ol ≤ 65536 := by
            have h1 := HFo.out.sum
            have h2 := do_len h1.1 HST.out
            rw [HOL.out] at h2
            omega
          go_wp2_with (first
            | (go_at_call 11
               ((with_reducible refine (pq_do1 _ kk HFo HSo HX HST HOL).mono ?_); rintro e w7 ⟨A7, c7, rfl, HO7, HH7, HK7⟩)
               have hx7 := HK7.out.box HXo.out (by decide) (by decide)
               have c70 := hx7.cell 0
               have c71 := hx7.cell 1
               have HS7 := slb_at HSL (hid HH7.out.bel)
               clear hx7)
            | (go_at_call 11
               ((with_reducible refine (pq_do2 _ kk HH7 HS7 HX HST HOL).mono ?_); rintro e w8 ⟨A8, c8, rfl, HO8, HP8, HK8⟩)
               have HL7 : Hid (Lies w8 w8.heap.size A7 (bv out)) := Lies.own (HK8.out.own HO7.out)
               have HL8 : Hid (Lies w8 w8.heap.size A8 (bv out)) := Lies.own HO8.out)
            | (go_at_call 13
               ((with_reducible refine (bytes_q _ A7 A8 c7 c8 ol ol out out true HL7 HL8 HOL HOL (by unfold maxLen; omega) (by unfold maxLen; omega) (hid (by simp))).mono ?_); rintro e w9 ⟨d, rfl, rfl⟩)
               have HP9 : Hid (Pq w2 (w8.drewN d) C gr gs ga gb L' ov' L2 o2) := HP8.out.keep0 (bel_drewN (Below.refl _ _) d)
               have HP9s : Hid (Pq w2 (w8.drewN d) C gs gr gb ga L2 o2 L' ov') := HP9.out.swap)
            | (go_at_call 15
               ((with_reducible refine (pq_used _ us HUS HP9).mono ?_); rintro e w10 ⟨rfl, rfl⟩))
            | (go_at_call 15
               ((with_reducible refine (pq_used3 _ us HUS HP9).mono ?_); rintro e w10 ⟨rfl, rfl⟩))
            | (go_at_call 15
               ((with_reducible refine (pq_used _ uo HUO HP9s).mono ?_); rintro e w10 ⟨rfl, rfl⟩))
            | (go_at_call 15
               ((with_reducible refine (pq_used3 _ uo HUO HP9s).mono ?_); rintro e w10 ⟨rfl, rfl⟩))
            | (go_at_call 17
               ((with_reducible refine (pq_over _ HP9).mono ?_); rintro e w10 ⟨rfl, rfl⟩))
            | (go_at_call 17
               ((with_reducible refine (pq_over3 _ HP9).mono ?_); rintro e w10 ⟨rfl, rfl⟩))
            | (go_at_call 17
               ((with_reducible refine (pq_over _ HP9s).mono ?_); rintro e w10 ⟨rfl, rfl⟩))
            | (go_at_call 17
               ((with_reducible refine (pq_over3 _ HP9s).mono ?_); rintro e w10 ⟨rfl, rfl⟩)))
          go_roundw
          case rel => exact ⟨k + 1, by omega, by go_num, _, _, _, _, HP9.out⟩
          case measure => simp [intOf]; omega
        · have HFs := hid HFo.out.swap
          obtain ⟨⟨out, ok, L', ov'⟩, HST⟩ : ∃ x, Hid (doF C kk bb L2 o2 = x) := ⟨_, hid rfl⟩
          obtain ⟨ol, HOL⟩ : ∃ x : Nat, Hid (out.length = x) := ⟨_, hid rfl⟩
          obtain ⟨us, HUS⟩ : ∃ x : Nat, Hid (sumB L' = x) := ⟨_, hid rfl⟩
          obtain ⟨uo, HUO⟩ : ∃ x : Nat, Hid (sumB L1 = x) := ⟨_, hid rfl⟩
          have hol : ol ≤ 65536 := by
            have h1 := HFs.out.sum
            have h2 := do_len h1.1 HST.out
            rw [HOL.out] at h2
            omega
          go_wp2_with (first
            | (go_at_call 11
               ((with_reducible refine (pq_do1 _ kk HFs HSo HX HST HOL).mono ?_); rintro e w7 ⟨A7, c7, rfl, HO7, HH7, HK7⟩)
               have hx7 := HK7.out.box HXo.out (by decide) (by decide)
               have c70 := hx7.cell 0
               have c71 := hx7.cell 1
               have HS7 := slb_at HSL (hid HH7.out.bel)
               clear hx7)
            | (go_at_call 11
               ((with_reducible refine (pq_do2 _ kk HH7 HS7 HX HST HOL).mono ?_); rintro e w8 ⟨A8, c8, rfl, HO8, HP8, HK8⟩)
               have HL7 : Hid (Lies w8 w8.heap.size A7 (bv out)) := Lies.own (HK8.out.own HO7.out)
               have HL8 : Hid (Lies w8 w8.heap.size A8 (bv out)) := Lies.own HO8.out)
            | (go_at_call 13
               ((with_reducible refine (bytes_q _ A7 A8 c7 c8 ol ol out out true HL7 HL8 HOL HOL (by unfold maxLen; omega) (by unfold maxLen; omega) (hid (by simp))).mono ?_); rintro e w9 ⟨d, rfl, rfl⟩)
               have HP9 : Hid (Pq w2 (w8.drewN d) C gs gr gb ga L' ov' L1 o1) := HP8.out.keep0 (bel_drewN (Below.refl _ _) d)
               have HP9s : Hid (Pq w2 (w8.drewN d) C gr gs ga gb L1 o1 L' ov') := HP9.out.swap)
            | (go_at_call 15
               ((with_reducible refine (pq_used _ us HUS HP9).mono ?_); rintro e w10 ⟨rfl, rfl⟩))
            | (go_at_call 15
               ((with_reducible refine (pq_used3 _ us HUS HP9).mono ?_); rintro e w10 ⟨rfl, rfl⟩))
            | (go_at_call 15
               ((with_reducible refine (pq_used _ uo HUO HP9s).mono ?_); rintro e w10 ⟨rfl, rfl⟩))
            | (go_at_call 15
               ((with_reducible refine (pq_used3 _ uo HUO HP9s).mono ?_); rintro e w10 ⟨rfl, rfl⟩))
            | (go_at_call 17
               ((with_reducible refine (pq_over _ HP9).mono ?_); rintro e w10 ⟨rfl, rfl⟩))
            | (go_at_call 17
               ((with_reducible refine (pq_over3 _ HP9).mono ?_); rintro e w10 ⟨rfl, rfl⟩))
            | (go_at_call 17
               ((with_reducible refine (pq_over _ HP9s).mono ?_); rintro e w10 ⟨rfl, rfl⟩))
            | (go_at_call 17
               ((with_reducible refine (pq_over3 _ HP9s).mono ?_); rintro e w10 ⟨rfl, rfl⟩)))
          go_roundw
          case rel => exact ⟨k + 1, by omega, by go_num, _, _, _, _, HP9s.out⟩
          case measure => simp [intOf]; omega
      · have j1 : ¬ ((k : Int) < n2) := by omega
        obtain ⟨⟨out, ok, L', ov'⟩, HST⟩ : ∃ x, Hid (doF C kk bb L1 o1 = x) := ⟨_, hid rfl⟩
        obtain ⟨ol, HOL⟩ : ∃ x : Nat, Hid (out.length = x) := ⟨_, hid rfl⟩
        obtain ⟨us, HUS⟩ : ∃ x : Nat, Hid (sumB L' = x) := ⟨_, hid rfl⟩
        obtain ⟨uo, HUO⟩ : ∃ x : Nat, Hid (sumB L2 = x) := ⟨_, hid rfl⟩
        have hol : ol ≤ 65536 := by
          have h1 := HFo.out.sum
          have h2 := do_len h1.1 HST.out
          rw [HOL.out] at h2
          omega
        go_wp2_with (first
          | (go_at_call 11
             ((with_reducible refine (pq_do1 _ kk HFo HSo HX HST HOL).mono ?_); rintro e w7 ⟨A7, c7, rfl, HO7, HH7, HK7⟩)
             have hx7 := HK7.out.box HXo.out (by decide) (by decide)
             have c70 := hx7.cell 0
             have c71 := hx7.cell 1
             have HS7 := slb_at HSL (hid HH7.out.bel)
             clear hx7)
          | (go_at_call 11
             ((with_reducible refine (pq_do2 _ kk HH7 HS7 HX HST HOL).mono ?_); rintro e w8 ⟨A8, c8, rfl, HO8, HP8, HK8⟩)
             have HL7 : Hid (Lies w8 w8.heap.size A7 (bv out)) := Lies.own (HK8.out.own HO7.out)
             have HL8 : Hid (Lies w8 w8.heap.size A8 (bv out)) := Lies.own HO8.out)
          | (go_at_call 13
             ((with_reducible refine (bytes_q _ A7 A8 c7 c8 ol ol out out true HL7 HL8 HOL HOL (by unfold maxLen; omega) (by unfold maxLen; omega) (hid (by simp))).mono ?_); rintro e w9 ⟨d, rfl, rfl⟩)
             have HP9 : Hid (Pq w2 (w8.drewN d) C gr gs ga gb L' ov' L2 o2) := HP8.out.keep0 (bel_drewN (Below.refl _ _) d)
             have HP9s : Hid (Pq w2 (w8.drewN d) C gs gr gb ga L2 o2 L' ov') := HP9.out.swap)
          | (go_at_call 15
             ((with_reducible refine (pq_used _ us HUS HP9).mono ?_); rintro e w10 ⟨rfl, rfl⟩))
          | (go_at_call 15
             ((with_reducible refine (pq_used3 _ us HUS HP9).mono ?_); rintro e w10 ⟨rfl, rfl⟩))
          | (go_at_call 15
             ((with_reducible refine (pq_used _ uo HUO HP9s).mono ?_); rintro e w10 ⟨rfl, rfl⟩))
          | (go_at_call 15
             ((with_reducible refine (pq_used3 _ uo HUO HP9s).mono ?_); rintro e w10 ⟨rfl, rfl⟩))
          | (go_at_call 17
             ((with_reducible refine (pq_over _ HP9).mono ?_); rintro e w10 ⟨rfl, rfl⟩))
          | (go_at_call 17
             ((with_reducible refine (pq_over3 _ HP9).mono ?_); rintro e w10 ⟨rfl, rfl⟩))
          | (go_at_call 17
             ((with_reducible refine (pq_over _ HP9s).mono ?_); rintro e w10 ⟨rfl, rfl⟩))
          | (go_at_call 17
             ((with_reducible refine (pq_over3 _ HP9s).mono ?_); rintro e w10 ⟨rfl, rfl⟩)))
        go_roundw
        case rel => exact ⟨k + 1, by omega, by go_num, _, _, _, _, HP9.out⟩
        case measure => simp [intOf]; omega
    · go_wp2
      go_ret
      exact ⟨rfl, (bel_trans HBw2 HBr).out⟩
end Go.Proofs.Ytibkbcffoabhfaa
