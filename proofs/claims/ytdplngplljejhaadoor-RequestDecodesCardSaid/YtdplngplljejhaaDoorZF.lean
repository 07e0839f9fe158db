import Derived.Test.YtdplngplljejhaaDoorZE
namespace Go.Proofs.YtdplngplljejhaaDoor
open Go.RowKit

theorem rtake_any (W : World) (k : Int) (hk : 1 ≤ k ∧ k ≤ 6) (A : Option Addr) (c n : Nat) (left : List UInt8) (er : Int) (f : Fd) (rest : List UInt8) (hX : Hid (getF k left = (er, f, rest))) (hb : Hid (SlB W W.heap.size A c left)) (hn : left.length = n) (hl : n ≤ 1000000) :
    Calls Tryd.prog 42 #[.int .i64 k, .slice A n c] W fun e w' => ∃ (g : Fd) (m : Nat) (tA lA : Option Addr) (tc lc : Nat), e = .returned (.tuple #[.agg #[.int .i64 k, .int .u32 g.n, .slice tA g.text.length tc, .slice lA g.list.length lc], .int .i64 m, .int .i64 er]) ∧ Hid (Below W.heap.size W w') ∧
      Hid (er = 0 → g = { f with kind := k } ∧ m ≤ n ∧ rest = left.drop m ∧ w'.ownsRow W.heap.size 5 1 (.slice tA g.text.length tc) g.text.length (bv g.text) ∧ w'.ownsRow W.heap.size 9 1 (.slice lA g.list.length lc) g.list.length (sv g.list)) := by
  subst hn
  have h : Calls Tryd.prog 42 #[.int .i64 k, .slice A left.length c] W (TakeQ k left W) := by
    have h : k = 1 ∨ k = 2 ∨ k = 3 ∨ k = 4 ∨ k = 5 ∨ k = 6 := by omega
    obtain ⟨h1, h2, _, h4⟩ := hb.out
    rcases h with rfl | rfl | rfl | rfl | rfl | rfl
    · exact rtake1 W A c left h4 hl
    · exact rtake2 W A c left h4 hl
    · exact rtake3 W A c left h4 hl
    · exact rtake4 W A c left h4 hl ⟨h1, h2⟩
    · exact rtake5 W A c left h4 hl ⟨h1, h2⟩
    · exact rtake6 W A c left h4 hl
  refine h.mono ?_
  rintro e w' ⟨g, m, tA, lA, tc, lc, he, hb, hg⟩
  rw [hX.out] at he hg
  exact ⟨g, m, tA, lA, tc, lc, he, hb, hg⟩
theorem kinds_n (W : World) (A : Option Addr) (c n : Nat) (ks : List Int) (b : Bool) (hk : Hid (Lies W W.heap.size A (ks.map (Value.int .i64)))) (hn : ks.length = n) (hl : n ≤ 1000000) (hb : Hid (kindsB (ks.map kfd) = b)) :
    Calls Tryd.prog 41 #[.slice A n c] W fun e w' => e = .returned (.bool b) ∧ W = w' := by
  subst hn
  refine (kinds_any W A c ks hk.out hl).mono ?_
  rw [hb.out]
  exact fun e w' h => h
theorem rread_fin {w w4 w8 : World} {k : Nat} {A' tA lA : Option Addr} {c' tc lc : Nat} {fs : List Fd} {cs : List Value} {f : Fd} {o1 o2 : Obj}
    (hbw : Below w.heap.size w w4) (hro : w4.ownsRow w.heap.size 80 4 (.slice A' k c') k cs) (hfl : FlatF w4 w.heap.size fs cs)
    (ho1 : w4.ownsRow w.heap.size 5 1 (.slice tA f.text.length tc) f.text.length (bv f.text)) (ho2 : w4.ownsRow w.heap.size 9 1 (.slice lA f.list.length lc) f.list.length (sv f.list))
    (hg8 : ((w4.alloc o1).alloc o2).grownBy w8 (Value.slice A' k c').ownBlock) :
    FlatF w8 w.heap.size (fs ++ [f]) (cs ++ [.int .i64 f.kind, .int .u32 f.n, .slice tA f.text.length tc, .slice lA f.list.length lc]) ∧ Below w.heap.size w w8 := by
  have hro7 := (hro.alloc o1).alloc o2
  have k8 : Kept w.heap.size [80] w4 w8 := (((Kept.refl _ _ _).alloc _).alloc _).grown hg8 (fun k hk => by obtain ⟨a, cs, b⟩ := own_box hro7 k hk; exact ⟨a, 80, cs, by simp, b⟩)
  exact ⟨FlatF.snoc (f := f) (k8.own ho1 (by decide)) (k8.own ho2 (by decide)) fs cs (FlatF.kept k8 (by decide) (by decide) _ _ hfl), hbw.trans (k8.below hbw.size)⟩

set_option maxHeartbeats 4000000 in
set_option maxRecDepth 100000 in
theorem rread_any (w : World) (kA : Option Addr) (kc : Nat) (ks : List Int) (A : Option Addr) (c : Nat) (bs : List UInt8)
    (hk : Lies w w.heap.size kA (ks.map (Value.int .i64))) (hkl : ks.length ≤ 1000) (hb : SlB w w.heap.size A c bs) (hbl : bs.length ≤ 100000) :
    Calls Tryd.prog 25 #[.slice kA ks.length kc, .slice A bs.length c] w (ReadR w (readF ks bs)) := by
  have HK := hid hk
  have HB := hid hb
  clear hk hb
  obtain ⟨kb, HKB⟩ : ∃ z, Hid (kindsB (ks.map kfd) = z) := ⟨_, hid rfl⟩
  cases kb with
  | false =>
    have HE : Hid (readF ks bs = (2, [])) := by show _ = _; rw [readF, if_neg (by rw [HKB.out]; simp)]
    go_enter Tryd.func25, Tryd.ntmps25
    go_wp2_with (first
      | (go_at_call 41
         ((with_reducible refine (kinds_n _ _ kc ks.length ks false HK rfl (by omega) HKB).mono ?_); rintro e w' ⟨rfl, rfl⟩)))
    go_ret2
    rw [HE.out]
    exact readR_err _ _ _ (Below.refl _ _)
  | true =>
    have HE : Hid (readF ks bs = rdF [] ks bs) := by show _ = _; rw [readF, if_pos HKB.out]
    obtain ⟨i0, hi0, hz0, hz1, hz2⟩ := info_parts Tryd.info37
    go_enter Tryd.func25, Tryd.ntmps25
    go_wp2_with (first
      | (go_at_call 41
         ((with_reducible refine (kinds_n _ _ kc ks.length ks true HK rfl (by omega) HKB).mono ?_); rintro e w' ⟨rfl, rfl⟩)))
    go_loopw [17, 6, 1] (fun i v b wr => ∃ (k n m : Nat) (fs : List Fd) (A' : Option Addr) (c' : Nat) (cs : List Value) (A2 : Option Addr) (c2 : Nat) (left : List UInt8), k ≤ ks.length ∧ i = .int .i64 k ∧ v = .slice A' n c' ∧ b = .slice A2 m c2 ∧ wr.ownsRow w.heap.size 80 4 (.slice A' n c') n cs ∧ FlatF wr w.heap.size fs cs ∧ SlB wr w.heap.size A2 c2 left ∧ Below w.heap.size w wr ∧ n ≤ k ∧ m ≤ 100000 ∧ Hid (fs.length = n) ∧ Hid (left.length = m) ∧ Hid (rdF [] ks bs = rdF fs (ks.drop k) left)) (fun i _ _ _ => ks.length - (intOf i).toNat)
    case atStart => exact ⟨0, 0, bs.length, [], none, 0, [], A, c, bs, Nat.zero_le _, rfl, rfl, rfl, World.ownsRow_nil _ _ _ _, rfl, HB.out, Below.refl _ _, Nat.le_refl _, hbl, rfl, rfl, rfl⟩
    case round =>
      obtain ⟨k, n, m, fs, A', c', cs, A2, c2, left, hk, rfl, rfl, rfl, hro, hfl, hsl, hbw, hnk, hm1, HFN, HLN, HP⟩ := hrel
      have HRO := hid hro
      have HFL := hid hfl
      have HSL := hid hsl
      have HBW := hid hbw
      have hszr : w.heap.size ≤ wr.heap.size := hbw.size
      by_cases hlt : k < ks.length
      · obtain ⟨b, o, rfl, hbk, hcells⟩ := HK.out (by intro e; have := congrArg List.length e; simp at this; subst this; simp at hlt)
        have c0 : wr.cell? ⟨b, o + k, none⟩ = some (.int .i64 ks[k]) := (hbw.cell (p := ⟨b, _, none⟩) hbk).trans (hcells k _ (by simp [hlt]))
        have hkk := (kindsB_iff _).1 HKB.out k (by simpa using hlt)
        simp only [List.getElem_map, kfd, kindB, Bool.and_eq_true, decide_eq_true_eq] at hkk
        have hkk := hkk.1
        have HD : Hid (rdF [] ks bs = rdF fs (ks[k] :: ks.drop (k + 1)) left) := by show _ = _; rw [HP.out, List.drop_eq_getElem_cons hlt]
        obtain ⟨kd, Hkd⟩ : ∃ z, Hid (ks[k] = z) := ⟨_, hid rfl⟩
        rw [Hkd.out] at c0 hkk HD
        have HSW : Hid (SlB wr wr.heap.size A2 c2 left) := ⟨hsl.1, hsl.2.1, hsl.2.2.1, hsl.2.2.2.more hszr⟩
        have hsl1 : m ≤ c2 := by have := hsl.1; rw [HLN.out] at this; exact this
        have hsl2 : c2 ≤ 9223372036854775807 := hsl.2.1
        have hsl3 := hsl.2.2.1
        clear hcells hro hfl hsl hbw Hkd HP HK
        obtain ⟨⟨er, f, rest⟩, HX⟩ : ∃ x, Hid (getF kd left = x) := ⟨_, hid rfl⟩
        by_cases her : er = 0
        · subst her
          have HR : Hid (rdF [] ks bs = rdF (fs ++ [{ f with kind := kd }]) (ks.drop (k + 1)) rest) := by
            show _ = _
            rw [HD.out, rdF, HX.out, if_pos rfl]
          have hA2 : (A2 = none ∧ c2 = 0 ∧ m = 0) ∨ ∃ a, A2 = some a := by
            cases A2 with
            | none => exact .inl ⟨rfl, hsl3 rfl, by have := hsl3 rfl; omega⟩
            | some a => exact .inr ⟨a, rfl⟩
          clear hsl3
          rcases hA2 with ⟨rfl, rfl, rfl⟩ | ⟨a, rfl⟩
          · have hl0 : left = [] := List.eq_nil_of_length_eq_zero HLN.out
            go_wp2_with (first
              | (go_at_call 42
                 ((with_reducible refine (rtake_any _ kd hkk none 0 0 left 0 f rest HX HSW HLN.out (by omega)).mono ?_); rintro e w4 ⟨g, q, tA, lA, tc, lc, rfl, HB4, HG⟩)
                 obtain ⟨hg, hq, hrest, ho1, ho2⟩ := HG.out rfl
                 obtain rfl : q = 0 := by omega
                 have HGE := hid hg
                 have HRE := hid hrest
                 have HO1 := hid (own_mono (b' := w.heap.size) ho1 hszr)
                 have HO2 := hid (own_mono (b' := w.heap.size) ho2 hszr)
                 have HBW4 := hid (HBW.out.trans (HB4.out.mono hszr))
                 have HRO4 := hid (own_keep HRO.out HB4.out)
                 have HFL4 := hid (flat_keep HFL.out HB4.out)
                 have hz4 : w.heap.size ≤ w4.heap.size := HBW4.out.size
                 have HKD : Hid (g.kind = kd) := by show _ = _; rw [hg]
                 clear HG hg hrest ho1 ho2)
              | (at_builtin
                 (
                   have hl7 := lit_lies (w4.alloc (.cells #[.int .i64 kd, .int .u32 g.n, .slice tA g.text.length tc, .slice lA g.list.length lc] 80)) #[.int .i64 kd, .int .u32 g.n, .slice tA g.text.length tc, .slice lA g.list.length lc] 80 (0, 0) (w4.heap.size + 1) (by simp)
                   refine wpList_app _ rfl (.tmp 31) (.tmp 33) 63 rfl w.heap.size 80 i0 _ 4 64 Tryd.underlying63 hi0 hz0 hz1 hz2 rfl (by decide) A' n c' cs ?a1 ?a2 ?aB ?aA 1 1 ?an ?a3 ?a4 ?a5 ?a6 ?g3 ?g4 ?g5 ?_
                   case aB => exact w4.heap.size + 1 + 1
                   case aA => exact some ⟨w4.heap.size + 1, 0, none⟩
                   case an => exact (#[.int .i64 kd, .int .u32 g.n, .slice tA g.text.length tc, .slice lA g.list.length lc] : Array Value).toList
                   case a1 => rfl
                   case a2 => exact (HRO4.out.alloc _).alloc _
                   case a5 => exact hl7
                   case a3 => rfl
                   case a4 => rfl
                   case a6 => exact one4 _ _ _ _ _ _ _ _
                   case g3 => unfold maxLen; omega
                   case g4 => omega
                   case g5 => simp; omega
                   intro A8 c8 w8 ho8 hg8
                   have HFIN := hid (rread_fin (f := g) HBW4.out HRO4.out HFL4.out HO1.out HO2.out hg8)
                   have HB48 : Hid (Below w.heap.size w4 w8) := ((((Kept.refl w.heap.size [80] w4).alloc _).alloc _).grown hg8 (fun k hk => by obtain ⟨a, cs, b⟩ := own_box ((HRO4.out.alloc _).alloc _) k hk; exact ⟨a, 80, cs, by simp, b⟩)).below hz4
                   have HO8 := hid ho8
                   clear ho8 hg8 hl7)))
            go_roundw
            case rel =>
              obtain ⟨q1, q2⟩ := HFIN.out
              rw [HKD.out] at q1
              refine ⟨k + 1, n + 1, 0, fs ++ [g], A8, c8, _, none, 0, rest, by omega, by go_num, rfl, rfl, HO8.out, q1, ?_, q2, by omega, by omega, ?_, ?_, ?_⟩
              · rw [HRE.out, hl0]
                exact ⟨Nat.le_refl _, Nat.zero_le _, fun _ => rfl, Lies.nil_⟩
              · show _ = _
                rw [List.length_append, HFN.out]
                rfl
              · show _ = _
                rw [HRE.out, List.length_drop, HLN.out]
              · show _ = _
                rw [HR.out, HGE.out]
            case measure => simp [intOf]; omega
          · have HSD : Hid (∀ q, q ≤ m → SlB wr w.heap.size (if c2 = q then some a else some (a.add q)) (c2 - q) (left.drop q)) := fun q hq => by
              rw [← apply_ite some]
              exact HSL.out.drop q (by rw [HLN.out]; exact hq)
            go_wp2_with (first
              | (go_at_call 42
                 ((with_reducible refine (rtake_any _ kd hkk (some a) c2 m left 0 f rest HX HSW HLN.out (by omega)).mono ?_); rintro e w4 ⟨g, q, tA, lA, tc, lc, rfl, HB4, HG⟩)
                 obtain ⟨hg, hq, hrest, ho1, ho2⟩ := HG.out rfl
                 have hq1 : (q : Int) ≤ m := by omega
                 have HGE := hid hg
                 have HRE := hid hrest
                 have HO1 := hid (own_mono (b' := w.heap.size) ho1 hszr)
                 have HO2 := hid (own_mono (b' := w.heap.size) ho2 hszr)
                 have HBW4 := hid (HBW.out.trans (HB4.out.mono hszr))
                 have HRO4 := hid (own_keep HRO.out HB4.out)
                 have HFL4 := hid (flat_keep HFL.out HB4.out)
                 have hz4 : w.heap.size ≤ w4.heap.size := HBW4.out.size
                 have HKD : Hid (g.kind = kd) := by show _ = _; rw [hg]
                 clear HG hg hrest ho1 ho2)
              | (at_builtin
                 (
                   have hl7 := lit_lies (w4.alloc (.cells #[.int .i64 kd, .int .u32 g.n, .slice tA g.text.length tc, .slice lA g.list.length lc] 80)) #[.int .i64 kd, .int .u32 g.n, .slice tA g.text.length tc, .slice lA g.list.length lc] 80 (0, 0) (w4.heap.size + 1) (by simp)
                   refine wpList_app _ rfl (.tmp 31) (.tmp 33) 63 rfl w.heap.size 80 i0 _ 4 64 Tryd.underlying63 hi0 hz0 hz1 hz2 rfl (by decide) A' n c' cs ?a1 ?a2 ?aB ?aA 1 1 ?an ?a3 ?a4 ?a5 ?a6 ?g3 ?g4 ?g5 ?_
                   case aB => exact w4.heap.size + 1 + 1
                   case aA => exact some ⟨w4.heap.size + 1, 0, none⟩
                   case an => exact (#[.int .i64 kd, .int .u32 g.n, .slice tA g.text.length tc, .slice lA g.list.length lc] : Array Value).toList
                   case a1 => rfl
                   case a2 => exact (HRO4.out.alloc _).alloc _
                   case a5 => exact hl7
                   case a3 => rfl
                   case a4 => rfl
                   case a6 => exact one4 _ _ _ _ _ _ _ _
                   case g3 => unfold maxLen; omega
                   case g4 => omega
                   case g5 => simp; omega
                   intro A8 c8 w8 ho8 hg8
                   have HFIN := hid (rread_fin (f := g) HBW4.out HRO4.out HFL4.out HO1.out HO2.out hg8)
                   have HB48 : Hid (Below w.heap.size w4 w8) := ((((Kept.refl w.heap.size [80] w4).alloc _).alloc _).grown hg8 (fun k hk => by obtain ⟨a, cs, b⟩ := own_box ((HRO4.out.alloc _).alloc _) k hk; exact ⟨a, 80, cs, by simp, b⟩)).below hz4
                   have HO8 := hid ho8
                   clear ho8 hg8 hl7)))
            go_roundw
            case rel =>
              obtain ⟨q1, q2⟩ := HFIN.out
              rw [HKD.out] at q1
              refine ⟨k + 1, n + 1, (m - q), fs ++ [g], A8, c8, _, (if c2 = q then some a else some (a.add q)), (c2 - q), rest, by omega, by go_num, rfl, rfl, HO8.out, q1, ?_, q2, by omega, by omega, ?_, ?_, ?_⟩
              · have h := HSD.out q hq
                rw [← HRE.out] at h
                exact h.below ((HB4.out.mono hszr).trans HB48.out)
              · show _ = _
                rw [List.length_append, HFN.out]
                rfl
              · show _ = _
                rw [HRE.out, List.length_drop, HLN.out]
              · show _ = _
                rw [HR.out, HGE.out]
            case measure => simp [intOf]; omega
        · have HR : Hid (readF ks bs = (er, [])) := by
            show _ = _
            rw [HE.out, HD.out, rdF, HX.out, if_neg her]
          have hz : (er != 0) = true := by simpa using her
          clear her
          go_wp2_with (first
            | (go_at_call 42
               ((with_reducible refine (rtake_any _ kd hkk A2 c2 m left er f rest HX HSW HLN.out (by omega)).mono ?_); rintro e w4 ⟨g, q, tA, lA, tc, lc, rfl, HB4, HG⟩)))
          go_ret2
          rw [HR.out]
          exact readR_err _ _ _ ((HBW.out.trans (HB4.out.mono hszr)).alloc (by have := HB4.out.size; omega) _)
      · have hd : ks.drop k = [] := List.drop_of_length_le (by omega)
        by_cases hm0 : m = 0
        · have hl0 : left = [] := List.eq_nil_of_length_eq_zero (HLN.out.trans hm0)
          have HR : Hid (readF ks bs = (0, fs)) := by show _ = _; rw [HE.out, HP.out, hd, rdF, if_pos hl0]
          subst hm0
          clear hd hl0 hro hfl hsl hbw
          go_wp2
          go_ret2
          rw [HR.out]
          refine ⟨A', c', cs, ?_, ?_, HFL.out, HBW.out⟩
          · show _ = Ending.returned (.tuple #[.slice A' fs.length c', .int .i64 0])
            rw [HFN.out]
            rfl
          · show wr.ownsRow _ _ _ (.slice A' fs.length c') fs.length cs
            rw [HFN.out]
            exact HRO.out
        · have HR : Hid (readF ks bs = (4, [])) := by
            show _ = _
            rw [HE.out, HP.out, hd, rdF, if_neg]
            intro h
            have := HLN.out
            rw [h] at this
            exact hm0 this.symm
          have t1 : (0 : Int) < m := by omega
          clear hd hro hfl hsl hbw hm0
          go_wp2
          go_ret2
          rw [HR.out]
          exact readR_err _ _ _ HBW.out
end Go.Proofs.YtdplngplljejhaaDoor
