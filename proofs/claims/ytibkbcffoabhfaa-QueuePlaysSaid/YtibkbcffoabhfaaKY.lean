import Derived.Test.YtibkbcffoabhfaaKX
namespace Go.Proofs.Ytibkbcffoabhfaa
open Go.RowKit

theorem quietx_v {P : Program} {f : FuncId} {args : Array Value} {W : World} {a : Nat} {v : Value} (hc : Calls P f args (W.drewN a) fun e w' => e = .returned v ∧ w' = W.drewN a) :
    Calls P f args (W.drewN a) fun e w'' => e = .returned v ∧ ∃ m, w'' = W.drewN m := hc.mono fun _ _ ⟨he, hm⟩ => ⟨he, a, hm⟩
theorem quietx_v2 {P : Program} {f : FuncId} {args : Array Value} {W : World} {a n : Nat} {v : Value} (hc : Calls P f args (W.drewN (a + n)) fun e w' => e = .returned v ∧ w' = W.drewN (a + n)) :
    Calls P f args (W.drewN (a + n)) fun e w'' => e = .returned v ∧ ∃ m, w'' = W.drewN (a + m) := hc.mono fun _ _ ⟨he, hm⟩ => ⟨he, n, hm⟩
theorem quietx_b {P : Program} {f : FuncId} {args : Array Value} {W : World} {a : Nat} {v : Value} (hc : Calls P f args (W.drewN a) fun e w' => ∃ k, e = .returned v ∧ w' = (W.drewN a).drewN k) :
    Calls P f args (W.drewN a) fun e w'' => e = .returned v ∧ ∃ m, w'' = W.drewN m := hc.mono fun _ _ ⟨k, he, hm⟩ => ⟨he, a + k, by rw [hm, World.drewN_drewN]⟩
theorem quietx_b2 {P : Program} {f : FuncId} {args : Array Value} {W : World} {a n : Nat} {v : Value} (hc : Calls P f args (W.drewN (a + n)) fun e w' => ∃ k, e = .returned v ∧ w' = (W.drewN (a + n)).drewN k) :
    Calls P f args (W.drewN (a + n)) fun e w'' => e = .returned v ∧ ∃ m, w'' = W.drewN (a + m) := hc.mono fun _ _ ⟨k, he, hm⟩ => ⟨he, n + k, by rw [hm, World.drewN_drewN, Nat.add_assoc]⟩

/-- What the stores of the document's Pop make. -/
theorem rpop_boxes {w : World} {S : Nat → Prop} {C : Cf} {g n c c' r f : Nat} {ov ov' : Bool} {L : List (List UInt8)} {b : List UInt8} (h1 : Box w g 45 (rqC C (.slice (some ⟨r, f, none⟩) (n + 1) c) ov)) (h2 : Wn w S (some ⟨r, f, none⟩) (n + 1) c (some r) (b :: L)) (hc' : c' = c - 1) (A' : Addr) (hA : A' = if c = 1 then ⟨r, f, none⟩ else ⟨r, f + 1, none⟩) :
    Box (w.setCell ⟨g, 4, none⟩ (.slice (some A') n c')) g 45 (rqC C (.slice (some A') n c') ov) ∧ Wn (w.setCell ⟨g, 4, none⟩ (.slice (some A') n c')) S (some A') n c' (some r) L ∧ But [g] w (w.setCell ⟨g, 4, none⟩ (.slice (some A') n c')) ∧
    (∀ d, Box (((w.setCell ⟨g, 4, none⟩ (.slice (some A') n c')).drewN d).setCell ⟨g, 5, none⟩ (.bool ov')) g 45 (rqC C (.slice (some A') n c') ov') ∧ Wn (((w.setCell ⟨g, 4, none⟩ (.slice (some A') n c')).drewN d).setCell ⟨g, 5, none⟩ (.bool ov')) S (some A') n c' (some r) L ∧ But [g] w (((w.setCell ⟨g, 4, none⟩ (.slice (some A') n c')).drewN d).setCell ⟨g, 5, none⟩ (.bool ov'))) := by
  have b4 := h1.store 4 (.slice (some A') n c')
  have b4' : Box (w.setCell ⟨g, 4, none⟩ (.slice (some A') n c')) g 45 (rqC C (.slice (some A') n c') ov) := by
    unfold rqC at b4 ⊢
    simpa using b4
  have hlt := h2.tail (a := ⟨r, f, none⟩)
  have hw : Wn w S (some A') n c' (some r) L := by
    subst hc'
    rw [hA]
    have := h2.tail
    rw [Addr.add_lit] at this
    exact this
  have k1 : But [g] w (w.setCell ⟨g, 4, none⟩ (.slice (some A') n c')) := (But.refl [g] w).store (.inl (by simp)) _
  have hrg : ∀ x, (some r) = some x → x ∉ [g] := by
    intro x hx
    obtain ⟨cs, hb⟩ := h2.box x hx
    have := box_ne h1 hb (by decide)
    simp
    exact Ne.symm this
  have key : ∀ w', But [g] w w' → Wn w' S (some A') n c' (some r) L := fun w' k =>
    ((hw.far (K := [g]) (fun y hy => ⟨45, _, by decide, by simp at hy; subst hy; exact h1⟩)).keep k hrg (fun x _ hx => hx.2)).mono (fun x _ hx => hx.1)
  refine ⟨b4', key _ k1, k1, fun d => ?_⟩
  have k2 : But [g] w (((w.setCell ⟨g, 4, none⟩ (.slice (some A') n c')).drewN d).setCell ⟨g, 5, none⟩ (.bool ov')) := (k1.drewN d).store (.inl (by simp)) _
  have b5 := (show Box ((w.setCell ⟨g, 4, none⟩ (.slice (some A') n c')).drewN d) g 45 (rqC C (.slice (some A') n c') ov) from b4').store 5 (.bool ov')
  refine ⟨?_, key _ k2, k2⟩
  unfold rqC at b5 ⊢
  simpa using b5
theorem rpop_end {w w' : World} {S : Nat → Prop} {C : Cf} {g r n c' : Nat} {A' : Addr} {L : List (List UInt8)} {b : List UInt8} {ov ov' : Bool} (hq : Rq w S C g (some r) (b :: L) ov) (hn : L.length = n) (h1 : Box w' g 45 (rqC C (.slice (some A') n c') ov')) (h2 : Wn w' S (some A') n c' (some r) L) : Rq w' S C g (some r) L ov' := by
  subst hn
  have hsum := hq.sum
  have hcnt := hq.cnt
  rw [sumB] at hsum
  simp only [List.length_cons] at hcnt
  exact ⟨hq.ok, by omega, by omega, some A', c', h1, h2⟩

set_option maxHeartbeats 4000000 in
set_option maxRecDepth 100000 in
theorem rpop_cons (w : World) {S : Nat → Prop} {C : Cf} {g n s1 : Nat} {rb : Option Nat} {L : List (List UInt8)} {b : List UInt8} {ov ov' : Bool} (hq : Hid (Rq w S C g rb (b :: L) ov)) (hn : Hid (b.length = n)) (hs1 : Hid (sumB L = s1)) (hv : Hid (fallF C s1 ov = ov')) :
    Calls Try.prog 24 #[.pointer (some ⟨g, 0, none⟩)] w fun e w' => ∃ A' c', e = .returned (.tuple #[.slice A' n c', .bool true]) ∧ Hid (w'.ownsRow 0 5 1 (.slice A' n c') n (bv b)) ∧ Hid (Rq w' S C g rb L ov') ∧ Hid (But [g] w w') := by
  obtain ⟨m, HM⟩ : ∃ m, Hid (L.length = m) := ⟨_, hid rfl⟩
  obtain ⟨A, c, h1, h2⟩ := hq.out.body
  have hsum := hq.out.sum
  have hok := hq.out.ok
  unfold Cf.ok at hok
  have hm : (b :: L).length = m + 1 := by rw [← HM.out]; rfl
  have hss : sumB (b :: L) = n + s1 := by rw [sumB, hn.out, hs1.out]
  rw [hss] at hsum
  rw [hm] at h1 h2
  have hml := h2.le
  have hfr : Hid (frontF (b :: L) = (b, true)) := rfl
  obtain ⟨cl, HCL⟩ : ∃ x, Hid (C.l = x) := ⟨_, hid rfl⟩
  have hcl : cl ≤ 65536 := by have := HCL.out; omega
  have hs16 : s1 ≤ 65536 := by omega
  rcases h2.row with ⟨_, e, _⟩ | ⟨r, f, cur, rfl, rfl, hb, hs, he⟩
  · omega
  · have hc9 := h2.max
    unfold maxLen at hc9
    have hne : g ≠ r := box_ne h1 hb (by decide)
    have c4 := h1.cell 4
    have c3 := h1.cell 3
    have c5 := h1.cell 5
    have f4 := h1.frozen 4
    have f5 := h1.frozen 5
    unfold rqC at c3 c4 c5
    rw [HCL.out] at c3
    have H1 := hid h1
    have H2 := hid h2
    obtain ⟨A', hA'⟩ : ∃ A' : Addr, A' = if c = 1 then ⟨r, f, none⟩ else ⟨r, f + 1, none⟩ := ⟨_, rfl⟩
    obtain ⟨c', hc'⟩ : ∃ c', c' = c - 1 := ⟨_, rfl⟩
    clear he h1 h2 hb hok
    by_cases hc1 : c = 1
    all_goals
      have HA' := hid hA'
      have HC' := hid hc'
      first | rw [if_pos hc1] at hA' | rw [if_neg hc1] at hA'
      first | (subst hc1; simp only [Nat.sub_self] at hc'; have hm0 : m = 0 := by omega
               subst hm0) | (clear hc'; have hc' := HC'.out)
      subst hc'
      subst hA'
      obtain ⟨b41, wn41, k41, hfin⟩ := rpop_boxes (ov' := false) H1.out H2.out HC'.out _ HA'.out
      have R4 := hid (rpop_end hq.out HM.out b41 wn41)
      have RU0 : ∀ w9 d, Hid (Rq w9 S C g (some r) L ov) → Calls Try.prog 16 #[.pointer (some ⟨g, 0, none⟩)] (w9.drewN d) fun e w' => e = .returned (.int .i64 s1) ∧ w' = w9.drewN d := fun w9 d h => rused_any _ hs1 (hid (h.out.keep0 (drew_keep w9 [] d)))
      have RU := hid (fun d => RU0 _ d R4)
      clear RU0
      have B41 := hid b41
      have HFIN := hid hfin
      have K41 := hid k41
      clear hfin k41 b41 wn41
      go_enter Try.func24, Try.ntmps24
      go_wp2_with (first
        | (go_at_call 25
           ((with_reducible refine (rfront_any _ hq hfr hn).mono ?_); rintro e w2 ⟨A2, c2, rfl, HO2, rfl⟩)))
    all_goals
      by_cases hle : s1 ≤ cl
      · have d1 : decide (s1 ≤ cl) = true := by simp; omega
        have e1 : ov' = false := by rw [← hv.out, fallF, if_pos (by rw [HCL.out]; exact hle)]
        subst e1
        go_quiet (first
          | (go_at_call 16; first | (with_reducible exact quietx_v2 (RU.out _)) | (with_reducible exact quietx_v (RU.out _))))
        go_wp2
        go_ret2
        obtain ⟨q1, q2, q3⟩ := HFIN.out nq
        exact ⟨A2, c2, rfl, q3.own HO2.out (fun x hx hm => by simp at hm; subst hm; exact own_ne HO2.out H1.out (by decide) hx), rpop_end hq.out HM.out q1 q2, q3⟩
      · have d1 : decide (s1 ≤ cl) = false := by simp; omega
        have e1 : ov' = ov := by rw [← hv.out, fallF, if_neg (by rw [HCL.out]; exact hle)]
        subst e1
        go_quiet (first
          | (go_at_call 16; first | (with_reducible exact quietx_v2 (RU.out _)) | (with_reducible exact quietx_v (RU.out _))))
        go_wp2
        go_ret2
        have k9 := K41.out.drewN nq
        exact ⟨A2, c2, rfl, k9.own HO2.out (fun x hx hm => by simp at hm; subst hm; exact own_ne HO2.out H1.out (by decide) hx), R4.out.keep0 (drew_keep _ _ _), k9⟩
set_option maxHeartbeats 1000000 in
set_option maxRecDepth 100000 in
theorem rpop_none (w : World) {S : Nat → Prop} {C : Cf} {g : Nat} {rb : Option Nat} {ov : Bool} (hq : Hid (Rq w S C g rb [] ov)) :
    Calls Try.prog 24 #[.pointer (some ⟨g, 0, none⟩)] w fun e w' => ∃ A' c', e = .returned (.tuple #[.slice A' 0 c', .bool false]) ∧ Hid (w'.ownsRow 0 5 1 (.slice A' 0 c') 0 (bv [])) ∧ Hid (Rq w' S C g rb [] ov) ∧ Hid (But [g] w w') := by
  go_enter Try.func24, Try.ntmps24
  go_wp2_with (first
    | (go_at_call 25
       ((with_reducible refine (rfront_any _ (n := 0) hq (out := []) (ok := false) (hid rfl) (hid rfl)).mono ?_); rintro e w2 ⟨A2, c2, rfl, HO2, rfl⟩)))
  go_ret2
  exact ⟨A2, c2, rfl, HO2, hq, But.refl _ _⟩
theorem rpop_any (w : World) {S : Nat → Prop} {C : Cf} {g n : Nat} {rb : Option Nat} {L L' : List (List UInt8)} {ov ok ov' : Bool} {out : List UInt8} (hq : Hid (Rq w S C g rb L ov)) (hp : Hid (popF C L ov = (out, ok, L', ov'))) (hn : Hid (out.length = n)) :
    Calls Try.prog 24 #[.pointer (some ⟨g, 0, none⟩)] w fun e w' => ∃ A' c', e = .returned (.tuple #[.slice A' n c', .bool ok]) ∧ Hid (w'.ownsRow 0 5 1 (.slice A' n c') n (bv out)) ∧ Hid (Rq w' S C g rb L' ov') ∧ Hid (But [g] w w') := by
  have hp' := hp.out
  have hn' := hn.out
  cases L with
  | nil =>
    rw [popF] at hp'
    injection hp' with e1 e2
    injection e2 with e2 e3
    injection e3 with e3 e4
    subst e1; subst e2; subst e3; subst e4
    subst hn'
    exact rpop_none w hq
  | cons b r =>
    rw [popF] at hp'
    injection hp' with e1 e2
    injection e2 with e2 e3
    injection e3 with e3 e4
    subst e1; subst e2; subst e3
    exact rpop_cons w hq hn (hid rfl) (hid e4)
end Go.Proofs.Ytibkbcffoabhfaa
