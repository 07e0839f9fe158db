import Derived.Test.YtibkbcffoabhfaaKY
namespace Go.Proofs.Ytibkbcffoabhfaa
open Go.RowKit

theorem rpush_at {w w2 : World} {S : Nat → Prop} {C : Cf} {g m c k : Nat} {A A2 : Option Addr} {c2 : Nat} {rb : Option Nat} {L : List (List UInt8)} {b : List UInt8} {ov : Bool} {d : Nat} (h1 : Box w g 45 (rqC C (.slice A m c) ov)) (h2 : Wn w S A m c rb L) (hk : b.length = k)
    (ho : w2.ownsRow w.heap.size 5 1 (.slice A2 k c2) k (bv b)) (hb : Below (w.drewN d).heap.size (w.drewN d) w2) (hS : ∀ x, w.heap.size ≤ x → S x) :
    Box w2 g 45 (rqC C (.slice A m c) ov) ∧ Box (w2.alloc (.cells #[.slice A2 k c2] 34)) g 45 (rqC C (.slice A m c) ov) ∧ Wn (w2.alloc (.cells #[.slice A2 k c2] 34)) S A m c rb L ∧ (w2.alloc (.cells #[.slice A2 k c2] 34)).cell? ⟨w2.heap.size, 0, none⟩ = some (.slice A2 k c2) ∧ El (w2.alloc (.cells #[.slice A2 k c2] 34)) S (.slice A2 k c2) b ∧ But [] w (w2.alloc (.cells #[.slice A2 k c2] 34)) := by
  subst hk
  have hk0 : But [] w w2 := (drew_keep w [] d).same (But.of_below hb [])
  have hk1 : But [] w (w2.alloc (.cells #[.slice A2 b.length c2] 34)) := hk0.alloc _
  refine ⟨hk0.box h1 (by simp), hk1.box h1 (by simp), h2.keep hk1 (by simp) (by simp), ?_, ?_, hk1⟩
  · exact (Box.new w2 34 #[.slice A2 b.length c2]).cell 0
  · exact ⟨A2, c2, rfl, own_mono (ho.alloc _) (Nat.zero_le _), fun x hx => hS x (ho.lt x hx).1⟩
theorem rpush_end {w w3 w8 : World} {S : Nat → Prop} {C : Cf} {g m c s1 : Nat} {A A8 : Option Addr} {c8 : Nat} {rb : Option Nat} {L L' : List (List UInt8)} {ov ov0 : Bool} (hq : Rq w S C g rb L ov0) (h1 : Box w g 45 (rqC C (.slice A m c) ov)) (hL : L'.length = m + 1) (hs : sumB L' = s1) (hs1 : s1 ≤ C.b) (hc1 : m + 1 ≤ C.r)
    (k3 : But [] w w3) (k8 : But rb.toList w3 w8) (h8 : ∃ rb', Wn w8 S A8 (m + 1) c8 rb' L' ∧ ∀ x, rb' = some x → rb = some x ∨ w3.heap.size ≤ x) :
    Box w8 g 45 (rqC C (.slice A m c) ov) ∧
    ((∃ rb', Rq (w8.setCell ⟨g, 4, none⟩ (.slice A8 (m + 1) c8)) S C g rb' L' ov ∧ ∀ x, rb' = some x → rb = some x ∨ w.heap.size ≤ x) ∧ But (g :: rb.toList) w (w8.setCell ⟨g, 4, none⟩ (.slice A8 (m + 1) c8))) ∧
    ∀ d ov', ((∃ rb', Rq (((w8.setCell ⟨g, 4, none⟩ (.slice A8 (m + 1) c8)).drewN d).setCell ⟨g, 5, none⟩ (.bool ov')) S C g rb' L' ov' ∧ ∀ x, rb' = some x → rb = some x ∨ w.heap.size ≤ x) ∧ But (g :: rb.toList) w (((w8.setCell ⟨g, 4, none⟩ (.slice A8 (m + 1) c8)).drewN d).setCell ⟨g, 5, none⟩ (.bool ov'))) := by
  have hrb : rb ≠ some g := fun e => by
    obtain ⟨A0, c0, h0, hw0⟩ := hq.body
    obtain ⟨cs, hb⟩ := hw0.box g e
    exact box_ne h0 hb (by decide) rfl
  have b3 := k3.box h1 (by simp)
  have b8 : Box w8 g 45 (rqC C (.slice A m c) ov) := k8.box b3 (by cases rb with
    | none => simp
    | some r => simp at hrb ⊢; exact fun e => hrb e.symm)
  have b9 : Box (w8.setCell ⟨g, 4, none⟩ (.slice A8 (m + 1) c8)) g 45 (rqC C (.slice A8 (m + 1) c8) ov) := by
    have := b8.store 4 (.slice A8 (m + 1) c8)
    unfold rqC at this ⊢
    simpa using this
  have k9 : But [g] w8 (w8.setCell ⟨g, 4, none⟩ (.slice A8 (m + 1) c8)) := (But.refl [g] w8).store (.inl (by simp)) _
  obtain ⟨rb', hw, hx⟩ := h8
  have hrg : ∀ x, rb' = some x → x ∉ [g] := by
    intro x hx
    obtain ⟨cs, hb⟩ := hw.box x hx
    have := box_ne b8 hb (by decide)
    simp
    exact Ne.symm this
  have key : ∀ w', But [g] w8 w' → Wn w' S A8 (m + 1) c8 rb' L' := fun w' k =>
    ((hw.far (K := [g]) (fun y hy => ⟨45, _, by decide, by simp at hy; subst hy; exact b8⟩)).keep k hrg (fun x _ hx => hx.2)).mono (fun x _ hx => hx.1)
  have hx' : ∀ x, rb' = some x → rb = some x ∨ w.heap.size ≤ x := fun x hxx => (hx x hxx).imp id fun h => Nat.le_trans k3.size h
  have hk : ∀ w', But [g] w8 w' → But (g :: rb.toList) w w' := fun w' k => ((k3.mono (by simp)).same (k8.mono (by simp; exact fun x hx => .inr hx))).same (k.mono (by simp))
  have hrq : ∀ w' o, But [g] w8 w' → Box w' g 45 (rqC C (.slice A8 (m + 1) c8) o) → Rq w' S C g rb' L' o := fun w' o k hb => by
    refine ⟨hq.ok, by rw [hs]; exact hs1, by omega, A8, c8, ?_, ?_⟩
    · rw [hL]; exact hb
    · rw [hL]; exact key w' k
  refine ⟨b8, ⟨⟨rb', hrq _ _ k9 b9, hx'⟩, hk _ k9⟩, fun d ov' => ?_⟩
  have k10 : But [g] w8 (((w8.setCell ⟨g, 4, none⟩ (.slice A8 (m + 1) c8)).drewN d).setCell ⟨g, 5, none⟩ (.bool ov')) := (k9.drewN d).store (.inl (by simp)) _
  have b10 := (show Box ((w8.setCell ⟨g, 4, none⟩ (.slice A8 (m + 1) c8)).drewN d) g 45 (rqC C (.slice A8 (m + 1) c8) ov) from b9).store 5 (.bool ov')
  refine ⟨⟨rb', hrq _ _ k10 ?_, hx'⟩, hk _ k10⟩
  unfold rqC at b10 ⊢
  simpa using b10

set_option maxHeartbeats 4000000 in
set_option maxRecDepth 100000 in
theorem rpush_yes (w : World) {S : Nat → Prop} {C : Cf} {g k c0 : Nat} {rb : Option Nat} {L : List (List UInt8)} {b : List UInt8} {B : Option Addr} {ov ov' : Bool} (hq : Hid (Rq w S C g rb L ov)) (hk : Hid (b.length = k)) (hb : Hid (Lies w w.heap.size B (bv b))) (hS : Hid (∀ x, w.heap.size ≤ x → S x))
    (h1 : Hid (L.length < C.r)) (h2 : Hid (sumB L + k ≤ C.b)) (hv : Hid (riseF C (sumB L + k) ov = ov')) :
    Calls Try.prog 23 #[.pointer (some ⟨g, 0, none⟩), .slice B k c0] w fun e w' => e = .returned (.bool true) ∧ Hid ((∃ rb', Rq w' S C g rb' (L ++ [b]) ov' ∧ ∀ x, rb' = some x → rb = some x ∨ w.heap.size ≤ x) ∧ But (g :: rb.toList) w w') := by
  obtain ⟨i0, hi0, hz0, hz1, hz2⟩ := info_parts Try.info5
  obtain ⟨m, HM⟩ : ∃ m, Hid (L.length = m) := ⟨_, hid rfl⟩
  obtain ⟨s, HS⟩ : ∃ s, Hid (sumB L = s) := ⟨_, hid rfl⟩
  obtain ⟨s1, HS1⟩ : ∃ s1, Hid (s + k = s1) := ⟨_, hid rfl⟩
  obtain ⟨cr, HCR⟩ : ∃ x, Hid (C.r = x) := ⟨_, hid rfl⟩
  obtain ⟨cb, HCB⟩ : ∃ x, Hid (C.b = x) := ⟨_, hid rfl⟩
  obtain ⟨ch, HCH⟩ : ∃ x, Hid (C.h = x) := ⟨_, hid rfl⟩
  obtain ⟨A, c, hx, hw⟩ := hq.out.body
  have hok := hq.out.ok
  unfold Cf.ok at hok
  have hh1 := h1.out
  have hh2 := h2.out
  rw [HS.out, HS1.out] at hv
  rw [HM.out, HCR.out] at hh1
  rw [HS.out, HCB.out] at hh2
  rw [HM.out] at hx hw
  rw [HCR.out, HCB.out, HCH.out] at hok
  have HX := hid hx
  have HW := hid hw
  have cc0 := hx.cell 0
  have cc1 := hx.cell 1
  have cc2 := hx.cell 2
  have cc4 := hx.cell 4
  unfold rqC at cc0 cc1 cc2 cc4
  rw [HCR.out, HCB.out] at cc0 cc1
  rw [HCH.out] at cc2
  have hs1 : ((s : Int) + k) = s1 := by have := HS1.out; omega
  have hs1b : s1 ≤ 65536 := by have := HS1.out; omega
  have hcb : cb ≤ 65536 := by omega
  have hsb : s ≤ 65536 := by omega
  have hkb : k ≤ 65536 := by omega
  have hcr : m + 1 ≤ 1000000 := by omega
  have hch : ch ≤ 65536 := by omega
  have d1 : ((m : Int) == cr) = false := by simp; omega
  have d1' : (m == cr) = false := by simp; omega
  have d2 : decide (cb < k) = false := by simp; omega
  have d3 : decide (cb < s1) = false := by simp; have := HS1.out; omega
  have d4 : decide ((cb : Int) < (s : Int) + k) = false := decide_eq_false (by omega)
  have RU : Hid (∀ d, Calls Try.prog 16 #[.pointer (some ⟨g, 0, none⟩)] (w.drewN d) fun e w' => e = .returned (.int .i64 s) ∧ w' = w.drewN d) := fun d => rused_any _ HS (hid (hq.out.keep0 (drew_keep w [] d)))
  have HLL : Hid ((L ++ [b]).length = m + 1) := by
    show _ = _
    simp [HM.out]
  have HSS : Hid (sumB (L ++ [b]) = s1) := by
    show _ = _
    rw [sumB_app, HS.out, hk.out, HS1.out]
  have HC1 : Hid (s1 ≤ C.b) := by
    show _ ≤ _
    have e1 := HS1.out
    have e2 := HS.out
    have e3 := h2.out
    omega
  have HC2 : Hid (m + 1 ≤ C.r) := by
    show _ ≤ _
    have e1 := HM.out
    have e3 := h1.out
    omega
  have cd4 : ∀ d, (w.drewN d).cell? ⟨g, 4, none⟩ = some (.slice A m c) := fun _ => HX.out.cell 4
  have HBd : ∀ d o, Hid (Lies ((w.drewN d).alloc o) w.heap.size B (bv b)) := fun d o => hid ((show Lies (w.drewN d) w.heap.size B (bv b) from hb.out).alloc (Nat.le_refl _) o)
  have cd5 : ∀ d, ((w.drewN d).alloc (.cells #[] 5)).cell? ⟨g, 4, none⟩ = some (.slice A m c) := fun d => (box_below (show Box (w.drewN d) g 45 (rqC C (.slice A m c) ov) from HX.out) ((Below.refl _ _).alloc (Nat.le_refl _) _)).cell 4
  clear hx hw hok hh1 hh2
  go_enter Try.func23, Try.ntmps23
  go_wp2
  go_quiet (first
    | (go_at_call 16; first | (with_reducible exact quietx_v2 (RU.out _)) | (with_reducible exact quietx_v (RU.out _))))
  go_wp2
  go_region_law (first
    | (refine step_app _ rfl (.tmp 41) (.tmp 42) 34 rfl w.heap.size 5 i0 _ 1 1 Try.underlying34 hi0 hz0 hz1 hz2 rfl (by decide) (some ⟨w.heap.size, 0, none⟩) 0 0 [] rfl (lit_own (w := w.drewN (nq + 1)) (Nat.le_refl _) rfl) w.heap.size B k c0 (bv b) rfl (by rw [bv_length, hk.out]; omega) (HBd _ _).out (bv_one _) (by unfold maxLen; omega) (by omega) (by simp) ?_
       intro A4 c4 w4 ho4 hg4
       have HO4 : Hid (w4.ownsRow w.heap.size 5 1 (.slice A4 k c4) k (bv b)) := by
         show World.ownsRow _ _ _ _ _ _ _
         simpa using ho4
       obtain ⟨p1, p2, p3, p4, p5, p6⟩ := rpush_at (d := nq + 1) HX.out HW.out hk.out HO4.out (lit_grown (w := w.drewN (nq + 1)) rfl hg4) hS.out
       have c44 : w4.cell? ⟨g, 4, none⟩ = some (.slice A m c) := p1.cell 4
       have c45 : (w4.alloc (.cells #[.slice A4 k c4] 34)).cell? ⟨g, 4, none⟩ = some (.slice A m c) := p2.cell 4
       have P3 := hid p3
       have P4 := hid p4
       have P5 := hid p5
       have P6 := hid p6
       have hkk : 0 + k = k := Nat.zero_add k
       clear p1 p2 p3 p4 p5 p6 ho4 hg4)
    | (refine step_wn _ rfl (.tmp 40) (.tmp 44) rfl rfl P3.out ⟨w4.heap.size, 0, none⟩ 1 (.slice A4 k c4) b rfl P4.out P5.out hcr ?_
       intro A8 c8 w8 hw8 hk8
       obtain ⟨b8, e9, e10⟩ := rpush_end hq.out HX.out HLL.out HSS.out HC1.out HC2.out P6.out hk8 hw8
       have c84 : w8.cell? ⟨g, 4, none⟩ = some (.slice A m c) := b8.cell 4
       have c82 := b8.cell 2
       have c85 : w8.cell? ⟨g, 5, none⟩ = some (.bool ov) := b8.cell 5
       have f84 := b8.frozen 4
       have f85 := b8.frozen 5
       unfold rqC at c82
       rw [HCH.out] at c82
       have E9 := hid e9
       have E10 := hid e10
       have RV : Hid (∀ d, Calls Try.prog 16 #[.pointer (some ⟨g, 0, none⟩)] ((w8.setCell ⟨g, 4, none⟩ (.slice A8 (m + 1) c8)).drewN d) fun e w' => e = .returned (.int .i64 s1) ∧ w' = (w8.setCell ⟨g, 4, none⟩ (.slice A8 (m + 1) c8)).drewN d) := fun d => by
         obtain ⟨⟨rb', hr, _⟩, _⟩ := E9.out
         exact rused_any _ HSS (hid (hr.keep0 (drew_keep _ [] d)))
       clear b8 e9 e10 hw8 hk8))
  all_goals
    by_cases hle : ch ≤ s1
    · have d5 : decide (ch ≤ s1) = true := by simp; omega
      have e1 : ov' = true := by rw [← hv.out, riseF, if_pos (by rw [HCH.out]; exact hle)]
      subst e1
      go_wp2
      go_quiet (first
        | (go_at_call 16; first | (with_reducible exact quietx_v2 (RV.out _)) | (with_reducible exact quietx_v (RV.out _))))
      go_wp2
      go_ret
      exact ⟨rfl, E10.out _ _⟩
    · have d5 : decide (ch ≤ s1) = false := by simp; omega
      have e1 : ov' = ov := by rw [← hv.out, riseF, if_neg (by rw [HCH.out]; exact hle)]
      subst e1
      go_wp2
      go_quiet (first
        | (go_at_call 16; first | (with_reducible exact quietx_v2 (RV.out _)) | (with_reducible exact quietx_v (RV.out _))))
      go_wp2
      go_ret
      obtain ⟨⟨rb', q1, q2⟩, q3⟩ := E9.out
      exact ⟨rfl, ⟨rb', q1.keep0 (drew_keep _ [] _), q2⟩, q3.drewN _⟩
set_option maxHeartbeats 4000000 in
set_option maxRecDepth 100000 in
theorem rpush_no (w : World) {S : Nat → Prop} {C : Cf} {g k c0 : Nat} {rb : Option Nat} {L : List (List UInt8)} {b : List UInt8} {B : Option Addr} {ov : Bool} (hq : Hid (Rq w S C g rb L ov)) (_hk : Hid (b.length = k)) (hkm : k ≤ maxLen)
    (h1 : C.r ≤ L.length ∨ C.b < sumB L + k) :
    Calls Try.prog 23 #[.pointer (some ⟨g, 0, none⟩), .slice B k c0] w fun e w' => e = .returned (.bool false) ∧ ∃ d, w' = w.drewN d := by
  obtain ⟨m, HM⟩ : ∃ m, Hid (L.length = m) := ⟨_, hid rfl⟩
  obtain ⟨s, HS⟩ : ∃ s, Hid (sumB L = s) := ⟨_, hid rfl⟩
  obtain ⟨cr, HCR⟩ : ∃ x, Hid (C.r = x) := ⟨_, hid rfl⟩
  obtain ⟨cb, HCB⟩ : ∃ x, Hid (C.b = x) := ⟨_, hid rfl⟩
  obtain ⟨A, c, hx, hw⟩ := hq.out.body
  have hok := hq.out.ok
  have hsum := hq.out.sum
  have hcnt := hq.out.cnt
  unfold Cf.ok at hok
  unfold maxLen at hkm
  have RU : Hid (∀ d, Calls Try.prog 16 #[.pointer (some ⟨g, 0, none⟩)] (w.drewN d) fun e w' => e = .returned (.int .i64 s) ∧ w' = w.drewN d) := fun d => rused_any _ HS (hid (hq.out.keep0 (drew_keep w [] d)))
  rw [HM.out, HCR.out, HS.out, HCB.out] at h1
  rw [HM.out] at hx
  rw [HCR.out, HCB.out] at hok
  rw [HCB.out, HS.out] at hsum
  rw [HM.out, HCR.out] at hcnt
  have cc0 := hx.cell 0
  have cc1 := hx.cell 1
  have cc4 := hx.cell 4
  unfold rqC at cc0 cc1 cc4
  rw [HCR.out, HCB.out] at cc0 cc1
  have hcb : cb ≤ 65536 := by omega
  have hsb : s ≤ 65536 := by omega
  clear hx hw hok hq
  by_cases h2 : cr = m
  · subst h2
    have d1 : ((cr : Int) == cr) = true := by simp
    go_enter Try.func23, Try.ntmps23
    go_wp2
    go_quiet (fail)
    go_wp2
    go_ret
    exact ⟨rfl, _, rfl⟩
  · have d1 : ((m : Int) == cr) = false := by simp; omega
    have d1' : (m == cr) = false := by simp; omega
    by_cases h3 : cb < k
    · have d2 : decide (cb < k) = true := by simp; omega
      clear h1
      go_enter Try.func23, Try.ntmps23
      go_wp2
      go_quiet (fail)
      go_wp2
      go_ret
      exact ⟨rfl, _, rfl⟩
    · have d2 : decide (cb < k) = false := by simp; omega
      have hkb : k ≤ 65536 := by omega
      have d3 : decide ((cb : Int) < (s : Int) + k) = true := decide_eq_true (by omega)
      clear h1
      go_enter Try.func23, Try.ntmps23
      go_wp2
      go_quiet (first
        | (go_at_call 16; first | (with_reducible exact quietx_v2 (RU.out _)) | (with_reducible exact quietx_v (RU.out _))))
      go_wp2
      go_ret
      exact ⟨rfl, _, rfl⟩
/-- What the document's Push does, for any queue and any bytes. -/
theorem rpush_any (w : World) {S : Nat → Prop} {C : Cf} {g k c0 : Nat} {rb : Option Nat} {L L' : List (List UInt8)} {b : List UInt8} {B : Option Addr} {ov ok ov' : Bool} (hq : Hid (Rq w S C g rb L ov)) (hk : Hid (b.length = k)) (hkm : k ≤ maxLen) (hb : Hid (Lies w w.heap.size B (bv b))) (hS : Hid (∀ x, w.heap.size ≤ x → S x))
    (hp : Hid (pushF C L ov b = (ok, L', ov'))) :
    Calls Try.prog 23 #[.pointer (some ⟨g, 0, none⟩), .slice B k c0] w fun e w' => e = .returned (.bool ok) ∧ Hid ((∃ rb', Rq w' S C g rb' L' ov' ∧ ∀ x, rb' = some x → rb = some x ∨ w.heap.size ≤ x) ∧ But (g :: rb.toList) w w') := by
  have hp' := hp.out
  unfold pushF at hp'
  rw [hk.out] at hp'
  by_cases h : C.r ≤ L.length ∨ C.b < sumB L + k
  · rw [if_pos h] at hp'
    injection hp' with e1 e2
    injection e2 with e2 e3
    subst e1; subst e2; subst e3
    refine (rpush_no w hq hk hkm h).mono ?_
    rintro e w' ⟨rfl, d, rfl⟩
    exact ⟨rfl, ⟨⟨rb, hq.out.keep0 (drew_keep _ _ _), fun x hx => .inl hx⟩, drew_keep _ _ _⟩⟩
  · rw [if_neg h] at hp'
    injection hp' with e1 e2
    injection e2 with e2 e3
    subst e1; subst e2
    exact rpush_yes w hq hk hb hS (by show _ < _; omega) (by show _ ≤ _; omega) e3
/-- What a step of the document's queue answers, in a world. -/
structure RdoR (w w' : World) (S : Nat → Prop) (C : Cf) (g : Nat) (rb : Option Nat) (out : List UInt8) (L' : List (List UInt8)) (ov' : Bool) (l : Nat) (A : Option Addr) (c : Nat) : Prop where
  own : w'.ownsRow 0 5 1 (.slice A l c) l (bv out)
  qu : ∃ rb', Rq w' S C g rb' L' ov' ∧ ∀ x, rb' = some x → rb = some x ∨ w.heap.size ≤ x
  but : But (g :: rb.toList) w w'
theorem rq_al {w : World} {S : Nat → Prop} {C : Cf} {g : Nat} {rb : Option Nat} {L : List (List UInt8)} {ov : Bool} (hq : Hid (Rq w S C g rb L ov)) (o : Obj) : Hid (Rq (w.alloc o) S C g rb L ov) :=
  hq.out.keep0 ((But.refl [] w).alloc o)
section
variable (w : World) {S : Nat → Prop} {C : Cf} {g c l bl : Nat} {rb : Option Nat} {L L' : List (List UInt8)} {b out : List UInt8} {A : Option Addr} {ov ok ov' : Bool}
set_option maxHeartbeats 2000000 in
set_option maxRecDepth 100000 in
theorem rdo_1 (hq : Hid (Rq w S C g rb L ov)) (hb : Hid (SlB w w.heap.size A c b)) (hbl : Hid (b.length = bl)) (hS : Hid (∀ x, w.heap.size ≤ x → S x)) (hp : Hid (doF C 1 b L ov = (out, ok, L', ov'))) (hl : Hid (out.length = l)) :
    Calls Try.prog 12 #[.pointer (some ⟨g, 0, none⟩), .agg #[.int .i64 1, .slice A bl c]] w fun e w' => ∃ A' c', e = .returned (.tuple #[.slice A' l c', .bool ok]) ∧ Hid (RdoR w w' S C g rb out L' ov' l A' c') := by
  have hp' := hp.out
  rw [doF, if_pos rfl] at hp'
  injection hp' with e1 e2
  subst e1
  have e2 := hid e2
  have HQ := rq_al hq (.cells #[.int .i64 1, .slice A bl c] 40)
  have hb2 := slb_al hb (.cells #[.int .i64 1, .slice A bl c] 40)
  have HL : Hid (Lies (w.alloc (.cells #[.int .i64 1, .slice A bl c] 40)) (w.alloc (.cells #[.int .i64 1, .slice A bl c] 40)).heap.size A (bv b)) := hb2.out.2.2.2
  have HS2 : Hid (∀ x, (w.alloc (.cells #[.int .i64 1, .slice A bl c] 40)).heap.size ≤ x → S x) := fun x hx => hS.out x (by simp at hx; omega)
  have hm : bl ≤ maxLen := by have h1 := hb.out.1; have h2 := hb.out.2.1; rw [hbl.out] at h1; omega
  have hl0 := hl.out
  subst hl0
  clear hb2 hb hS hq hp
  go_enter Try.func12, Try.ntmps12
  go_wp2_with (first
    | (go_at_call 23
       ((with_reducible refine (rpush_any _ HQ hbl hm HL HS2 e2).mono ?_); rintro e w2 ⟨rfl, HP⟩)))
  go_ret2
  obtain ⟨⟨rb', h1, h2⟩, h3⟩ := HP.out
  exact ⟨none, 0, rfl, World.ownsRow_nil _ _ _ _, ⟨rb', h1, blk_al h2⟩, but_al h3⟩
set_option maxHeartbeats 2000000 in
set_option maxRecDepth 100000 in
theorem rdo_2 (hq : Hid (Rq w S C g rb L ov)) (hp : Hid (doF C 2 b L ov = (out, ok, L', ov'))) (hl : Hid (out.length = l)) :
    Calls Try.prog 12 #[.pointer (some ⟨g, 0, none⟩), .agg #[.int .i64 2, .slice A bl c]] w fun e w' => ∃ A' c', e = .returned (.tuple #[.slice A' l c', .bool ok]) ∧ Hid (RdoR w w' S C g rb out L' ov' l A' c') := by
  have hp' := hp.out
  rw [doF, if_neg (by decide), if_pos rfl] at hp'
  have e2 := hid hp'
  have HQ := rq_al hq (.cells #[.int .i64 2, .slice A bl c] 40)
  clear hq hp hp'
  go_enter Try.func12, Try.ntmps12
  go_wp2_with (first
    | (go_at_call 24
       ((with_reducible refine (rpop_any _ HQ e2 hl).mono ?_); rintro e w2 ⟨A2, c2, rfl, HO, HQ2, HK2⟩)))
  go_ret2
  exact ⟨A2, c2, rfl, HO.out, ⟨rb, HQ2.out, fun x hx => .inl hx⟩, but_al (HK2.out.mono (by simp))⟩
set_option maxHeartbeats 2000000 in
set_option maxRecDepth 100000 in
theorem rdo_3 (hq : Hid (Rq w S C g rb L ov)) (hp : Hid (doF C 3 b L ov = (out, ok, L', ov'))) (hl : Hid (out.length = l)) :
    Calls Try.prog 12 #[.pointer (some ⟨g, 0, none⟩), .agg #[.int .i64 3, .slice A bl c]] w fun e w' => ∃ A' c', e = .returned (.tuple #[.slice A' l c', .bool ok]) ∧ Hid (RdoR w w' S C g rb out L' ov' l A' c') := by
  have hp' := hp.out
  rw [doF, if_neg (by decide), if_neg (by decide), if_pos rfl] at hp'
  injection hp' with e1 e2
  injection e2 with e2 e3
  injection e3 with e3 e4
  subst e3; subst e4
  have HF : Hid (frontF L = (out, ok)) := by
    show _ = _
    rw [← e1, ← e2]
  have HQ := rq_al hq (.cells #[.int .i64 3, .slice A bl c] 40)
  clear hq hp e1 e2
  go_enter Try.func12, Try.ntmps12
  go_wp2_with (first
    | (go_at_call 25
       ((with_reducible refine (rfront_any _ HQ HF hl).mono ?_); rintro e w2 ⟨A2, c2, rfl, HO, rfl⟩)))
  go_ret2
  exact ⟨A2, c2, rfl, HO.out, ⟨rb, HQ.out, fun x hx => .inl hx⟩, (But.refl _ _).alloc _⟩
set_option maxHeartbeats 2000000 in
set_option maxRecDepth 100000 in
theorem rdo_else (k : Int) (hk : k ≠ 1 ∧ k ≠ 2 ∧ k ≠ 3) (hq : Hid (Rq w S C g rb L ov)) (hp : Hid (doF C k b L ov = (out, ok, L', ov'))) (hl : Hid (out.length = l)) :
    Calls Try.prog 12 #[.pointer (some ⟨g, 0, none⟩), .agg #[.int .i64 k, .slice A bl c]] w fun e w' => ∃ A' c', e = .returned (.tuple #[.slice A' l c', .bool ok]) ∧ Hid (RdoR w w' S C g rb out L' ov' l A' c') := by
  have hp' := hp.out
  obtain ⟨n1, n2, n3⟩ := hk
  rw [doF, if_neg n1, if_neg n2, if_neg n3] at hp'
  injection hp' with e1 e2
  injection e2 with e2 e3
  injection e3 with e3 e4
  subst e1; subst e2; subst e3; subst e4
  have hl0 := hl.out
  subst hl0
  have HQ := rq_al hq (.cells #[.int .i64 k, .slice A bl c] 40)
  clear hq hp
  have m1 : (k == 1) = false := by simpa using n1
  have m2 : (k == 2) = false := by simpa using n2
  have m3 : (k == 3) = false := by simpa using n3
  go_enter Try.func12, Try.ntmps12
  go_wp2
  go_ret2
  exact ⟨none, 0, rfl, World.ownsRow_nil _ _ _ _, ⟨rb, HQ.out, fun x hx => .inl hx⟩, (But.refl _ _).alloc _⟩
theorem rdo_any (k : Int) (hq : Hid (Rq w S C g rb L ov)) (hb : Hid (SlB w w.heap.size A c b)) (hbl : Hid (b.length = bl)) (hS : Hid (k = 1 → ∀ x, w.heap.size ≤ x → S x)) (hp : Hid (doF C k b L ov = (out, ok, L', ov'))) (hl : Hid (out.length = l)) :
    Calls Try.prog 12 #[.pointer (some ⟨g, 0, none⟩), .agg #[.int .i64 k, .slice A bl c]] w fun e w' => ∃ A' c', e = .returned (.tuple #[.slice A' l c', .bool ok]) ∧ Hid (RdoR w w' S C g rb out L' ov' l A' c') := by
  by_cases k1 : k = 1
  · subst k1; exact rdo_1 w hq hb hbl (hid (hS.out rfl)) hp hl
  by_cases k2 : k = 2
  · subst k2; exact rdo_2 w hq hp hl
  by_cases k3 : k = 3
  · subst k3; exact rdo_3 w hq hp hl
  exact rdo_else w k ⟨k1, k2, k3⟩ hq hp hl
end
end Go.Proofs.Ytibkbcffoabhfaa
