import Derived.Test.YtibkbcffoabhfaaKD
namespace Go.Proofs.Ytibkbcffoabhfaa
open Go.RowKit

theorem step_wn (w : World) {ops : Array Oper} {o : Oper} {a : Act} {K : Act → World → Prop} {Q : Exit → Act → World → Prop} {E : Prop} (hgd : o.guard = none) (s x : Operand)
    (ho : o.op = .call { callee := .builtin .append, args := #[s, x], argTypes := #[43, 43] })
    {S : Nat → Prop} {A : Option Addr} {n c : Nat} {rb : Option Nat} {L : List (List UInt8)} (hs : a.eval s = .slice A n c) (hw : Wn w S A n c rb L) (ad : Addr) (c2 : Nat) (u : Value) (bs : List UInt8)
    (hx : a.eval x = .slice (some ad) 1 c2) (hc : w.cell? ad = some u) (hu : El w S u bs) (hn : n + 1 ≤ 1000000)
    (h : ∀ A' c' w', (∃ rb', Wn w' S A' (n + 1) c' rb' (L ++ [bs]) ∧ ∀ x, rb' = some x → rb = some x ∨ w.heap.size ≤ x) → But rb.toList w w' → K (a.put o.dst (.slice A' (n + 1) c')) w') :
    if Region.wanted o (yielded ops a.tmps) = true then Oper.wp Try.prog o a w K Q else E := by
  have hwt : Region.wanted o (yielded ops a.tmps) = true := by simp [Region.wanted, hgd]
  rw [if_pos hwt]
  obtain ⟨A', c', w', hrun, h2, h3⟩ := hw.app ad c2 u bs o.type hc hu hn
  unfold Oper.wp execOp
  simp only [ho, resolve, invoke, builtin, Sem.run_bind, Sem.run_pure, Result.andThen_ok, List.map_toArray, List.map_cons, List.map_nil, hs, hx, hrun]
  exact h A' c' w' h2 h3

/-- What Push answers, and what waits behind it. -/
def pushF (C : Cf) (L : List (List UInt8)) (ov : Bool) (b : List UInt8) : Bool × List (List UInt8) × Bool :=
  if C.r ≤ L.length ∨ C.b < sumB L + b.length then (false, L, ov) else (true, L ++ [b], riseF C (sumB L + b.length) ov)

theorem drew_keep (w : World) (K : List Nat) (d : Nat) : But K w (w.drewN d) := (But.refl _ _).drewN d
/-- Behind the copy of what is pushed, and its literal. -/
theorem push_at {w w2 : World} {S : Nat → Prop} {C : Cf} {g m c k s : Nat} {A A2 : Option Addr} {c2 : Nat} {rb : Option Nat} {L : List (List UInt8)} {b : List UInt8} {ov : Bool} {cs : Array Value} {d : Nat} (h1 : Box w g 57 (quC C g (.slice A m c) s ov)) (h2 : Wn w S A m c rb L) (hk : b.length = k)
    (ho : w2.ownsRow (w.drewN d).heap.size 5 1 (.slice A2 k c2) k (bv b)) (hb : Below (w.drewN d).heap.size (w.drewN d) w2) (hcs : cs = #[.slice A2 k c2]) (hS : ∀ x, w.heap.size ≤ x → S x) :
    Box w2 g 57 (quC C g (.slice A m c) s ov) ∧ Box (w2.alloc (.cells cs 34)) g 57 (quC C g (.slice A m c) s ov) ∧ Wn (w2.alloc (.cells cs 34)) S A m c rb L ∧ (w2.alloc (.cells cs 34)).cell? ⟨w2.heap.size, 0, none⟩ = some (.slice A2 k c2) ∧ El (w2.alloc (.cells cs 34)) S (.slice A2 k c2) b ∧ But [] w (w2.alloc (.cells cs 34)) := by
  subst hk
  subst hcs
  have hk0 : But [] w w2 := (drew_keep w [] d).same (But.of_below hb [])
  have hk1 : But [] w (w2.alloc (.cells #[.slice A2 b.length c2] 34)) := hk0.alloc _
  refine ⟨hk0.box h1 (by simp), hk1.box h1 (by simp), h2.keep hk1 (by simp) (by simp), ?_, ?_, hk1⟩
  · exact (Box.new w2 34 #[.slice A2 b.length c2]).cell 0
  · exact ⟨A2, c2, rfl, own_mono (ho.alloc _) (Nat.zero_le _), fun x hx => hS x (by have := (ho.lt x hx).1; simpa using this)⟩
/-- Behind the append: the stores of Push. -/
theorem push_boxes {w w3 w8 : World} {S : Nat → Prop} {C : Cf} {g m c s s1 : Nat} {A A8 : Option Addr} {c8 : Nat} {rb : Option Nat} {L' : List (List UInt8)} {ov : Bool} (h1 : Box w g 57 (quC C g (.slice A m c) s ov)) (hrb : rb ≠ some g)
    (k3 : But [] w w3) (k8 : But rb.toList w3 w8) (h8 : ∃ rb', Wn w8 S A8 (m + 1) c8 rb' L' ∧ ∀ x, rb' = some x → rb = some x ∨ w3.heap.size ≤ x) :
    Box w8 g 57 (quC C g (.slice A m c) s ov) ∧ Box (w8.setCell ⟨g, 2, none⟩ (.slice A8 (m + 1) c8)) g 57 (quC C g (.slice A8 (m + 1) c8) s ov) ∧
    Box ((w8.setCell ⟨g, 2, none⟩ (.slice A8 (m + 1) c8)).setCell ⟨g, 3, none⟩ (.int .i64 s1)) g 57 (quC C g (.slice A8 (m + 1) c8) s1 ov) ∧
    (∃ rb', Wn ((w8.setCell ⟨g, 2, none⟩ (.slice A8 (m + 1) c8)).setCell ⟨g, 3, none⟩ (.int .i64 s1)) S A8 (m + 1) c8 rb' L' ∧ ∀ x, rb' = some x → rb = some x ∨ w.heap.size ≤ x) ∧
    But (g :: rb.toList) w ((w8.setCell ⟨g, 2, none⟩ (.slice A8 (m + 1) c8)).setCell ⟨g, 3, none⟩ (.int .i64 s1)) := by
  have b3 := k3.box h1 (by simp)
  have b8 : Box w8 g 57 (quC C g (.slice A m c) s ov) := k8.box b3 (by cases rb with
    | none => simp
    | some r => simp at hrb ⊢; exact fun e => hrb e.symm)
  have b9 : Box (w8.setCell ⟨g, 2, none⟩ (.slice A8 (m + 1) c8)) g 57 (quC C g (.slice A8 (m + 1) c8) s ov) := by
    have := b8.store 2 (.slice A8 (m + 1) c8)
    unfold quC at this ⊢
    simpa using this
  have b10 : Box ((w8.setCell ⟨g, 2, none⟩ (.slice A8 (m + 1) c8)).setCell ⟨g, 3, none⟩ (.int .i64 s1)) g 57 (quC C g (.slice A8 (m + 1) c8) s1 ov) := by
    have := b9.store 3 (.int .i64 s1)
    unfold quC at this ⊢
    simpa using this
  have k10 : But [g] w8 ((w8.setCell ⟨g, 2, none⟩ (.slice A8 (m + 1) c8)).setCell ⟨g, 3, none⟩ (.int .i64 s1)) := ((But.refl [g] w8).store (.inl (by simp)) _).store (.inl (by simp)) _
  refine ⟨b8, b9, b10, ?_, ?_⟩
  · obtain ⟨rb', hw, hx⟩ := h8
    have hrg : ∀ x, rb' = some x → x ∉ [g] := by
      intro x hx
      obtain ⟨cs, hb⟩ := hw.box x hx
      have := box_ne b8 hb (by decide)
      simp
      exact Ne.symm this
    refine ⟨rb', ((hw.far (K := [g]) (fun y hy => ⟨57, _, by decide, by simp at hy; subst hy; exact b8⟩)).keep k10 hrg (fun x _ hx => hx.2)).mono (fun x _ hx => hx.1), fun x hx' => (hx x hx').imp id fun h => Nat.le_trans k3.size h⟩
  · exact ((k3.mono (by simp)).same (k8.mono (by simp; exact fun x hx => .inr hx))).same (k10.mono (by simp))
theorem push_end {w w10 w11 : World} {S : Nat → Prop} {C : Cf} {g m s1 c8 : Nat} {A8 : Option Addr} {rb : Option Nat} {L L' : List (List UInt8)} {ov0 ov ov' : Bool} (hq : Qu w S C g rb L ov0) (hL : L'.length = m + 1) (hs : sumB L' = s1) (hs1 : s1 ≤ C.b) (hc1 : m + 1 ≤ C.r)
    (h10 : Box w10 g 57 (quC C g (.slice A8 (m + 1) c8) s1 ov)) (hw10 : ∃ rb', Wn w10 S A8 (m + 1) c8 rb' L' ∧ ∀ x, rb' = some x → rb = some x ∨ w.heap.size ≤ x) (k10 : But (g :: rb.toList) w w10)
    (h11 : Box w11 g 57 (quC C g (.slice A8 (m + 1) c8) s1 ov')) (k11 : But [g] w10.drew w11) :
    (∃ rb', Qu w11 S C g rb' L' ov' ∧ ∀ x, rb' = some x → rb = some x ∨ w.heap.size ≤ x) ∧ But (g :: rb.toList) w w11 := by
  have k11' : But [g] w10 w11 := ((But.refl [g] w10).drew).same k11
  obtain ⟨rb', hw, hx⟩ := hw10
  have hrg : ∀ x, rb' = some x → x ∉ [g] := by
    intro x hx
    obtain ⟨cs, hb⟩ := hw.box x hx
    have := box_ne h10 hb (by decide)
    simp
    exact Ne.symm this
  subst hs
  rw [← hL] at h11 hw
  refine ⟨⟨rb', ⟨hq.ok, hs1, by omega, A8, c8, h11, ?_⟩, hx⟩, k10.same (k11'.mono (by simp))⟩
  exact ((hw.far (K := [g]) (fun y hy => ⟨57, _, by decide, by simp at hy; subst hy; exact h10⟩)).keep k11' hrg (fun x _ hx => hx.2)).mono (fun x _ hx => hx.1)

set_option maxHeartbeats 4000000 in
set_option maxRecDepth 100000 in
theorem push_yes (w : World) {S : Nat → Prop} {C : Cf} {g k c0 : Nat} {rb : Option Nat} {L : List (List UInt8)} {b : List UInt8} {B : Option Addr} {ov ov' : Bool} (hq : Hid (Qu w S C g rb L ov)) (hk : Hid (b.length = k)) (hb : Hid (Lies w w.heap.size B (bv b))) (hS : Hid (∀ x, w.heap.size ≤ x → S x))
    (h1 : Hid (L.length < C.r)) (h2 : Hid (sumB L + k ≤ C.b)) (hv : Hid (riseF C (sumB L + k) ov = ov')) :
    Calls Try.prog 22 #[.pointer (some ⟨g, 0, none⟩), .slice B k c0] w fun e w' => e = .returned (.bool true) ∧ Hid ((∃ rb', Qu w' S C g rb' (L ++ [b]) ov' ∧ ∀ x, rb' = some x → rb = some x ∨ w.heap.size ≤ x) ∧ But (g :: rb.toList) w w') := by
  obtain ⟨m, HM⟩ : ∃ m, Hid (L.length = m) := ⟨_, hid rfl⟩
  obtain ⟨s, HS⟩ : ∃ s, Hid (sumB L = s) := ⟨_, hid rfl⟩
  obtain ⟨s1, HS1⟩ : ∃ s1, Hid (s + k = s1) := ⟨_, hid rfl⟩
  obtain ⟨cr, HCR⟩ : ∃ x, Hid (C.r = x) := ⟨_, hid rfl⟩
  obtain ⟨cb, HCB⟩ : ∃ x, Hid (C.b = x) := ⟨_, hid rfl⟩
  obtain ⟨A, c, hx, hw⟩ := hq.out.body
  have hok := hq.out.ok
  unfold Cf.ok at hok
  have hh1 := h1.out
  have hh2 := h2.out
  rw [HS.out, HS1.out] at hv
  rw [HM.out, HCR.out] at hh1
  rw [HS.out, HCB.out] at hh2
  rw [HM.out, HS.out] at hx
  rw [HM.out] at hw
  rw [HCR.out, HCB.out] at hok
  have HX := hid hx
  have HW := hid hw
  have cc0 := hx.cell 0
  have cc1 := hx.cell 1
  have cc2 := hx.cell 2
  have cc3 := hx.cell 3
  unfold quC at cc0 cc1 cc2 cc3
  rw [HCR.out, HCB.out] at cc0 cc1 cc2 cc3
  have hs1 : ((s : Int) + k) = s1 := by have := HS1.out; omega
  have hs1b : s1 ≤ 65536 := by have := HS1.out; omega
  have t1 : ¬ ((m : Int) ≥ cr) := by omega
  have t2 : ¬ ((k : Int) > (cb : Int) - s) := by omega
  have d1 : decide (cr ≤ m) = false := by simp; omega
  have d2 : decide ((cb : Int) - s < k) = false := by simp; omega
  have hkl : k ≤ 100000 := by omega
  have HBd : ∀ d, Hid (Lies (w.drewN d) (w.drewN d).heap.size B (bv b)) := fun _ => hb
  have cd2 : ∀ d, (w.drewN d).cell? ⟨g, 2, none⟩ = some (.slice A m c) := fun _ => HX.out.cell 2
  have hcb : cb ≤ 65536 := by omega
  have hsb : s ≤ 65536 := by omega
  have hcr : m + 1 ≤ 1000000 := by omega
  clear hx hw hok hh1 hh2
  have HLL : Hid ((L ++ [b]).length = m + 1) := by
    show _ = _
    simp [HM.out]
  have HSS : Hid (sumB (L ++ [b]) = s1) := by
    show _ = _
    rw [sumB_app, HS.out, hk.out, HS1.out]
  have HC1 : Hid (s1 ≤ C.b) := by
    show _ ≤ _
    have e1 := HS1.out
    have e2 := HS.out
    have e3 := h2.out
    omega
  have HC2 : Hid (m + 1 ≤ C.r) := by
    show _ ≤ _
    have e1 := HM.out
    have e3 := h1.out
    omega
  go_enter Try.func22, Try.ntmps22
  go_wp2
  go_quiet (fail)
  go_wp2
  go_region_law (first
    | (go_simp
       go_at_call 26
       ((with_reducible refine (copied_any _ (HBd (nq + 1)) hk hkl).mono ?_); rintro e w2 ⟨A2, c2, rfl, HO2, HB2⟩)
       obtain ⟨p1, p2, p3, p4, p5, p6⟩ := push_at (cs := #[.slice A2 k c2]) HX.out HW.out hk.out HO2.out HB2.out rfl hS.out
       have c22 := p1.cell 2
       have c32 := p2.cell 2
       unfold quC at c22 c32
       have P3 := hid p3
       have P4 := hid p4
       have P5 := hid p5
       have P6 := hid p6
       clear p1 p2 p3 p4 p5 p6)
    | (refine step_wn _ rfl (.tmp 37) (.tmp 40) rfl rfl P3.out ⟨w2.heap.size, 0, none⟩ 1 (.slice A2 k c2) b rfl P4.out P5.out hcr ?_
       intro A8 c8 w8 hw8 hk8
       obtain ⟨b8, b9, b10, wn10, k10⟩ := push_boxes (s1 := s1) HX.out hq.out.ne P6.out hk8 hw8
       have c82 := b8.cell 2
       have c83 := b8.cell 3
       have c87 := b8.cell 7
       have f82 := b8.frozen 2
       have f83 := b8.frozen 3
       unfold quC at c82 c83 c87
       have HB10 := box_drew (hid b10)
       have B10 := hid b10
       have W10 := hid wn10
       have K10 := hid k10
       clear b8 b9 b10 wn10 k10 hw8 hk8))
  all_goals
    go_wp2
    go_region_law (first
      | (go_simp
         go_at_call 27
         ((with_reducible refine (rise_any _ hv HB10).mono ?_); rintro e w11 ⟨rfl, HB11, HK11⟩)
         have HF := hid (push_end (L' := L ++ [b]) hq.out HLL.out HSS.out HC1.out HC2.out B10.out W10.out K10.out HB11.out HK11.out)))
  all_goals
    go_wp2
    go_ret
    exact ⟨rfl, HF⟩
set_option maxHeartbeats 4000000 in
set_option maxRecDepth 100000 in
theorem push_no (w : World) {S : Nat → Prop} {C : Cf} {g k c0 : Nat} {rb : Option Nat} {L : List (List UInt8)} {b : List UInt8} {B : Option Addr} {ov : Bool} (hq : Hid (Qu w S C g rb L ov)) (_hk : Hid (b.length = k)) (hkm : k ≤ maxLen)
    (h1 : C.r ≤ L.length ∨ C.b < sumB L + k) :
    Calls Try.prog 22 #[.pointer (some ⟨g, 0, none⟩), .slice B k c0] w fun e w' => e = .returned (.bool false) ∧ ∃ d, w' = w.drewN d := by
  obtain ⟨m, HM⟩ : ∃ m, Hid (L.length = m) := ⟨_, hid rfl⟩
  obtain ⟨s, HS⟩ : ∃ s, Hid (sumB L = s) := ⟨_, hid rfl⟩
  obtain ⟨cr, HCR⟩ : ∃ x, Hid (C.r = x) := ⟨_, hid rfl⟩
  obtain ⟨cb, HCB⟩ : ∃ x, Hid (C.b = x) := ⟨_, hid rfl⟩
  obtain ⟨A, c, hx, hw⟩ := hq.out.body
  have hok := hq.out.ok
  have hsum := hq.out.sum
  unfold Cf.ok at hok
  unfold maxLen at hkm
  rw [HM.out, HCR.out, HS.out, HCB.out] at h1
  rw [HM.out, HS.out] at hx
  rw [HCR.out, HCB.out] at hok
  rw [HCB.out, HS.out] at hsum
  have cc0 := hx.cell 0
  have cc1 := hx.cell 1
  have cc2 := hx.cell 2
  have cc3 := hx.cell 3
  unfold quC at cc0 cc1 cc2 cc3
  rw [HCR.out, HCB.out] at cc0 cc1 cc2 cc3
  have hcb : cb ≤ 65536 := by omega
  have hsb : s ≤ 65536 := by omega
  clear hx hw hok hq
  by_cases h2 : cr ≤ m
  · have d1 : decide (cr ≤ m) = true := by simp; omega
    go_enter Try.func22, Try.ntmps22
    go_wp2
    go_quiet (fail)
    go_wp2
    go_ret
    exact ⟨rfl, _, rfl⟩
  · have d1 : decide (cr ≤ m) = false := by simp; omega
    have t2 : ((k : Int) > (cb : Int) - s) := by omega
    have d2 : decide ((cb : Int) - s < k) = true := by simp; omega
    clear h1
    go_enter Try.func22, Try.ntmps22
    go_wp2
    go_quiet (fail)
    go_wp2
    go_ret
    exact ⟨rfl, _, rfl⟩
/-- What Push does, for any queue and any bytes. -/
theorem push_any (w : World) {S : Nat → Prop} {C : Cf} {g k c0 : Nat} {rb : Option Nat} {L L' : List (List UInt8)} {b : List UInt8} {B : Option Addr} {ov ok ov' : Bool} (hq : Hid (Qu w S C g rb L ov)) (hk : Hid (b.length = k)) (hkm : k ≤ maxLen) (hb : Hid (Lies w w.heap.size B (bv b))) (hS : Hid (∀ x, w.heap.size ≤ x → S x))
    (hp : Hid (pushF C L ov b = (ok, L', ov'))) :
    Calls Try.prog 22 #[.pointer (some ⟨g, 0, none⟩), .slice B k c0] w fun e w' => e = .returned (.bool ok) ∧ Hid ((∃ rb', Qu w' S C g rb' L' ov' ∧ ∀ x, rb' = some x → rb = some x ∨ w.heap.size ≤ x) ∧ But (g :: rb.toList) w w') := by
  have hp' := hp.out
  unfold pushF at hp'
  rw [hk.out] at hp'
  by_cases h : C.r ≤ L.length ∨ C.b < sumB L + k
  · rw [if_pos h] at hp'
    injection hp' with e1 e2
    injection e2 with e2 e3
    subst e1; subst e2; subst e3
    refine (push_no w hq hk hkm h).mono ?_
    rintro e w' ⟨rfl, d, rfl⟩
    exact ⟨rfl, ⟨⟨rb, hq.out.keep0 (drew_keep _ _ _), fun x hx => .inl hx⟩, drew_keep _ _ _⟩⟩
  · rw [if_neg h] at hp'
    injection hp' with e1 e2
    injection e2 with e2 e3
    subst e1; subst e2
    exact push_yes w hq hk hb hS (by show _ < _; omega) (by show _ ≤ _; omega) e3
end Go.Proofs.Ytibkbcffoabhfaa
