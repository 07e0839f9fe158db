import Derived.Test.YtdcohhfbifiemaaKH
namespace Go.Proofs.Ytdcohhfbifiemaa
open Go.RowKit Go.Maps

theorem assert61 (w : World) (v : Value) : (Instr.typeAssert (.iface 61 v) 20 61 false).run Try.prog w = .ok v w := by kernel_rfl
theorem mf_snoc {f : Int → Option Int} {L : List Tm} {x : Tm} (h : Mf f L) (hx : ∀ y ∈ L, y.1 ≠ x.1) : Mf (putF f x.1 (L.length : Int)) (L ++ [x]) := by
  refine ⟨fun j z hz => ?_, fun a v hv => ?_⟩
  · unfold putF
    rcases Nat.lt_trichotomy j L.length with hl | hl | hl
    · rw [List.getElem?_append_left hl] at hz
      rw [if_neg (hx z (List.mem_of_getElem? hz))]
      exact h.1 j z hz
    · subst hl
      simp at hz
      subst hz
      rw [if_pos rfl]
    · rw [List.getElem?_eq_none (by simp; omega)] at hz
      cases hz
  · unfold putF at hv
    by_cases e : a = x.1
    · rw [if_pos e] at hv
      injection hv with hv
      exact ⟨L.length, x, by simp, e.symm, hv.symm⟩
    · rw [if_neg e] at hv
      obtain ⟨j, z, hz, e1, e2⟩ := h.2 a v hv
      obtain ⟨hj, _⟩ := List.getElem?_eq_some_iff.1 hz
      exact ⟨j, z, by rw [List.getElem?_append_left hj]; exact hz, e1, e2⟩
theorem mf_none {f : Int → Option Int} {L : List Tm} {a : Int} (h : Mf f L) (hx : ∀ y ∈ L, y.1 ≠ a) : f a = none := by
  cases hv : f a with
  | none => rfl
  | some v =>
    obtain ⟨j, z, hz, e1, _⟩ := h.2 a v hv
    exact absurd e1 (hx z (List.mem_of_getElem? hz))
theorem pl_ne {w : World} {H M n c : Nat} {A : Option Addr} {rb : Option Nat} {L : List Tm} {f : Int → Option Int} (hb : Box w H 59 #[.slice A n c, .map (some M)]) (hr : Rw w A n c rb L) (hm : Mp w 3 M n f) : H ≠ M ∧ (∀ x, rb = some x → x ≠ H ∧ x ≠ M) := by
  refine ⟨fun e => hm.ne hb e.symm, fun x hx => ?_⟩
  obtain ⟨cs, hx⟩ := hr.box x hx
  exact ⟨fun e => box_ne hx hb (by decide) e, fun e => hm.ne hx e.symm⟩
theorem push_fin {w w1 w2 w3 w8 : World} {H M n c8 : Nat} {A8 : Option Addr} {rb : Option Nat} {L : List Tm} {x : Tm} {f : Int → Option Int} (hp : Pl w H M rb L) (hx : ∀ y ∈ L, y.1 ≠ x.1) (ho : okI x.1 ∧ okI x.2) (hn : L.length = n) (hn3 : n < 300)
    (hE : H ≠ M ∧ ∀ y, rb = some y → y ≠ H ∧ y ≠ M) (k1 : But [] w w1) (k2 : But [M] w1 w2) (k3 : But [] w2 w3) (k8 : But rb.toList w3 w8) {A0 : Option Addr} {n0 c0 : Nat} (hb : Box w8 H 59 #[.slice A0 n0 c0, .map (some M)])
    (hw : ∃ rb', Rw w8 A8 (n + 1) c8 rb' (L ++ [x]) ∧ ∀ y, rb' = some y → rb = some y ∨ w3.heap.size ≤ y) (hm : Mp w8 3 M (n + 1) (putF f x.1 n)) (hf : Mf f L) :
    (∃ rb', Pl (w8.setCell ⟨H, 0, none⟩ (.slice A8 (n + 1) c8)) H M rb' (L ++ [x]) ∧ ∀ y, rb' = some y → rb = some y ∨ w.heap.size ≤ y) ∧ But (plB H M rb) w (w8.setCell ⟨H, 0, none⟩ (.slice A8 (n + 1) c8)) := by
  have kA : But (plB H M rb) w w8 := (((k1.mono (L' := plB H M rb) (by simp)).trans k2 (fun y hy => .inl (by simp at hy; subst hy; simp [plB]))).same (k3.mono (by simp))).trans k8 (fun y hy => .inl (by simp [plB]; simp at hy; exact .inr (.inr hy)))
  have kS : But [H] w8 (w8.setCell ⟨H, 0, none⟩ (.slice A8 (n + 1) c8)) := (But.refl [H] w8).store (.inl (by simp)) _
  obtain ⟨rb', hw8, hrb⟩ := hw
  have hl : (L ++ [x]).length = n + 1 := by simp [hn]
  refine ⟨⟨rb', ⟨fun y hy => ?_, by omega, ?_, A8, c8, putF f x.1 n, ?_, ?_, ?_, ?_⟩, fun y hy => (hrb y hy).imp id fun h => ?_⟩, (kA.trans kS (fun y hy => .inl (by simp at hy; subst hy; simp [plB])))⟩
  · rcases List.mem_append.1 hy with h | h
    · exact hp.wf y h
    · simp at h
      subst h
      exact ho
  · rw [List.pairwise_append]
    exact ⟨hp.nd, by simp, fun a ha b hb => by simp at hb; subst hb; exact hx a ha⟩
  · rw [hl]
    exact hb.store 0 _
  · rw [hl]
    refine hw8.keep kS (fun y hy => ?_)
    obtain ⟨cs, hy⟩ := hw8.box y hy
    simp only [List.mem_singleton]
    exact fun e => box_ne hy hb (by decide) e
  · rw [hl]
    exact hm.keep kS (by simp only [List.mem_singleton]; exact fun e => hE.1 e.symm)
  · rw [← hn]
    exact mf_snoc hf hx
  · exact Nat.le_trans k1.size (Nat.le_trans k2.size (Nat.le_trans k3.size h))
section
variable (w : World)
set_option maxHeartbeats 4000000 in
set_option maxRecDepth 100000 in
theorem ppush_any {H M : Nat} {rb : Option Nat} {L : List Tm} {x : Tm} (hp : Hid (Pl w H M rb L)) (hx : Hid (∀ y ∈ L, y.1 ≠ x.1)) (ho : Hid (okI x.1 ∧ okI x.2)) (hl : Hid (L.length < 300)) :
    Calls Try.prog 45 #[.pointer (some ⟨H, 0, none⟩), .iface 61 (.agg #[.int .i64 x.1, .int .i64 x.2])] w fun e w' => e = .returned (.tuple #[]) ∧ Hid ((∃ rb', Pl w' H M rb' (L ++ [x]) ∧ ∀ y, rb' = some y → rb = some y ∨ w.heap.size ≤ y) ∧ But (plB H M rb) w w') := by
  obtain ⟨A, c, f, hb, hr, hm, hf⟩ := hp.out.body
  obtain ⟨n, hn⟩ : ∃ n, L.length = n := ⟨_, rfl⟩
  have hn3 := hl.out
  rw [hn] at hb hr hm hn3
  have HN := hid hn
  have HB := hid hb
  have HR := hid hr
  have HM := hid hm
  have HF := hid hf
  have HE := hid (pl_ne hb hr hm)
  obtain ⟨x1, x2⟩ := x
  have hta := assert61
  clear hb hr hm hf hn
  go_enter Try.func45, Try.ntmps45
  go_wp2
  have HX1 : Hid (Box (w.alloc (.cells #[.int .i64 x1, .int .i64 x2] 61)) w.heap.size 61 #[.int .i64 x1, .int .i64 x2]) := Box.new _ _ _
  have HK1 : Hid (But [] w (w.alloc (.cells #[.int .i64 x1, .int .i64 x2] 61))) := (But.refl _ w).alloc _
  obtain ⟨g, hg⟩ : ∃ g, w.heap.size = g := ⟨_, rfl⟩
  rw [hg] at HX1 ⊢
  clear hg
  generalize (w.alloc (.cells #[.int .i64 x1, .int .i64 x2] 61)) = w1 at HX1 HK1 ⊢
  have HB1 := hid (HK1.out.box HB.out (by simp))
  have HR1 := hid (HR.out.keep HK1.out (by simp))
  have HM1 := hid (HM.out.keep HK1.out (by simp))
  have c0 : w1.cell? ⟨H, 0, none⟩ = _ := HB1.out.cell 0
  have c1 : w1.cell? ⟨H, 1, none⟩ = _ := HB1.out.cell 1
  have g0 : w1.cell? ⟨g, 0, none⟩ = _ := HX1.out.cell 0
  have d0 : w1.drew.cell? ⟨H, 0, none⟩ = _ := HB1.out.cell 0
  have d1 : w1.drew.cell? ⟨H, 1, none⟩ = _ := HB1.out.cell 1
  have k0 : w1.drew.cell? ⟨g, 0, none⟩ = _ := HX1.out.cell 0
  have hm1 : Mp w1.drew 3 M n f := HM1.out
  obtain ⟨w2, hrun, hm2, hk2⟩ := hm1.put Try.underlying57 Try.underlying3 (by unfold maxLen; omega) ho.out.1 (okN n (by omega))
  have HM2 := hid hm2
  have HK2 := hid (but_drew0 hk2)
  clear hm1 hm2 hk2
  go_region
  all_goals
    have HX2 := hid (HK2.out.box HX1.out (by simp; exact fun e => HM1.out.ne HX1.out e.symm))
    have HB2 := hid (HK2.out.box HB1.out (by simp; exact HE.out.1))
    have HR2 := hid (HR1.out.keep HK2.out (fun y hy => by simp; exact (HE.out.2 y hy).2))
    have c02 : w2.cell? ⟨H, 0, none⟩ = _ := HB2.out.cell 0
    have g02 : w2.cell? ⟨g, 0, none⟩ = _ := HX2.out.cell 0
    have g12 : w2.cell? ⟨g, 1, none⟩ = _ := HX2.out.cell 1
    have d02 : w2.drew.cell? ⟨H, 0, none⟩ = _ := HB2.out.cell 0
    have k02 : w2.drew.cell? ⟨g, 0, none⟩ = _ := HX2.out.cell 0
    have k12 : w2.drew.cell? ⟨g, 1, none⟩ = _ := HX2.out.cell 1
    have HX3 : Hid (Box (w2.drew.alloc (.cells #[.int .i64 x1, .int .i64 x2] 61)) w2.heap.size 61 #[.int .i64 x1, .int .i64 x2]) := Box.new _ _ _
    have HK3 : Hid (But [] w2 (w2.drew.alloc (.cells #[.int .i64 x1, .int .i64 x2] 61))) := ((But.refl _ w2).drew).alloc _
    have HR3 := hid (HR2.out.keep HK3.out (by simp))
    have HB3 := hid (HK3.out.box HB2.out (by simp))
    have HM3 := hid (HM2.out.keep HK3.out (by simp))
    have c03 : (w2.alloc (.cells #[.int .i64 x1, .int .i64 x2] 61)).cell? ⟨H, 0, none⟩ = some (.slice A n c) := HB3.out.cell 0
    have d03 : (w2.drew.alloc (.cells #[.int .i64 x1, .int .i64 x2] 61)).cell? ⟨H, 0, none⟩ = some (.slice A n c) := HB3.out.cell 0
    go_wp2
    go_region_law (first
      | (refine step_rw _ rfl (.tmp 22) (.tmp 24) rfl rfl HR3.out ⟨w2.heap.size, 0, none⟩ 1 (x1, x2) rfl (HX3.out.cell 0) (HX3.out.cell 1) (by omega) ?_
         intro A8 c8 w8 hw8 hk8
         have HB8 := hid (hk8.box HB3.out (fun e => by simp at e; exact (HE.out.2 H e).1 rfl))
         have HM8 := hid (HM3.out.keep hk8 (fun e => by simp at e; exact (HE.out.2 M e).2 rfl))
         have c08 : w8.cell? ⟨H, 0, none⟩ = _ := HB8.out.cell 0
         have f08 : w8.frozen? ⟨H, 0, none⟩ = _ := HB8.out.frozen 0
         have HW8 := hid hw8
         have HK8 := hid hk8
         clear hw8 hk8))
    all_goals
      go_wp2
      go_end0
      exact ⟨rfl, push_fin hp.out hx.out ho.out HN.out hn3 HE.out HK1.out HK2.out HK3.out HK8.out HB8.out HW8.out (by have := HM8.out; rw [if_neg (by rw [mf_none HF.out hx.out]; simp)] at this; exact this) HF.out⟩
end
end Go.Proofs.Ytdcohhfbifiemaa
