import Derived.Test.YtdcohhfbifiemaaKI
namespace Go.Proofs.Ytdcohhfbifiemaa
open Go.RowKit Go.Maps

theorem mf_pop {f : Int → Option Int} {L : List Tm} {x : Tm} (h : Mf f (L ++ [x])) (hx : ∀ y ∈ L, y.1 ≠ x.1) : Mf (delF f x.1) L := by
  refine ⟨fun j z hz => ?_, fun a v hv => ?_⟩
  · unfold delF
    rw [if_neg (hx z (List.mem_of_getElem? hz))]
    obtain ⟨hj, _⟩ := List.getElem?_eq_some_iff.1 hz
    exact h.1 j z (by rw [List.getElem?_append_left hj]; exact hz)
  · unfold delF at hv
    by_cases e : a = x.1
    · rw [if_pos e] at hv
      cases hv
    · rw [if_neg e] at hv
      obtain ⟨j, z, hz, e1, e2⟩ := h.2 a v hv
      rcases Nat.lt_or_ge j L.length with hl | hl
      · exact ⟨j, z, by rw [List.getElem?_append_left hl] at hz; exact hz, e1, e2⟩
      · rw [List.getElem?_append_right hl] at hz
        have : z = x := by
          cases hj : j - L.length with
          | zero => rw [hj] at hz; simpa using hz.symm
          | succ k => rw [hj] at hz; simp at hz
        subst this
        exact absurd e1.symm e
theorem Rw.pop {w : World} {A : Option Addr} {n c : Nat} {rb : Option Nat} {L : List Tm} {x : Tm} (h : Rw w A (n + 1) c rb (L ++ [x])) : Rw w A n c rb L := by
  have hl := h.len
  have hle := h.le
  refine ⟨by simpa using hl, by omega, h.max, ?_⟩
  rcases h.row with h1 | ⟨r, cur, e1, e2, hb, hs, he⟩
  · exact .inl h1
  · refine .inr ⟨r, cur, e1, e2, hb, hs, fun j hj => ?_⟩
    have := he j (by simp; omega)
    rw [List.getElem_append_left hj] at this
    exact this
section
variable (w : World)
set_option maxHeartbeats 4000000 in
set_option maxRecDepth 100000 in
theorem ppop_any {H M : Nat} {rb : Option Nat} {L : List Tm} {x : Tm} (hp : Hid (Pl w H M rb (L ++ [x]))) :
    Calls Try.prog 44 #[.pointer (some ⟨H, 0, none⟩)] w fun e w' => e = .returned (.iface 61 (.agg #[.int .i64 x.1, .int .i64 x.2])) ∧ Hid (Pl w' H M rb L) ∧ Hid (But (plB H M rb) w w') := by
  obtain ⟨A, c, f, hb, hr, hm, hf⟩ := hp.out.body
  obtain ⟨n, hn⟩ : ∃ n, L.length = n := ⟨_, rfl⟩
  have hn1 : (L ++ [x]).length = n + 1 := by simp [hn]
  rw [hn1] at hb hr hm
  obtain ⟨r, cur, rfl, rfl, hbr, hsz, hc⟩ := hr.some_ (by omega)
  have hcc := hr.le
  have hmx := hr.max
  have hnd := List.pairwise_append.1 hp.out.nd
  have HXN : Hid (∀ y ∈ L, y.1 ≠ x.1) := hid (fun y hy => hnd.2.2 y hy x (by simp))
  have HO : Hid (okI x.1 ∧ okI x.2) := hid (hp.out.wf x (by simp))
  have hcn := hc n (by omega)
  have hxe : (L ++ [x])[n]'(by omega) = x := by
    rw [List.getElem_append_right (by omega)]
    simp [hn]
  rw [hxe] at hcn
  have r0 : w.cell? ⟨r, n * 2, none⟩ = _ := (hbr.cell (n * 2)).trans hcn.1
  have r1 : w.cell? ⟨r, n * 2 + 1, none⟩ = _ := (hbr.cell (n * 2 + 1)).trans hcn.2
  have hn3 : n ≤ 300 := by have := hp.out.cnt; omega
  obtain ⟨x1, x2⟩ := x
  simp only at r0 r1
  have HN := hid hn
  have HB := hid hb
  have HBR := hid hbr
  have HR := hid hr.pop
  have HM := hid hm
  have HF := hid hf
  have HE := hid (pl_ne hb hr hm)
  have c0 : w.cell? ⟨H, 0, none⟩ = some (.slice (some ⟨r, 0, none⟩) (n + 1) c) := hb.cell 0
  have f0 : w.frozen? ⟨H, 0, none⟩ = false := hb.frozen 0
  have e1 : ((n + 1 : Nat) : Int) - 1 = ((n : Nat) : Int) := by omega
  have bi : 0 ≤ (n : Int) ∧ (n : Int) < ((n + 1 : Nat) : Int) := by omega
  have c01 : (w.alloc (.cells #[.int .i64 x1, .int .i64 x2] 61)).cell? ⟨H, 0, none⟩ = some (.slice (some ⟨r, 0, none⟩) (n + 1) c) := (((But.refl [] w).alloc _).box hb (by simp)).cell 0
  have f01 : (w.alloc (.cells #[.int .i64 x1, .int .i64 x2] 61)).frozen? ⟨H, 0, none⟩ = false := (((But.refl [] w).alloc _).box hb (by simp)).frozen 0
  clear hb hr hm hf hn hn1 hbr hc hcn hxe hnd hsz
  unfold maxLen at hmx
  go_enter Try.func44, Try.ntmps44
  go_wp2
  have HX1 : Hid (Box (w.alloc (.cells #[.int .i64 x1, .int .i64 x2] 61)) w.heap.size 61 #[.int .i64 x1, .int .i64 x2]) := Box.new _ _ _
  have HK1 : Hid (But [H] w ((w.alloc (.cells #[.int .i64 x1, .int .i64 x2] 61)).setCell ⟨H, 0, none⟩ (.slice (some ⟨r, 0, none⟩) n c))) := ((But.refl _ w).alloc _).store (.inl (by simp)) _
  have hHg : H ≠ w.heap.size := by have := HB.out.lt; omega
  have HX2 : Hid (Box ((w.alloc (.cells #[.int .i64 x1, .int .i64 x2] 61)).setCell ⟨H, 0, none⟩ (.slice (some ⟨r, 0, none⟩) n c)) w.heap.size 61 #[.int .i64 x1, .int .i64 x2]) := hid (((But.refl [H] _).store (.inl (by simp)) _).box HX1.out (by simp; exact fun e => hHg e.symm))
  have HB2 : Hid (Box ((w.alloc (.cells #[.int .i64 x1, .int .i64 x2] 61)).setCell ⟨H, 0, none⟩ (.slice (some ⟨r, 0, none⟩) n c)) H 59 #[.slice (some ⟨r, 0, none⟩) n c, .map (some M)]) := (((But.refl [] w).alloc _).box HB.out (by simp)).store 0 _
  obtain ⟨g, hg⟩ : ∃ g, w.heap.size = g := ⟨_, rfl⟩
  rw [hg] at HX2 ⊢
  generalize ((w.alloc (.cells #[.int .i64 x1, .int .i64 x2] 61)).setCell ⟨H, 0, none⟩ (.slice (some ⟨r, 0, none⟩) n c)) = w2 at HX2 HB2 HK1 ⊢
  clear HX1 hHg c0 f0 c01 f01 r0 r1 hg
  have HR2 := hid (HR.out.keep HK1.out (fun y hy => by simp; exact (HE.out.2 y hy).1))
  have HM2 := hid (HM.out.keep HK1.out (by simp; exact fun e => HE.out.1 e.symm))
  have c1 : w2.cell? ⟨H, 1, none⟩ = some (.map (some M)) := HB2.out.cell 1
  have g0 : w2.cell? ⟨g, 0, none⟩ = some (.int .i64 x1) := HX2.out.cell 0
  have d1 : w2.drew.cell? ⟨H, 1, none⟩ = some (.map (some M)) := HB2.out.cell 1
  have k0 : w2.drew.cell? ⟨g, 0, none⟩ = some (.int .i64 x1) := HX2.out.cell 0
  have hm2 : Mp w2.drew 3 M (n + 1) f := HM2.out
  obtain ⟨w3, hrun, hm3, hk3⟩ := hm2.del Try.underlying57 HO.out.1 0
  have HM3 := hid hm3
  have HK3 := hid (but_drew0 hk3)
  clear hm2 hm3 hk3
  go_region
  all_goals
    have HX3 := hid (HK3.out.box HX2.out (by simp; exact fun e => HM2.out.ne HX2.out e.symm))
    have HB3 := hid (HK3.out.box HB2.out (by simp; exact HE.out.1))
    have HR3 := hid (HR2.out.keep HK3.out (fun y hy => by simp; exact (HE.out.2 y hy).2))
    have g3 : w3.cell? ⟨g, 0, none⟩ = some (.int .i64 x1) := HX3.out.cell 0
    have g4 : w3.cell? ⟨g, 1, none⟩ = some (.int .i64 x2) := HX3.out.cell 1
    go_wp2
    go_ret
    refine ⟨rfl, ⟨fun y hy => hp.out.wf y (by simp [hy]), by have := HN.out; omega, (List.pairwise_append.1 hp.out.nd).1, some ⟨r, 0, none⟩, c, delF f x1, ?_, ?_, ?_, mf_pop HF.out HXN.out⟩, (HK1.out.mono (by simp [plB])).trans HK3.out (fun y hy => .inl (by simp at hy; subst hy; simp [plB]))⟩
    · rw [HN.out]
      exact HB3.out
    · rw [HN.out]
      exact HR3.out
    · rw [HN.out]
      have := HM3.out
      rw [if_pos (by rw [HF.out.1 n (x1, x2) (by simp [HN.out])]; rfl)] at this
      exact this
end
end Go.Proofs.Ytdcohhfbifiemaa
