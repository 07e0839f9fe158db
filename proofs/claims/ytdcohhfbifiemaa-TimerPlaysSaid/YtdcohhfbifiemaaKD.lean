import Derived.Test.YtdcohhfbifiemaaKC
namespace Go.Proofs.Ytdcohhfbifiemaa
open Go.RowKit Go.Maps

/-- Two places changed. -/
def swp (L : List Tm) (i j : Nat) (x y : Tm) : List Tm := (L.set i y).set j x
theorem swp_length (L : List Tm) (i j : Nat) (x y : Tm) : (swp L i j x y).length = L.length := by simp [swp]
theorem swp_get (L : List Tm) (i j k : Nat) (x y : Tm) (hi : i < L.length) (hj : j < L.length) : (swp L i j x y)[k]? = if k = j then some x else if k = i then some y else L[k]? := by
  unfold swp
  rw [List.getElem?_set, List.getElem?_set]
  by_cases h1 : k = j
  · subst h1
    simp [hj]
  · rw [if_neg h1, if_neg (fun e => h1 e.symm)]
    by_cases h2 : k = i
    · subst h2
      simp [hi]
    · rw [if_neg h2, if_neg (fun e => h2 e.symm)]
theorem swp_perm {L : List Tm} {i j : Nat} {x y : Tm} (hi : L[i]? = some x) (hj : L[j]? = some y) : (swp L i j x y).Perm L := by
  obtain ⟨il, hx⟩ := List.getElem?_eq_some_iff.1 hi
  obtain ⟨jl, hy⟩ := List.getElem?_eq_some_iff.1 hj
  subst hx
  subst hy
  exact List.set_set_perm il jl
theorem swap_row {w : World} {r n c i j : Nat} {L : List Tm} {x y : Tm} (h : Rw w (some ⟨r, 0, none⟩) n c (some r) L) (hi : i < n) (hj : j < n) :
    Rw ((((w.setCell ⟨r, i * 2, none⟩ (.int .i64 y.1)).setCell ⟨r, i * 2 + 1, none⟩ (.int .i64 y.2)).setCell ⟨r, j * 2, none⟩ (.int .i64 x.1)).setCell ⟨r, j * 2 + 1, none⟩ (.int .i64 x.2)) (some ⟨r, 0, none⟩) n c (some r) (swp L i j x y) := by
  have hl := h.len
  have hle := h.le
  refine ⟨by rw [swp_length]; exact hl, hle, h.max, ?_⟩
  rcases h.row with ⟨e, _⟩ | ⟨r', cur, e1, e2, hb, hs, he⟩
  · cases e
  · injection e2 with e2
    subst e2
    refine .inr ⟨r, _, rfl, rfl, (((hb.store _ _).store _ _).store _ _).store _ _, by simpa using hs, fun k hk => ?_⟩
    have hk' : k < L.length := by rw [swp_length] at hk; exact hk
    have hg := swp_get L i j k x y (by omega) (by omega)
    rw [List.getElem?_eq_getElem hk] at hg
    simp only [Array.getElem?_setIfInBounds, Array.size_setIfInBounds]
    have hL := he k hk'
    by_cases h1 : k = j
    · subst h1
      rw [if_pos rfl] at hg
      injection hg with hg
      rw [hg]
      refine ⟨?_, ?_⟩
      · rw [if_neg (by omega), if_pos rfl, if_pos (by omega)]
      · rw [if_pos rfl, if_pos (by omega)]
    · rw [if_neg h1] at hg
      by_cases h2 : k = i
      · subst h2
        rw [if_pos rfl] at hg
        injection hg with hg
        rw [hg]
        refine ⟨?_, ?_⟩
        · rw [if_neg (by omega), if_neg (by omega), if_neg (by omega), if_pos rfl, if_pos (by omega)]
        · rw [if_neg (by omega), if_neg (by omega), if_pos rfl, if_pos (by omega)]
      · rw [if_neg h2, List.getElem?_eq_getElem hk'] at hg
        injection hg with hg
        rw [hg]
        refine ⟨?_, ?_⟩
        · rw [if_neg (by omega), if_neg (by omega), if_neg (by omega), if_neg (by omega)]
          exact hL.1
        · rw [if_neg (by omega), if_neg (by omega), if_neg (by omega), if_neg (by omega)]
          exact hL.2
/-- The ids' cells behind a change. -/
theorem swap_cells {w : World} {r n c i j : Nat} {L : List Tm} {x y : Tm} (h : Rw w (some ⟨r, 0, none⟩) n c (some r) (swp L i j x y)) (hi : i < n) (hj : j < n) (hxy : i = j → x = y) :
    (∃ cur, Box w r 61 cur) ∧ w.cell? ⟨r, i * 2, none⟩ = some (.int .i64 y.1) ∧ w.cell? ⟨r, j * 2, none⟩ = some (.int .i64 x.1) := by
  have hl : L.length = n := by rw [← swp_length L i j x y]; exact h.len
  obtain ⟨r', cur, e1, e2, hb, hs, he⟩ := h.some_ (by omega)
  injection e2 with e2
  subst e2
  have g : ∀ (k : Nat) (z : Tm), (swp L i j x y)[k]? = some z → w.cell? ⟨r, k * 2, none⟩ = some (.int .i64 z.1) := fun k z hz => by
    obtain ⟨hk, hz⟩ := List.getElem?_eq_some_iff.1 hz
    rw [hb.cell, ← hz]
    exact (he k hk).1
  refine ⟨⟨cur, hb⟩, g i y ?_, g j x ?_⟩
  · rw [swp_get L i j i x y (by omega) (by omega)]
    by_cases e : i = j
    · rw [if_pos e, hxy e]
    · rw [if_neg e, if_pos rfl]
  · rw [swp_get L i j j x y (by omega) (by omega), if_pos rfl]
theorem nd_get {L : List Tm} (h : L.Pairwise (fun a b => a.1 ≠ b.1)) {i j : Nat} {x y : Tm} (hi : L[i]? = some x) (hj : L[j]? = some y) (e : x.1 = y.1) : i = j := by
  obtain ⟨il, rfl⟩ := List.getElem?_eq_some_iff.1 hi
  obtain ⟨jl, rfl⟩ := List.getElem?_eq_some_iff.1 hj
  rw [List.pairwise_iff_getElem] at h
  rcases Nat.lt_trichotomy i j with hl | hl | hl
  · exact absurd e (h i j il jl hl)
  · exact hl
  · exact absurd e.symm (h j i jl il hl)
theorem swap_map {f : Int → Option Int} {L : List Tm} {i j : Nat} {x y : Tm} (hi : L[i]? = some x) (hj : L[j]? = some y) (hnd : L.Pairwise (fun a b => a.1 ≠ b.1)) (hf : Mf f L) : Mf (putF (putF f y.1 i) x.1 j) (swp L i j x y) := by
  obtain ⟨il, _⟩ := List.getElem?_eq_some_iff.1 hi
  obtain ⟨jl, _⟩ := List.getElem?_eq_some_iff.1 hj
  refine ⟨fun k z hz => ?_, fun a v hv => ?_⟩
  · rw [swp_get L i j k x y il jl] at hz
    unfold putF
    by_cases h1 : k = j
    · rw [if_pos h1] at hz
      injection hz with hz
      subst hz
      rw [if_pos rfl, h1]
    · rw [if_neg h1] at hz
      by_cases h2 : k = i
      · rw [if_pos h2] at hz
        injection hz with hz
        subst hz
        rw [if_neg (fun e => h1 (by rw [h2]; exact (nd_get hnd hj hi e).symm)), if_pos rfl, h2]
      · rw [if_neg h2] at hz
        rw [if_neg (fun e => h2 (nd_get hnd hz hi e)), if_neg (fun e => h1 (nd_get hnd hz hj e))]
        exact hf.1 k z hz
  · unfold putF at hv
    by_cases h1 : a = x.1
    · rw [if_pos h1] at hv
      injection hv with hv
      exact ⟨j, x, by rw [swp_get L i j j x y il jl, if_pos rfl], h1.symm, hv.symm⟩
    · rw [if_neg h1] at hv
      by_cases h2 : a = y.1
      · rw [if_pos h2] at hv
        injection hv with hv
        have hne : i ≠ j := fun e => by
          rw [e, hj] at hi
          injection hi with hi
          exact h1 (by rw [h2, hi])
        exact ⟨i, y, by rw [swp_get L i j i x y il jl, if_neg hne, if_pos rfl], h2.symm, hv.symm⟩
      · rw [if_neg h2] at hv
        obtain ⟨k, z, hz, e1, e2⟩ := hf.2 a v hv
        have hk1 : k ≠ j := fun e => by
          rw [e, hj] at hz
          injection hz with hz
          exact h2 (by rw [← e1, hz])
        have hk2 : k ≠ i := fun e => by
          rw [e, hi] at hz
          injection hz with hz
          exact h1 (by rw [← e1, hz])
        exact ⟨k, z, by rw [swp_get L i j k x y il jl, if_neg hk1, if_neg hk2]; exact hz, e1, e2⟩
theorem okN (k : Nat) (h : k ≤ 1000) : okI (k : Int) := WalkArith.wf_i64 (by omega)
theorem set_hit {w : World} {g : Nat} {t : TypeId} {cs : Array Value} (h : Box w g t cs) (p q : Nat) (u : Value) (hu : w.cell? ⟨g, q, none⟩ = some u) : (w.setCell ⟨g, p, none⟩ u).cell? ⟨g, q, none⟩ = some u := by
  rw [(h.store p u).cell, Array.getElem?_setIfInBounds]
  rw [h.cell] at hu
  obtain ⟨hq, _⟩ := Array.getElem?_eq_some_iff.1 hu
  split
  · rename_i e
    subst e
    rw [if_pos hq]
  · exact hu
theorem set_far {w : World} {g : Nat} {t : TypeId} {cs : Array Value} (h : Box w g t cs) (p q : Nat) (u : Value) (hne : p ≠ q) : (w.setCell ⟨g, p, none⟩ u).cell? ⟨g, q, none⟩ = w.cell? ⟨g, q, none⟩ := by
  rw [(h.store p u).cell, Array.getElem?_setIfInBounds, if_neg hne, h.cell]
section
variable (w : World)
set_option maxHeartbeats 2000000 in
set_option maxRecDepth 100000 in
theorem swap_any {H M i j : Nat} {rb : Option Nat} {L : List Tm} {x y : Tm} (hp : Hid (Pl w H M rb L)) (hi : Hid (L[i]? = some x)) (hj : Hid (L[j]? = some y)) :
    Calls Try.prog 46 #[.pointer (some ⟨H, 0, none⟩), .int .i64 i, .int .i64 j] w fun e w' => e = .returned (.tuple #[]) ∧ Hid (Pl w' H M rb (swp L i j x y)) ∧ Hid (But (plB H M rb) w w') := by
  obtain ⟨A, c, f, hb, hr, hm, hf⟩ := hp.out.body
  obtain ⟨il, hx⟩ := List.getElem?_eq_some_iff.1 hi.out
  obtain ⟨jl, hy⟩ := List.getElem?_eq_some_iff.1 hj.out
  obtain ⟨r, cur, rfl, rfl, hbr, hsz, hc⟩ := hr.some_ (by omega)
  have c0 : w.drew.cell? ⟨H, 0, none⟩ = _ := hb.cell 0
  have c1 : w.drew.cell? ⟨H, 1, none⟩ = _ := hb.cell 1
  have ci := hc i il
  have cj := hc j jl
  rw [hx] at ci
  rw [hy] at cj
  have i0 : w.drew.cell? ⟨r, i * 2, none⟩ = _ := (hbr.cell (i * 2)).trans ci.1
  have i1 : w.drew.cell? ⟨r, i * 2 + 1, none⟩ = _ := (hbr.cell (i * 2 + 1)).trans ci.2
  have j0 : w.drew.cell? ⟨r, j * 2, none⟩ = _ := (hbr.cell (j * 2)).trans cj.1
  have j1 : w.drew.cell? ⟨r, j * 2 + 1, none⟩ = _ := (hbr.cell (j * 2 + 1)).trans cj.2
  have fi0 : w.drew.frozen? ⟨r, i * 2, none⟩ = false := hbr.frozen _
  have fi1 : w.drew.frozen? ⟨r, i * 2 + 1, none⟩ = false := hbr.frozen _
  have fj0 : w.drew.frozen? ⟨r, j * 2, none⟩ = false := hbr.frozen _
  have fj1 : w.drew.frozen? ⟨r, j * 2 + 1, none⟩ = false := hbr.frozen _
  obtain ⟨n, hn⟩ : ∃ n, L.length = n := ⟨_, rfl⟩
  rw [hn] at il jl c0
  have bi : 0 ≤ (i : Int) ∧ (i : Int) < n := by omega
  have bj : 0 ≤ (j : Int) ∧ (j : Int) < n := by omega
  have HB := hid hb
  have HBR := hid hbr
  have HM := hid hm
  have HRW0 : Hid (Rw w (some ⟨r, 0, none⟩) n c (some r) L) := by
    show Rw _ _ _ _ _ _
    rw [← hn]
    exact hr
  have hHr : H ∉ [r] := by
    simp only [List.mem_singleton]
    exact box_ne hb hbr (by decide)
  have hMr : M ∉ [r] := by
    simp only [List.mem_singleton]
    exact hm.ne hbr
  have hHM : H ∉ [M] := by
    simp only [List.mem_singleton]
    exact fun e => hm.ne hb e.symm
  have hrM : r ∉ [M] := by
    simp only [List.mem_singleton]
    exact fun e => hm.ne hbr e.symm
  have HN : Hid (n ≤ 300) := hid (by have := hp.out.cnt; omega)
  have HXY : Hid (i = j → x = y) := hid (fun e => by
    have h1 := hi.out
    rw [e, hj.out] at h1
    injection h1 with h1
    exact h1.symm)
  have HWF : Hid ((okI x.1 ∧ okI x.2) ∧ okI y.1 ∧ okI y.2) := hid ⟨hp.out.wf x (List.mem_of_getElem? hi.out), hp.out.wf y (List.mem_of_getElem? hj.out)⟩
  have HF : Hid (f x.1 = some (i : Int) ∧ (f y.1).isSome = true) := hid ⟨hf.1 i x hi.out, by rw [hf.1 j y hj.out]; rfl⟩
  have HFF := hid hf
  have hi1 := hi
  have hj1 := hj
  have hi0 := il
  have hj0 := jl
  clear hi hj hb hr hm hf hc hbr ci cj hx hy
  obtain ⟨x1, x2⟩ := x
  obtain ⟨y1, y2⟩ := y
  simp only at i0 i1 j0 j1
  have k0 : w.cell? ⟨H, 0, none⟩ = _ := c0
  have k1 : w.cell? ⟨H, 1, none⟩ = _ := c1
  have ki0 : w.cell? ⟨r, i * 2, none⟩ = _ := i0
  have ki1 : w.cell? ⟨r, i * 2 + 1, none⟩ = _ := i1
  have kj0 : w.cell? ⟨r, j * 2, none⟩ = _ := j0
  have kj1 : w.cell? ⟨r, j * 2 + 1, none⟩ = _ := j1
  have gi0 : w.frozen? ⟨r, i * 2, none⟩ = false := fi0
  have gi1 : w.frozen? ⟨r, i * 2 + 1, none⟩ = false := fi1
  have gj0 : w.frozen? ⟨r, j * 2, none⟩ = false := fj0
  have gj1 : w.frozen? ⟨r, j * 2 + 1, none⟩ = false := fj1
  have s0 : (w.setCell ⟨r, i * 2, none⟩ (.int .i64 y1)).cell? ⟨r, j * 2, none⟩ = some (.int .i64 y1) := set_hit HBR.out (i * 2) (j * 2) _ kj0
  have s1 : (w.setCell ⟨r, i * 2 + 1, none⟩ (.int .i64 y2)).cell? ⟨r, j * 2 + 1, none⟩ = some (.int .i64 y2) := set_hit HBR.out (i * 2 + 1) (j * 2 + 1) _ kj1
  have s2 : ((w.setCell ⟨r, i * 2, none⟩ (.int .i64 y1)).setCell ⟨r, i * 2 + 1, none⟩ (.int .i64 y2)).cell? ⟨r, j * 2 + 1, none⟩ = some (.int .i64 y2) :=
    set_hit (HBR.out.store _ _) (i * 2 + 1) (j * 2 + 1) _ ((set_far HBR.out (i * 2) (j * 2 + 1) _ (by omega)).trans kj1)
  have HRW := hid (swap_row (x := (x1, x2)) (y := (y1, y2)) HRW0.out hi0 hj0)
  have HKW := hid (((((But.refl [r] w).store (g := r) (i := i * 2) (.inl (by simp)) (.int .i64 y1)).store (g := r) (i := i * 2 + 1) (.inl (by simp)) (.int .i64 y2)).store (g := r) (i := j * 2) (.inl (by simp)) (.int .i64 x1)).store (g := r) (i := j * 2 + 1) (.inl (by simp)) (.int .i64 x2))
  go_enter Try.func46, Try.ntmps46
  go_wp2
  go_region
  all_goals
    have HR5 : Hid (Rw ((((w.setCell ⟨r, i * 2, none⟩ (.int .i64 y1)).setCell ⟨r, i * 2 + 1, none⟩ (.int .i64 y2)).setCell ⟨r, j * 2, none⟩ (.int .i64 x1)).setCell ⟨r, j * 2 + 1, none⟩ (.int .i64 x2)) (some ⟨r, 0, none⟩) n c (some r) (swp L i j (x1, x2) (y1, y2))) := HRW.out
    have HK5 : Hid (But [r] w ((((w.setCell ⟨r, i * 2, none⟩ (.int .i64 y1)).setCell ⟨r, i * 2 + 1, none⟩ (.int .i64 y2)).setCell ⟨r, j * 2, none⟩ (.int .i64 x1)).setCell ⟨r, j * 2 + 1, none⟩ (.int .i64 x2))) := HKW.out
    generalize ((((w.setCell ⟨r, i * 2, none⟩ (.int .i64 y1)).setCell ⟨r, i * 2 + 1, none⟩ (.int .i64 y2)).setCell ⟨r, j * 2, none⟩ (.int .i64 x1)).setCell ⟨r, j * 2 + 1, none⟩ (.int .i64 x2)) = w5 at HR5 HK5 ⊢
    clear HRW HKW c0 c1 i0 i1 j0 j1 k0 k1 ki0 ki1 kj0 kj1 fi0 fi1 fj0 fj1 gi0 gi1 gj0 gj1 s0 s1 s2
    have HB5 := hid (HK5.out.box HB.out hHr)
    have HM5 := hid (HM.out.keep HK5.out hMr)
    have c0 : w5.cell? ⟨H, 0, none⟩ = _ := HB5.out.cell 0
    have c1 : w5.cell? ⟨H, 1, none⟩ = _ := HB5.out.cell 1
    obtain ⟨⟨cur5, HBR5⟩, i0, j0⟩ := swap_cells HR5.out hi0 hj0 HXY.out
    have HRR5 := hid HBR5
    clear HBR5
    have d0 : w5.drew.cell? ⟨H, 0, none⟩ = _ := HB5.out.cell 0
    have d1 : w5.drew.cell? ⟨H, 1, none⟩ = _ := HB5.out.cell 1
    rw [hn] at c0 d0
    have hm5 : Mp w5.drew.drew 3 M n f := by
      have := HM5.out
      rw [hn] at this
      exact this
    obtain ⟨w6, hrun, hm6, hk6⟩ := hm5.put Try.underlying57 Try.underlying3 (by have := HN.out; unfold maxLen; omega) HWF.out.2.1 (okN i (by have := HN.out; omega))
    have HM6 := hid hm6
    have HK6 := hid (but_drew0 (but_drew0 hk6))
    clear hm5 hm6 hk6
    go_wp2
    go_region
    all_goals
      have HR6 := hid (HR5.out.keep HK6.out (fun x e => by injection e with e; subst e; exact hrM))
      have HB6 := hid (HK6.out.box HB5.out hHM)
      obtain ⟨⟨cur6, HBR6⟩, i6, j6⟩ := swap_cells HR6.out hi0 hj0 HXY.out
      have c06 : w6.cell? ⟨H, 0, none⟩ = _ := HB6.out.cell 0
      have c16 : w6.cell? ⟨H, 1, none⟩ = _ := HB6.out.cell 1
      have d06 : w6.drew.cell? ⟨H, 0, none⟩ = _ := HB6.out.cell 0
      have d16 : w6.drew.cell? ⟨H, 1, none⟩ = _ := HB6.out.cell 1
      rw [hn] at c06 d06
      have hm6 : Mp w6.drew 3 M n (putF f y1 i) := by
        have := HM6.out
        rw [if_pos HF.out.2] at this
        exact this
      obtain ⟨w7, hrun7, hm7, hk7⟩ := hm6.put Try.underlying57 Try.underlying3 (by have := HN.out; unfold maxLen; omega) HWF.out.1.1 (okN j (by have := HN.out; omega))
      have HM7 := hid hm7
      have HK7 := hid (but_drew0 hk7)
      clear hm6 hm7 hk7 HBR6
      go_wp2
      go_region
      all_goals
        go_wp2
        go_end0
        refine ⟨rfl, ?_, ?_⟩
        · have hpm := swp_perm hi1.out hj1.out
          refine ⟨fun z hz => hp.out.wf z (hpm.mem_iff.1 hz), by rw [swp_length]; exact hp.out.cnt, (hpm.pairwise_iff (fun {_ _} h => Ne.symm h)).2 hp.out.nd, some ⟨r, 0, none⟩, c, putF (putF f y1 i) x1 j, ?_, ?_, ?_, swap_map hi1.out hj1.out hp.out.nd HFF.out⟩
          · rw [swp_length, hn]
            have := HK7.out.box HB6.out hHM
            rw [hn] at this
            exact this
          · rw [swp_length, hn]
            exact HR6.out.keep HK7.out (fun x e => by injection e with e; subst e; exact hrM)
          · rw [swp_length, hn]
            have := HM7.out
            rw [if_pos (by unfold putF; split <;> simp [HF.out.1])] at this
            exact this
        · exact ((HK5.out.mono (by simp [plB])).trans HK6.out (fun x hx => .inl (by simp at hx; subst hx; simp [plB]))).trans HK7.out (fun x hx => .inl (by simp at hx; subst hx; simp [plB]))
end
end Go.Proofs.Ytdcohhfbifiemaa
