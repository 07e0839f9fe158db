import Derived.Test.YtggcampdkgfmgaaOF
namespace Go.Proofs.Ytggcampdkgfmgaa.F2
open Go.RowKit

/-- Rows of bytes of the call's own, each in a cell of a list. -/
def PL (w : World) (base : Nat) (ps : List (List UInt8)) (cs : List Value) : Prop :=
  cs.length = ps.length ∧ ∀ k (h : k < ps.length), ∃ A c, cs[k]? = some (.slice A ps[k].length c) ∧ w.ownsRow base 5 1 (.slice A ps[k].length c) ps[k].length (bv ps[k])
theorem PL.nil_ (w : World) (base : Nat) : PL w base [] [] := ⟨rfl, fun k h => by simp at h⟩
theorem PL.kept {w w' : World} {base B : Nat} {T : List TypeId} {ps : List (List UInt8)} {cs : List Value} (h : PL w base ps cs) (k : Kept B T w w') (hT : 5 ∉ T) : PL w' base ps cs :=
  ⟨h.1, fun i hi => by obtain ⟨A, c, h1, h2⟩ := h.2 i hi; exact ⟨A, c, h1, k.own h2 hT⟩⟩
theorem PL.snoc {w : World} {base : Nat} {ps : List (List UInt8)} {cs : List Value} {p : List UInt8} {A : Option Addr} {c : Nat} (h : PL w base ps cs) (ho : w.ownsRow base 5 1 (.slice A p.length c) p.length (bv p)) :
    PL w base (ps ++ [p]) (cs ++ [.slice A p.length c]) := by
  refine ⟨by simp [h.1], fun k hk => ?_⟩
  by_cases hlt : k < ps.length
  · obtain ⟨A', c', h1, h2⟩ := h.2 k hlt
    refine ⟨A', c', ?_, ?_⟩
    · rw [List.getElem?_append_left (by rw [h.1]; exact hlt), List.getElem_append_left hlt]; exact h1
    · rw [List.getElem_append_left hlt]; exact h2
  · have hk' : k = ps.length := by simp at hk; omega
    subst hk'
    refine ⟨A, c, ?_, ?_⟩
    · rw [List.getElem_append_right (Nat.le_refl _)]
      rw [List.getElem?_append_right (by rw [h.1]; exact Nat.le_refl _), h.1]
      simp
    · rw [List.getElem_append_right (Nat.le_refl _)]
      simpa using ho

/-- The block of the list that grows. -/
def Came (w : World) (base g : Nat) (ps : List (List UInt8)) : Prop :=
  base ≤ g ∧ ∃ LA lc cs, Box w g 78 #[.slice LA ps.length lc] ∧ w.ownsRow base 27 1 (.slice LA ps.length lc) ps.length cs ∧ PL w base ps cs
theorem Came.lt {w : World} {base g : Nat} {ps : List (List UInt8)} (h : Came w base g ps) : g < w.heap.size := by
  obtain ⟨_, LA, lc, cs, hx, _⟩ := h
  exact hx.lt
theorem Came.kept {w w' : World} {base g B : Nat} {T : List TypeId} {ps : List (List UInt8)} (h : Came w base g ps) (k : Kept B T w w') (h1 : 78 ∉ T) (h2 : 27 ∉ T) (h3 : 5 ∉ T) : Came w' base g ps := by
  obtain ⟨hb, LA, lc, cs, hx, ho, hp⟩ := h
  exact ⟨hb, LA, lc, cs, k.box hx h1, k.own ho h2, hp.kept k h3⟩

theorem came_store {base g n c' lc : Nat} {ps : List (List UInt8)} {p : List UInt8} {cs : List Value} {LA A' A : Option Addr} {c : Nat} {w0 w w' : World} (hn : ps.length = n) (hbg : base ≤ g) (hx : Box w g 78 #[.slice LA n lc]) (ho : w.ownsRow base 27 1 (.slice LA n lc) n cs)
    (hp : PL w base ps cs) (hnew : w.ownsRow base 5 1 (.slice A p.length c) p.length (bv p)) (hk : Kept base [78, 27] w0 w) (hg : w.grownBy w' (Value.slice LA n lc).ownBlock) (ho' : w'.ownsRow base 27 1 (.slice A' (n + 1) c') (n + 1) (cs ++ [.slice A p.length c])) :
    Came (w'.setCell ⟨g, 0, none⟩ (.slice A' (n + 1) c')) base g (ps ++ [p]) ∧ Kept base [78, 27] w0 (w'.setCell ⟨g, 0, none⟩ (.slice A' (n + 1) c')) := by
  subst hn
  have hne : (Value.slice LA ps.length lc).ownBlock ≠ some g := own_ne ho hx (by decide)
  have hx' : Box w' g 78 #[.slice LA ps.length lc] := hx.same (hg.block g hx.lt (fun e => hne e.symm))
  have k1 : Kept base [78, 27] w w' := (Kept.refl _ _ _).grown hg (fun k hk => by obtain ⟨a, cs, b⟩ := own_box ho k hk; exact ⟨a, 27, cs, by simp, b⟩)
  have k3 := (Kept.refl base [78] w').store (i := 0) hx' hbg (by simp) (.slice A' (ps.length + 1) c')
  have k2 := (hk.trans k1).store (i := 0) hx' hbg (by simp) (.slice A' (ps.length + 1) c')
  have k4 : Kept base [78, 27] w (w'.setCell ⟨g, 0, none⟩ (.slice A' (ps.length + 1) c')) := k1.store (i := 0) hx' hbg (by simp) _
  refine ⟨⟨hbg, A', c', cs ++ [.slice A p.length c], ?_, ?_, ?_⟩, k2⟩
  · have := hx'.store 0 (.slice A' (ps.length + 1) c')
    simpa using this
  · have := k3.own ho' (by decide)
    simpa using this
  · exact (hp.snoc hnew).kept k4 (by decide)

theorem copied_n (w : World) (B : Nat) (A : Option Addr) (c n : Nat) (bs : List UInt8) (h : Hid (SlB w B A c bs)) (hn : bs.length = n) (hl : n ≤ 1000000) :
    Calls Try.prog 28 #[.slice A n c] w fun e w' => ∃ A' c', e = .returned (.slice A' n c') ∧ Hid (w'.ownsRow w.heap.size 5 1 (.slice A' n c') n (bv bs)) ∧ Hid (Below w.heap.size w w') := by
  subst hn
  exact copied_any w B A c bs h.out hl

set_option maxHeartbeats 2000000 in
set_option maxRecDepth 100000 in
theorem add_any (w : World) (base g n B : Nat) (ps : List (List UInt8)) (A : Option Addr) (c : Nat) (p : List UInt8) (hs : Came w base g ps) (hn : ps.length ≤ 1000000) (h : SlB w B A c p) (hB : B ≤ w.heap.size) (hpn : p.length = n) (hl : n ≤ 1000000) :
    Calls Try.prog 25 #[.pointer (some ⟨g, 0, none⟩), .slice A n c] w fun e w' => e = .returned (.tuple #[]) ∧ Came w' base g (ps ++ [p]) ∧ Kept base [78, 27] w w' := by
  obtain ⟨i1, hi1, hz10, hz11, hz12⟩ := info_parts Try.info22
  obtain ⟨hbg, LA, lc, cs, hx, ho, hp⟩ := hs
  obtain ⟨m, Hm⟩ : ∃ m, Hid (ps.length = m) := ⟨_, hid rfl⟩
  rw [Hm.out] at hx ho hn
  have hlt := hx.lt
  have hbw : base ≤ w.heap.size := by omega
  have HX := hid hx
  have HO := hid ho
  have HP := hid hp
  have HS := hid h
  have HPN := hid hpn
  have c0 : w.cell? ⟨g, 0, none⟩ = some (.slice LA m lc) := hx.cell 0
  have HS1 : Hid (SlB w.drew B A c p) := h
  have HO1 : Hid (w.drew.ownsRow base 27 1 (.slice LA m lc) m cs) := ho
  have HP1 : Hid (PL w.drew base ps cs) := hp
  have HK1 : Hid (Kept base [78, 27] w w.drew) := (Kept.refl _ _ _).drew
  clear hx ho hp h hpn
  go_enter Try.func25, Try.ntmps25
  go_wp2
  go_region_law (first
    | (go_simp
       go_at_call 28
       ((with_reducible refine (copied_n w.drew B A c n p HS1 HPN.out hl).mono ?_); rintro e w2 ⟨A2, c2, rfl, HO2, HB2⟩)
       have hx2 := box_below (w := w.drew) HX.out HB2.out
       have c20 : w2.cell? ⟨g, 0, none⟩ = some (.slice LA m lc) := hx2.cell 0
       have hx3 := box_below hx2 ((Below.refl _ _).alloc (Nat.le_refl _) (.cells #[.slice A2 n c2] 27))
       have c30 : (w2.alloc (.cells #[.slice A2 n c2] 27)).cell? ⟨g, 0, none⟩ = some (.slice LA m lc) := hx3.cell 0
       have HX3 := hid hx3
       have hz2 : base ≤ w2.heap.size := by have := HB2.out.size; simp at this; omega
       clear hx2 hx3)
    | (refine step_app _ rfl (.tmp 8) (.tmp 11) 51 rfl base 27 i1 _ 1 24 Try.underlying51 hi1 hz10 hz11 hz12 rfl (by decide) LA m lc cs rfl ((own_keep HO1.out HB2.out).alloc _) (w2.heap.size + 1) (some ⟨w2.heap.size, 0, none⟩) 1 1 [.slice A2 n c2] rfl rfl (lies_lit w2 #[.slice A2 n c2] 27) (by intro u hu; simp at hu; subst hu; rfl) (by unfold maxLen; omega) (by omega) (by simp; omega) ?_
       intro A8 c8 w8 ho8 hg8
       have hx8 := HX3.out.same (hg8.block g HX3.out.lt (fun e => own_ne ((own_keep HO1.out HB2.out).alloc (.cells #[.slice A2 n c2] 27)) HX3.out (by decide) e.symm))
       have c80 : w8.cell? ⟨g, 0, none⟩ = some (.slice LA m lc) := hx8.cell 0
       have f80 : w8.frozen? ⟨g, 0, none⟩ = false := hx8.frozen 0
       have HF := hid (came_store (w0 := w) (p := p) Hm.out hbg HX3.out ((own_keep HO1.out HB2.out).alloc _) (HP1.out.kept ((Kept.of_below HB2.out 0 []).alloc (.cells #[.slice A2 n c2] 27)) (by decide)) (by rw [HPN.out]; exact (own_mono HO2.out hbw).alloc _) ((HK1.out.trans (Kept.of_below HB2.out base [78, 27])).alloc _) hg8 (by rw [HPN.out]; exact ho8))
       clear ho8 hg8 hx8))
  all_goals
    go_wp2
    go_end0
    exact ⟨rfl, HF.out.1, HF.out.2⟩
end Go.Proofs.Ytggcampdkgfmgaa.F2
