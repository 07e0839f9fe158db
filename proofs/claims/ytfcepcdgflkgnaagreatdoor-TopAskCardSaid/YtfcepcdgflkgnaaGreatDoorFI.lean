import Derived.Test.YtfcepcdgflkgnaaGreatDoorFE
namespace Go.Proofs.YtfcepcdgflkgnaaGreatDoor
open Go.RowKit

/-- Rows of bytes of the call's own, each in a cell of a list. -/
def PL (w : World) (base : Nat) (ps : List (List UInt8)) (cs : List Value) : Prop :=
  cs.length = ps.length ∧ ∀ k (h : k < ps.length), ∃ A c, cs[k]? = some (.slice A ps[k].length c) ∧ w.ownsRow base 5 1 (.slice A ps[k].length c) ps[k].length (bv ps[k])
theorem PL.nil_ (w : World) (base : Nat) : PL w base [] [] := ⟨rfl, fun k h => by simp at h⟩
theorem PL.kept {w w' : World} {base B : Nat} {T : List TypeId} {ps : List (List UInt8)} {cs : List Value} (h : PL w base ps cs) (k : Kept B T w w') (hT : 5 ∉ T) : PL w' base ps cs :=
  ⟨h.1, fun i hi => by obtain ⟨A, c, h1, h2⟩ := h.2 i hi; exact ⟨A, c, h1, k.own h2 hT⟩⟩
theorem PL.snoc {w : World} {base : Nat} {ps : List (List UInt8)} {cs : List Value} {p : List UInt8} {A : Option Addr} {c : Nat} (h : PL w base ps cs) (ho : w.ownsRow base 5 1 (.slice A p.length c) p.length (bv p)) :
    PL w base (ps ++ [p]) (cs ++ [.slice A p.length c]) := by
  refine ⟨by simp [h.1], fun k hk => ?_⟩
  by_cases hlt : k < ps.length
  · obtain ⟨A', c', h1, h2⟩ := h.2 k hlt
    refine ⟨A', c', ?_, ?_⟩
    · rw [List.getElem?_append_left (by rw [h.1]; exact hlt), List.getElem_append_left hlt]; exact h1
    · rw [List.getElem_append_left hlt]; exact h2
  · have hk' : k = ps.length := by simp at hk; omega
    subst hk'
    refine ⟨A, c, ?_, ?_⟩
    · rw [List.getElem_append_right (Nat.le_refl _)]
      rw [List.getElem?_append_right (by rw [h.1]; exact Nat.le_refl _), h.1]
      simp
    · rw [List.getElem_append_right (Nat.le_refl _)]
      simpa using ho

/-- The block of the list that grows. -/
def Came (w : World) (base g : Nat) (ps : List (List UInt8)) : Prop :=
  base ≤ g ∧ ∃ LA lc cs, Box w g 90 #[.slice LA ps.length lc] ∧ w.ownsRow base 25 1 (.slice LA ps.length lc) ps.length cs ∧ PL w base ps cs
theorem Came.lt {w : World} {base g : Nat} {ps : List (List UInt8)} (h : Came w base g ps) : g < w.heap.size := by
  obtain ⟨_, LA, lc, cs, hx, _⟩ := h
  exact hx.lt
theorem Came.kept {w w' : World} {base g B : Nat} {T : List TypeId} {ps : List (List UInt8)} (h : Came w base g ps) (k : Kept B T w w') (h1 : 90 ∉ T) (h2 : 25 ∉ T) (h3 : 5 ∉ T) : Came w' base g ps := by
  obtain ⟨hb, LA, lc, cs, hx, ho, hp⟩ := h
  exact ⟨hb, LA, lc, cs, k.box hx h1, k.own ho h2, hp.kept k h3⟩

theorem came_store {base g n c' lc : Nat} {ps : List (List UInt8)} {p : List UInt8} {cs : List Value} {LA A' A : Option Addr} {c : Nat} {w0 w w' : World} (hn : ps.length = n) (hbg : base ≤ g) (hx : Box w g 90 #[.slice LA n lc]) (ho : w.ownsRow base 25 1 (.slice LA n lc) n cs)
    (hp : PL w base ps cs) (hnew : w.ownsRow base 5 1 (.slice A p.length c) p.length (bv p)) (hk : Kept base [90, 25] w0 w) (hg : w.grownBy w' (Value.slice LA n lc).ownBlock) (ho' : w'.ownsRow base 25 1 (.slice A' (n + 1) c') (n + 1) (cs ++ [.slice A p.length c])) :
    Came (w'.setCell ⟨g, 0, none⟩ (.slice A' (n + 1) c')) base g (ps ++ [p]) ∧ Kept base [90, 25] w0 (w'.setCell ⟨g, 0, none⟩ (.slice A' (n + 1) c')) := by
  subst hn
  have hne : (Value.slice LA ps.length lc).ownBlock ≠ some g := own_ne ho hx (by decide)
  have hx' : Box w' g 90 #[.slice LA ps.length lc] := hx.same (hg.block g hx.lt (fun e => hne e.symm))
  have k1 : Kept base [90, 25] w w' := (Kept.refl _ _ _).grown hg (fun k hk => by obtain ⟨a, cs, b⟩ := own_box ho k hk; exact ⟨a, 25, cs, by simp, b⟩)
  have k3 := (Kept.refl base [90] w').store (i := 0) hx' hbg (by simp) (.slice A' (ps.length + 1) c')
  have k2 := (hk.trans k1).store (i := 0) hx' hbg (by simp) (.slice A' (ps.length + 1) c')
  have k4 : Kept base [90, 25] w (w'.setCell ⟨g, 0, none⟩ (.slice A' (ps.length + 1) c')) := k1.store (i := 0) hx' hbg (by simp) _
  refine ⟨⟨hbg, A', c', cs ++ [.slice A p.length c], ?_, ?_, ?_⟩, k2⟩
  · have := hx'.store 0 (.slice A' (ps.length + 1) c')
    simpa using this
  · have := k3.own ho' (by decide)
    simpa using this
  · exact (hp.snoc hnew).kept k4 (by decide)

theorem copied_n (w : World) (B : Nat) (A : Option Addr) (c n : Nat) (bs : List UInt8) (h : Hid (SlB w B A c bs)) (hn : bs.length = n) (hl : n ≤ 1000000) :
    Calls Tryz.prog 30 #[.slice A n c] w fun e w' => ∃ A' c', e = .returned (.slice A' n c') ∧ Hid (w'.ownsRow w.heap.size 5 1 (.slice A' n c') n (bv bs)) ∧ Hid (Below w.heap.size w w') := by
  subst hn
  exact copied_any w B A c bs h.out hl

set_option maxHeartbeats 2000000 in
set_option maxRecDepth 100000 in
theorem add_any (w : World) (base g n B : Nat) (ps : List (List UInt8)) (A : Option Addr) (c : Nat) (p : List UInt8) (hs : Came w base g ps) (hn : ps.length ≤ 1000000) (h : SlB w B A c p) (hB : B ≤ w.heap.size) (hpn : p.length = n) (hl : n ≤ 1000000) :
    Calls Tryz.prog 27 #[.pointer (some ⟨g, 0, none⟩), .slice A n c] w fun e w' => e = .returned (.tuple #[]) ∧ Came w' base g (ps ++ [p]) ∧ Kept base [90, 25] w w' := by
  obtain ⟨i1, hi1, hz10, hz11, hz12⟩ := info_parts Tryz.info22
  obtain ⟨hbg, LA, lc, cs, hx, ho, hp⟩ := hs
  obtain ⟨m, Hm⟩ : ∃ m, Hid (ps.length = m) := ⟨_, hid rfl⟩
  rw [Hm.out] at hx ho hn
  have hlt := hx.lt
  have hbw : base ≤ w.heap.size := by omega
  have HX := hid hx
  have HO := hid ho
  have HP := hid hp
  have HS := hid h
  have HPN := hid hpn
  have c0 : w.cell? ⟨g, 0, none⟩ = some (.slice LA m lc) := hx.cell 0
  have HS1 : Hid (SlB w.drew B A c p) := h
  have HO1 : Hid (w.drew.ownsRow base 25 1 (.slice LA m lc) m cs) := ho
  have HP1 : Hid (PL w.drew base ps cs) := hp
  have HK1 : Hid (Kept base [90, 25] w w.drew) := (Kept.refl _ _ _).drew
  clear hx ho hp h hpn
  go_enter Tryz.func27, Tryz.ntmps27
  go_wp2
  go_region_law (first
    | (go_simp
       go_at_call 30
       ((with_reducible refine (copied_n w.drew B A c n p HS1 HPN.out hl).mono ?_); rintro e w2 ⟨A2, c2, rfl, HO2, HB2⟩)
       have hx2 := box_below (w := w.drew) HX.out HB2.out
       have c20 : w2.cell? ⟨g, 0, none⟩ = some (.slice LA m lc) := hx2.cell 0
       have hx3 := box_below hx2 ((Below.refl _ _).alloc (Nat.le_refl _) (.cells #[.slice A2 n c2] 25))
       have c30 : (w2.alloc (.cells #[.slice A2 n c2] 25)).cell? ⟨g, 0, none⟩ = some (.slice LA m lc) := hx3.cell 0
       have HX3 := hid hx3
       have hz2 : base ≤ w2.heap.size := by have := HB2.out.size; simp at this; omega
       clear hx2 hx3)
    | (refine step_app _ rfl (.tmp 8) (.tmp 11) 46 rfl base 25 i1 _ 1 24 Tryz.underlying46 hi1 hz10 hz11 hz12 rfl (by decide) LA m lc cs rfl ((own_keep HO1.out HB2.out).alloc _) (w2.heap.size + 1) (some ⟨w2.heap.size, 0, none⟩) 1 1 [.slice A2 n c2] rfl rfl (lies_lit w2 #[.slice A2 n c2] 25) (by intro u hu; simp at hu; subst hu; rfl) (by unfold maxLen; omega) (by omega) (by simp; omega) ?_
       intro A8 c8 w8 ho8 hg8
       have hx8 := HX3.out.same (hg8.block g HX3.out.lt (fun e => own_ne ((own_keep HO1.out HB2.out).alloc (.cells #[.slice A2 n c2] 25)) HX3.out (by decide) e.symm))
       have c80 : w8.cell? ⟨g, 0, none⟩ = some (.slice LA m lc) := hx8.cell 0
       have f80 : w8.frozen? ⟨g, 0, none⟩ = false := hx8.frozen 0
       have HF := hid (came_store (w0 := w) (p := p) Hm.out hbg HX3.out ((own_keep HO1.out HB2.out).alloc _) (HP1.out.kept ((Kept.of_below HB2.out 0 []).alloc (.cells #[.slice A2 n c2] 25)) (by decide)) (by rw [HPN.out]; exact (own_mono HO2.out hbw).alloc _) ((HK1.out.trans (Kept.of_below HB2.out base [90, 25])).alloc _) hg8 (by rw [HPN.out]; exact ho8))
       clear ho8 hg8 hx8))
  all_goals
    go_wp2
    go_end0
    exact ⟨rfl, HF.out.1, HF.out.2⟩

theorem nextF_zero {s : List UInt8} (h : (nextF s).2 = 0) : (nextF s).1 = 4 + num4 s ∧ 1 ≤ num4 s ∧ num4 s ≤ 33792 ∧ 4 + num4 s ≤ s.length := by
  unfold nextF at h ⊢
  split at h
  · simp at h
  · split at h
    · simp at h
    · split at h
      · simp at h
      · rename_i h1 h2 h3
        rw [if_neg h1, if_neg h2, if_neg h3]
        refine ⟨rfl, ?_, ?_, ?_⟩ <;> omega
theorem nextF_else {s : List UInt8} (h : (nextF s).2 ≠ 0) : nextF s = (0, 3) ∨ nextF s = (0, 5) := by
  unfold nextF at h ⊢
  split
  · exact .inl rfl
  · split
    · exact .inr rfl
    · split
      · exact .inl rfl
      · rename_i h1 h2 h3
        rw [if_neg h1, if_neg h2, if_neg h3] at h
        exact absurd rfl h

/-- What comes of a stream: the payloads, what is left, the error. -/
def feedF (s : List UInt8) : List (List UInt8) × List UInt8 × Int :=
  if h : (nextF s).2 = 0 then
    let r := feedF (s.drop (nextF s).1)
    ((s.take (nextF s).1).drop 4 :: r.1, r.2)
  else if (nextF s).2 = 3 then ([], s, 0) else ([], [], (nextF s).2)
termination_by s.length
decreasing_by
  have := nextF_zero h
  rw [List.length_drop]
  omega
theorem feedF_next {s : List UInt8} {n : Nat} (h : nextF s = (n, 0)) : feedF s = ((s.take n).drop 4 :: (feedF (s.drop n)).1, (feedF (s.drop n)).2) := by
  rw [feedF, dif_pos (by rw [h]), h]
theorem feedF_short {s : List UInt8} {n : Nat} (h : nextF s = (n, 3)) : feedF s = ([], s, 0) := by
  rw [feedF, dif_neg (by rw [h]; simp), if_pos (by rw [h])]
theorem feedF_bad {s : List UInt8} {n : Nat} (h : nextF s = (n, 5)) : feedF s = ([], [], 5) := by
  rw [feedF, dif_neg (by rw [h]; simp), if_neg (by rw [h]; simp), h]
/-- What a framer that may be bad makes of a stream. -/
def feedX (bad : Bool) (s : List UInt8) : List (List UInt8) × List UInt8 × Int := if bad then ([], [], 9) else feedF s

def FedR (w : World) (x : List (List UInt8) × List UInt8 × Int) (e : Ending) (w' : World) : Prop :=
  ∃ A c LA lc cs M, e = .returned (.tuple #[.agg #[.slice A x.2.1.length c, .bool (decide (x.2.2 ≠ 0))], .slice LA x.1.length lc, .int .i64 x.2.2]) ∧ w.heap.size ≤ M ∧ M ≤ w'.heap.size ∧
    w'.ownsRow M 5 1 (.slice A x.2.1.length c) x.2.1.length (bv x.2.1) ∧ w'.ownsRow w.heap.size 25 1 (.slice LA x.1.length lc) x.1.length cs ∧ PL w' w.heap.size x.1 cs ∧
    (∀ v ∈ cs, ∀ g, v.ownBlock = some g → g < M) ∧ Below w.heap.size w w'

theorem lisV_two {w : World} {B : Nat} {A A2 : Option Addr} {c c2 : Nat} {xs ys : List UInt8} (h1 : SlB w B A c xs) (h2 : SlB w B A2 c2 ys) (hB : B ≤ w.heap.size) :
    LisV (w.alloc (.cells #[.slice A xs.length c, .slice A2 ys.length c2] 25)) (w.heap.size + 1) (some ⟨w.heap.size, 0, none⟩) [xs, ys] := fun _ => by
  have hb : Below B w (w.alloc (.cells #[.slice A xs.length c, .slice A2 ys.length c2] 25)) := (Below.refl _ _).alloc hB _
  have hc := fun i => (Box.new w 25 #[.slice A xs.length c, .slice A2 ys.length c2]).cell i
  refine ⟨w.heap.size, 0, rfl, by simp, fun k hk => ?_⟩
  have hk2 : k < 2 := hk
  have h3 : k = 0 ∨ k = 1 := by omega
  rcases h3 with rfl | rfl
  · exact ⟨A, c, hc 0, (h1.below hb).more (by omega)⟩
  · exact ⟨A2, c2, hc 1, (h2.below hb).more (by omega)⟩
theorem concat_two (w : World) (B : Nat) (A A2 : Option Addr) (c c2 n n2 N : Nat) (xs ys : List UInt8) (h1 : Hid (SlB w B A c xs)) (h2 : Hid (SlB w B A2 c2 ys)) (hB : B ≤ w.heap.size) (hn : xs.length = n) (hn2 : ys.length = n2) (hN : (xs ++ ys).length = N) (hl : N ≤ 1000000) :
    Calls Tryz.prog 28 #[.slice (some ⟨w.heap.size, 0, none⟩) 2 2] (w.alloc (.cells #[.slice A n c, .slice A2 n2 c2] 25)) fun e w' => ∃ A' c', e = .returned (.slice A' N c') ∧ Hid (w'.ownsRow w.heap.size 5 1 (.slice A' N c') N (bv (xs ++ ys))) ∧ Hid (Below w.heap.size w w') := by
  subst hn; subst hn2; subst hN
  have hf : [xs, ys].flatten = xs ++ ys := by simp
  refine (concat_any _ (w.heap.size + 1) (some ⟨w.heap.size, 0, none⟩) 2 [xs, ys] (lisV_two h1.out h2.out hB) (by simp) (by simp) (by rw [hf]; exact hl)).mono ?_
  rw [hf]
  rintro e w2 ⟨A1, c1, rfl, ho, hb⟩
  exact ⟨A1, c1, rfl, own_mono ho (by simp), ((Below.refl _ _).alloc (Nat.le_refl _) _).trans (hb.mono (by simp))⟩

/-- A slice of bytes that stays, whatever is done to lists. -/
def ST (w : World) (M : Nat) (A : Option Addr) (c : Nat) (left : List UInt8) : Prop := ∀ W', Kept 0 [90, 25, 45] w W' → SlB W' M A c left
theorem ST.of_own {w : World} {base N c : Nat} {A : Option Addr} {s : List UInt8} (hn : s.length = N) (h : w.ownsRow base 5 1 (.slice A N c) N (bv s)) : ST w w.heap.size A c s := fun W' k => by
  subst hn
  have hs := own_slb (n := 0) (k.own h (by decide))
  refine ⟨hs.1, hs.2.1, hs.2.2.1, fun hne => ?_⟩
  obtain ⟨b, o, e, hb, hc⟩ := hs.2.2.2 hne
  refine ⟨b, o, e, ?_, hc⟩
  subst e
  exact (h.lt b rfl).2
theorem ST.kept {w w' : World} {B M c : Nat} {A : Option Addr} {left : List UInt8} {T : List TypeId} (h : ST w M A c left) (k : Kept B T w w') (hT : ∀ t ∈ T, t ∈ [90, 25, 45] := by decide) : ST w' M A c left := fun W' k' => h W' ((k.mono (Nat.zero_le _) hT).trans k')
theorem ST.now {w : World} {M c : Nat} {A : Option Addr} {left : List UInt8} (h : ST w M A c left) : SlB w M A c left := h w (Kept.refl _ _ _)
theorem ST.drop {w : World} {M c : Nat} {a : Addr} {left : List UInt8} (h : ST w M (some a) c left) (n : Nat) (hn : n ≤ left.length) : ST w M (some (if c = n then a else a.add n)) (c - n) (left.drop n) := fun W' k => (h W' k).drop n hn

/-- What Feed lays out at its start. -/
structure Laid (w w1 : World) (v0 : Value) (b : Bool) : Prop where
  fr : Box w1 w.heap.size 45 #[v0, .bool b]
  res : Box w1 (w.heap.size + 1) 45 #[.slice none 0 0, .bool false]
  came : Box w1 (w.heap.size + 2) 90 #[.slice none 0 0]
  bel : Below w.heap.size w w1
  size : w1.heap.size = w.heap.size + 3
theorem laid_mk (w : World) (v0 : Value) (b : Bool) : Laid w (((w.alloc (.cells #[v0, .bool b] 45)).alloc (.cells #[.slice none 0 0, .bool false] 45)).alloc (.cells #[.slice none 0 0] 90)) v0 b := by
  have h1 := Box.new w 45 #[v0, .bool b]
  have h2 := Box.new (w.alloc (.cells #[v0, .bool b] 45)) 45 #[.slice none 0 0, .bool false]
  have h3 := Box.new ((w.alloc (.cells #[v0, .bool b] 45)).alloc (.cells #[.slice none 0 0, .bool false] 45)) 90 #[.slice none 0 0]
  have e1 : (w.alloc (.cells #[v0, .bool b] 45)).heap.size = w.heap.size + 1 := by simp
  have e2 : ((w.alloc (.cells #[v0, .bool b] 45)).alloc (.cells #[.slice none 0 0, .bool false] 45)).heap.size = w.heap.size + 2 := by simp
  rw [e1] at h2
  rw [e2] at h3
  refine ⟨?_, ?_, h3, ?_, by simp⟩
  · exact box_below (box_below h1 ((Below.refl _ _).alloc (Nat.le_refl _) _)) ((Below.refl _ _).alloc (Nat.le_refl _) _)
  · exact box_below h2 ((Below.refl _ _).alloc (Nat.le_refl _) _)
  · exact (((Below.refl _ _).alloc (Nat.le_refl _) _).alloc (by rw [e1]; omega) _).alloc (by rw [e2]; omega) _
theorem concat_g (w : World) (B g : Nat) (A A2 : Option Addr) (c c2 n n2 N : Nat) (xs ys : List UInt8) (h1 : Hid (SlB w B A c xs)) (h2 : Hid (SlB w B A2 c2 ys)) (hB : Hid (B ≤ w.heap.size)) (hg : Hid (w.heap.size = g)) (hn : xs.length = n) (hn2 : ys.length = n2) (hN : Hid ((xs ++ ys).length = N)) (hl : N ≤ 1000000) :
    Calls Tryz.prog 28 #[.slice (some ⟨g, 0, none⟩) 2 2] (w.alloc (.cells #[.slice A n c, .slice A2 n2 c2] 25)) fun e w' => ∃ A' c', e = .returned (.slice A' N c') ∧ Hid (w'.ownsRow w.heap.size 5 1 (.slice A' N c') N (bv (xs ++ ys))) ∧ Hid (Below w.heap.size w w') := by
  have := hg.out
  subst this
  exact concat_two w B A A2 c c2 n n2 N xs ys h1 h2 hB.out hn hn2 hN.out hl
theorem came_nil {w : World} {base g : Nat} (hb : base ≤ g) (hx : Box w g 90 #[.slice none 0 0]) : Came w base g [] := ⟨hb, none, 0, [], hx, World.ownsRow_nil _ _ _ _, PL.nil_ _ _⟩

theorem two_fin {B g : Nat} {w0 w : World} {v0 v1 u0 u1 : Value} (hb : Below B w0 w) (hg : B ≤ g) (hx : Box w g 45 #[v0, v1]) :
    Box ((w.setCell ⟨g, 0, none⟩ u0).setCell ⟨g, 1, none⟩ u1) g 45 #[u0, u1] ∧ Below B w0 ((w.setCell ⟨g, 0, none⟩ u0).setCell ⟨g, 1, none⟩ u1) ∧ Kept B [45] w ((w.setCell ⟨g, 0, none⟩ u0).setCell ⟨g, 1, none⟩ u1) := by
  have hx1 := hx.store 0 u0
  have hx2 := hx1.store 1 u1
  refine ⟨by simpa using hx2, (hb.setCell hg _).setCell hg _, ((Kept.refl B [45] w).store hx hg (by simp) u0).store hx1 hg (by simp) u1⟩



theorem next_n (w : World) (M : Nat) (A : Option Addr) (c n m : Nat) (er : Int) (s : List UInt8) (hX : Hid (nextF s = (m, er))) (h : Hid (ST w M A c s)) (hn : s.length = n) (hl : n ≤ 1000000) :
    Calls Tryz.prog 29 #[.slice A n c] w fun e w' => ∃ d, e = .returned (.tuple #[.int .i64 m, .int .i64 er]) ∧ w' = w.drewN d := by
  subst hn
  refine (fnext_any w M A c s h.out.now.2.2.2 hl).mono ?_
  rw [hX.out]
  rintro e w' ⟨rfl, d, rfl⟩
  exact ⟨d, rfl, rfl⟩

theorem add_n (w : World) (base g n B : Nat) (ps : List (List UInt8)) (A : Option Addr) (c : Nat) (p : List UInt8) (hs : Hid (Came w base g ps)) (hn : ps.length ≤ 1000000) (h : Hid (SlB w B A c p)) (hB : B ≤ w.heap.size) (hpn : Hid (p.length = n)) (hl : n ≤ 1000000) :
    Calls Tryz.prog 27 #[.pointer (some ⟨g, 0, none⟩), .slice A n c] w fun e w' => e = .returned (.tuple #[]) ∧ Hid (Came w' base g (ps ++ [p])) ∧ Hid (Kept base [90, 25] w w') :=
  add_any w base g n B ps A c p hs.out hn h.out hB hpn.out hl
theorem ST.at_ {w : World} {M c n b o : Nat} {left : List UInt8} (h : ST w M (some ⟨b, o, none⟩) c left) (hn : n ≤ left.length) (hc : ¬ c = n) : ST w M (some ⟨b, o + n, none⟩) (c - n) (left.drop n) := by
  have h := h.drop n hn
  rw [if_neg hc, Addr.add_lit] at h
  exact h
theorem ST.end_ {w : World} {M c n b o : Nat} {left : List UInt8} (h : ST w M (some ⟨b, o, none⟩) c left) (hn : n ≤ left.length) (hc : c = n) : ST w M (some ⟨b, o, none⟩) (c - n) (left.drop n) := by
  have h := h.drop n hn
  rw [if_pos hc] at h
  exact h
theorem feed_split {done : List (List UInt8)} {s l : List UInt8} (h : feedF s = (done ++ (feedF l).1, (feedF l).2)) {m : Nat} (hn : nextF l = (m, 0)) :
    feedF s = ((done ++ [(l.take m).drop 4]) ++ (feedF (l.drop m)).1, (feedF (l.drop m)).2) := by
  rw [h, feedF_next hn]
  simp

theorem ST.cut {w : World} {M c n b o : Nat} {left : List UInt8} (h : ST w M (some ⟨b, o, none⟩) c left) (hn : n ≤ left.length) : ST w M (if c = n then some ⟨b, o, none⟩ else some ⟨b, o + n, none⟩) (c - n) (left.drop n) := by
  split
  · exact h.end_ hn (by assumption)
  · exact h.at_ hn (by assumption)
theorem pl_lt {w : World} {base : Nat} {ps : List (List UInt8)} {cs : List Value} (h : PL w base ps cs) : ∀ v ∈ cs, ∀ g, v.ownBlock = some g → g < w.heap.size := by
  intro v hv g hg
  obtain ⟨k, hk, rfl⟩ := List.getElem_of_mem hv
  obtain ⟨A, c, h1, h2⟩ := h.2 k (by rw [← h.1]; exact hk)
  rw [List.getElem?_eq_getElem hk] at h1
  injection h1 with h1
  rw [h1] at hg
  exact (h2.lt g hg).2
theorem fed_fin {w wr w7 : World} {r n k c7 lc : Nat} {done : List (List UInt8)} {left : List UInt8} {LA A7 : Option Addr} {cs : List Value} {v0 v1 : Value} {er : Int} (hr : w.heap.size ≤ r) (hbw : Below w.heap.size w wr) (hx : Box wr r 45 #[v0, v1])
    (ho : wr.ownsRow w.heap.size 25 1 (.slice LA k lc) k cs) (hp : PL wr w.heap.size done cs) (hk : done.length = k) (hn : left.length = n) (ho7 : w7.ownsRow wr.heap.size 5 1 (.slice A7 n c7) n (bv left)) (hb7 : Below wr.heap.size wr w7) :
    FedR w (done, left, er) (.returned (.tuple #[.agg #[.slice A7 n c7, .bool (decide (er ≠ 0))], .slice LA k lc, .int .i64 er])) ((w7.setCell ⟨r, 0, none⟩ (.slice A7 n c7)).setCell ⟨r, 1, none⟩ (.bool (decide (er ≠ 0)))) ∧
    Box ((w7.setCell ⟨r, 0, none⟩ (.slice A7 n c7)).setCell ⟨r, 1, none⟩ (.bool (decide (er ≠ 0)))) r 45 #[.slice A7 n c7, .bool (decide (er ≠ 0))] := by
  subst hk; subst hn
  have h7 := hbw.trans (hb7.mono hbw.size)
  obtain ⟨hx9, hb9, hk9⟩ := two_fin (u0 := .slice A7 left.length c7) (u1 := .bool (decide (er ≠ 0))) h7 hr (box_below hx hb7)
  have k7 : Kept w.heap.size [45] wr _ := ((Kept.of_below hb7 _ _)).trans hk9
  refine ⟨⟨A7, c7, LA, lc, cs, wr.heap.size, rfl, hbw.size, ?_, hk9.own ho7 (by decide), k7.own ho (by decide), hp.kept k7 (by decide), pl_lt hp, hb9⟩, hx9⟩
  exact k7.size

set_option maxHeartbeats 1000000 in
set_option maxRecDepth 100000 in
theorem feed_any (w : World) (B : Nat) (FA A : Option Addr) (fc c : Nat) (fb b : List UInt8) (bad : Bool) (hf : SlB w B FA fc fb) (hb : SlB w B A c b) (hB : B ≤ w.heap.size) (hl : fb.length + b.length ≤ 900000) :
    Calls Tryz.prog 16 #[.agg #[.slice FA fb.length fc, .bool bad], .slice A b.length c] w (FedR w (feedX bad (fb ++ b))) := by
  have hmf : ∀ (fn : Fn) (first cap : Array Value) (w : World), (Instr.makeFunc fn first cap).run Tryz.prog w = .ok (.func fn first cap) w := fun _ _ _ _ => rfl
  have HF := hid hf
  have HBB := hid hb
  clear hf hb
  cases bad with
  | true =>
    show Calls Tryz.prog 16 _ w (FedR w ([], [], 9))
    go_enter Tryz.func16, Tryz.ntmps16
    go_wp2
    go_step3
    go_wp2
    rw [Exit.noGoto_ret]
    refine bodyPost_ret (v := .tuple #[.agg #[.slice none 0 0, .bool true], .slice none 0 0, .int .i64 9]) (by simp [results, Tryz.results16, go_sem]) rfl ?_
    have hb1 : Below w.heap.size w ((w.alloc (Obj.cells #[Value.slice FA fb.length fc, Value.bool true] 45)).alloc (Obj.cells #[Value.slice none 0 0, Value.bool true] 45)) := ((Below.refl _ _).alloc (Nat.le_refl _) _).alloc (by simp) _
    exact ⟨none, 0, none, 0, [], _, rfl, hb1.size, Nat.le_refl _, World.ownsRow_nil _ _ _ _, World.ownsRow_nil _ _ _ _, PL.nil_ _ _, fun v h => by simp at h, hb1⟩
  | false =>
    show Calls Tryz.prog 16 _ w (FedR w (feedF (fb ++ b)))
    obtain ⟨N, HN⟩ : ∃ N, Hid ((fb ++ b).length = N) := ⟨_, hid rfl⟩
    have hN : N ≤ 900000 := by rw [← HN.out, List.length_append]; exact hl
    have hla := laid_mk w (.slice FA fb.length fc) false
    generalize hW : ((w.alloc (.cells #[.slice FA fb.length fc, .bool false] 45)).alloc (.cells #[.slice none 0 0, .bool false] 45)).alloc (.cells #[.slice none 0 0] 90) = w1 at hla
    have HW := hid hW
    have HLA := hid hla
    have hHF : Hid (SlB w1 B FA fc fb) := HF.out.below (hla.bel.mono hB)
    have hHB : Hid (SlB w1 B A c b) := HBB.out.below (hla.bel.mono hB)
    have hBs : Hid (B ≤ w1.heap.size) := by have := hla.size; show _ ≤ _; omega
    have hgs : Hid (w1.heap.size = w.heap.size + 1 + 1 + 1) := hla.size
    clear hW hla
    go_enter Tryz.func16, Tryz.ntmps16
    go_wp2
    go_step3
    go_wp2_with (first
      | (go_at_call 28
         rw [HW.out]
         ((with_reducible refine (concat_g w1 B _ FA A fc c fb.length b.length N fb b hHF hHB hBs hgs rfl rfl HN (by omega)).mono ?_); rintro e w2 ⟨A2, c2, rfl, HO2, HB2⟩)))
    have hz12 : w1.heap.size ≤ w2.heap.size := HB2.out.size
    have hz1 : w1.heap.size = w.heap.size + 1 + 1 + 1 := hgs.out
    have HX2 : Hid (Box w2 (w.heap.size + 1) 45 #[.slice none 0 0, .bool false]) := box_below HLA.out.res HB2.out
    have HC2 : Hid (Came w2 w.heap.size (w.heap.size + 1 + 1) []) := came_nil (by omega) (box_below HLA.out.came HB2.out)
    have HS2 : Hid (ST w2 w2.heap.size A2 c2 (fb ++ b)) := ST.of_own HN.out HO2.out
    have HB02 : Hid (Below w.heap.size w w2) := HLA.out.bel.trans (HB2.out.mono (by omega))
    go_step3
    go_wp2
    go_loopw [9] (fun v wr => ∃ (Al : Option Addr) (cl : Nat) (left : List UInt8) (done : List (List UInt8)), v = .slice Al left.length cl ∧ Hid (ST wr w2.heap.size Al cl left) ∧ Hid (Came wr w.heap.size (w.heap.size + 1 + 1) done) ∧ Hid (Box wr (w.heap.size + 1) 45 #[.slice none 0 0, .bool false]) ∧ Hid (Below w.heap.size w wr) ∧ w2.heap.size ≤ wr.heap.size ∧ Hid (feedF (fb ++ b) = (done ++ (feedF left).1, (feedF left).2)) ∧ done.length + left.length ≤ N) (fun v _ => match v with | .slice _ n _ => n | _ => 0)
    case atStart => exact ⟨A2, c2, fb ++ b, [], by rw [HN.out], HS2, HC2, HX2, HB02, Nat.le_refl _, by simp [Hid], by rw [HN.out]; simp⟩
    case round =>
      obtain ⟨Al, cl, left, done, rfl, HST, HCA, HXR, HBW, hzw, HFE, hlen⟩ := hrel
      obtain ⟨n, Hn⟩ : ∃ n, Hid (left.length = n) := ⟨_, hid rfl⟩
      rw [Hn.out] at hlen ⊢
      by_cases he : (nextF left).2 = 0
      · obtain ⟨hm, hq1, hq2, hq3⟩ := nextF_zero he
        obtain ⟨q, Hq⟩ : ∃ q, Hid (num4 left = q) := ⟨_, hid rfl⟩
        rw [Hq.out] at hm hq1 hq2 hq3
        rw [Hn.out] at hq3
        have HNX : Hid (nextF left = (4 + q, 0)) := Prod.ext hm he
        have hne : left ≠ [] := by intro e; have h := Hn.out; rw [e] at h; simp at h; omega
        obtain ⟨ab, ao, rfl, _⟩ := HST.out.now.2.2.2 (by simpa [bv] using hne)
        have hcl : n ≤ cl := by have h := HST.out.now.1; rw [Hn.out] at h; exact h
        have hcm : cl ≤ 9223372036854775807 := by have h := HST.out.now.2.1; unfold maxLen at h; omega
        have hc4 : ¬ (cl = 4) := by omega
        have t0 : ¬ ((n : Int) < 4 + q) := by omega
        have hnl : 4 + q ≤ left.length := by rw [Hn.out]; exact hq3
        have HP : Hid (((left.take (4 + q)).drop 4).length = q) := by show _ = _; rw [List.length_drop, List.length_take]; omega
        have HD : Hid ((left.drop (4 + q)).length = n - (4 + q)) := by show _ = _; rw [List.length_drop, Hn.out]
        have HSP : Hid (∀ d, SlB (wr.drewN d) w2.heap.size (some ⟨ab, ao + 4, none⟩) (cl - 4) ((left.take (4 + q)).drop 4)) := fun d => by
          have h := (HST.out.now.take (4 + q)).drop 4 (by rw [List.length_take]; omega)
          rw [if_neg hc4, Addr.add_lit] at h
          exact h
        have HCAd : Hid (∀ d, Came (wr.drewN d) w.heap.size (w.heap.size + 1 + 1) done) := fun d => HCA.out
        have HKd : Hid (∀ d, Kept w.heap.size [90, 25] wr (wr.drewN d)) := fun d => (Kept.refl _ _ _).drewN d
        have HZd : Hid (∀ d, w2.heap.size ≤ (wr.drewN d).heap.size) := fun d => hzw
        have HFE2 := hid (feed_split HFE.out HNX.out)
        have hszw : w.heap.size ≤ wr.heap.size := HBW.out.size
        clear he hm hne HFE
        go_wp2_with (first
          | (go_at_call 29
             ((with_reducible refine (next_n _ _ _ _ n (4 + q) 0 left HNX HST Hn.out (by omega)).mono ?_); rintro e w4 ⟨d, rfl, rfl⟩))
          | (go_at_call 27
             ((with_reducible refine (add_n _ w.heap.size _ q w2.heap.size done _ _ _ (hid (HCAd.out d)) (by omega) (hid (HSP.out d)) (HZd.out d) HP (by omega)).mono ?_); rintro e w5 ⟨rfl, HC5, HK5⟩)
             have HK := hid ((HKd.out d).trans HK5.out)
             clear HK5))
        refine ⟨⟨_, _, left.drop (4 + q), done ++ [(left.take (4 + q)).drop 4], by rw [HD.out], (ST.cut HST.out hnl).kept HK.out, HC5, HK.out.box HXR.out (by decide), HBW.out.trans (HK.out.below hszw), Nat.le_trans hzw HK.out.size, HFE2.out, ?_⟩, ?_⟩
        · rw [HD.out, List.length_append, List.length_singleton]; omega
        · show n - (4 + q) < n
          omega
      · obtain ⟨_, LA, lc, cs, hxc, hol, hpl⟩ := HCA.out
        obtain ⟨k, Hk⟩ : ∃ k, Hid (done.length = k) := ⟨_, hid rfl⟩
        rw [Hk.out] at hlen hxc hol
        have HXC := hid hxc
        have HOL := hid hol
        have HPL := hid hpl
        clear hxc hol hpl
        rcases nextF_else he with h3 | h5
        · have HNX := hid h3
          have HE : Hid (feedF (fb ++ b) = (done, left, 0)) := by show _ = _; rw [HFE.out, feedF_short h3]; simp
          clear he h3
          have HcD : ∀ d, (wr.drewN d).cell? ⟨w.heap.size + 1 + 1, 0, none⟩ = some (.slice LA k lc) := fun d => HXC.out.cell 0
          have HXRd : Hid (∀ d, Box (wr.drewN d) (w.heap.size + 1) 45 #[.slice none 0 0, .bool false]) := fun d => HXR.out
          have HXCd : Hid (∀ d, Box (wr.drewN d) (w.heap.size + 1 + 1) 90 #[.slice LA k lc]) := fun d => HXC.out
          have HSd : Hid (∀ d, SlB (wr.drewN d) w2.heap.size Al cl left) := fun d => HST.out.now
          go_wp2_with (first
            | (go_at_call 29
               ((with_reducible refine (next_n _ _ _ _ n 0 3 left HNX HST Hn.out (by omega)).mono ?_); rintro e w4 ⟨d, rfl, rfl⟩)
               have cD := HcD d))
          go_region_law (first
            | (go_simp
               go_at_call 30
               ((with_reducible refine (copied_n _ _ _ _ n left (hid (HSd.out _)) Hn.out (by omega)).mono ?_); rintro e w7 ⟨A7, c7, rfl, HO7, HB7⟩)
               have hxr := box_below (HXRd.out _) HB7.out
               have hxc := box_below (HXCd.out _) HB7.out
               have c70 : w7.cell? ⟨w.heap.size + 1 + 1, 0, none⟩ = some (.slice LA k lc) := hxc.cell 0
               have c71 : w7.cell? ⟨w.heap.size + 1, 0, none⟩ = some (.slice none 0 0) := hxr.cell 0
               have c72 : w7.cell? ⟨w.heap.size + 1, 1, none⟩ = some (.bool false) := hxr.cell 1
               have f71 : w7.frozen? ⟨w.heap.size + 1, 0, none⟩ = false := hxr.frozen 0
               have f72 : w7.frozen? ⟨w.heap.size + 1, 1, none⟩ = false := hxr.frozen 1
               clear hxr hxc))
          all_goals
            go_wp2
            have hf := fed_fin (w := w) (wr := wr.drewN (d + 1)) (er := 0) (left := left) (done := done) (Nat.le_succ _) (bel_drewN HBW.out _) HXR.out HOL.out HPL.out Hk.out Hn.out HO7.out HB7.out
            rw [show decide ((0 : Int) ≠ 0) = false from rfl] at hf
            obtain ⟨hR, hX⟩ := hf
            rw [Exit.noGoto_ret, HE.out]
            generalize (w7.setCell _ _).setCell _ _ = w9 at hR hX ⊢
            have HR := hid hR
            have d0 : w9.cell? ⟨w.heap.size + 1, 0, none⟩ = some (.slice A7 n c7) := hX.cell 0
            have d1 : w9.cell? ⟨w.heap.size + 1, 1, none⟩ = some (.bool false) := hX.cell 1
            clear hR hX
            refine bodyPost_ret (v := .tuple #[.agg #[.slice A7 n c7, .bool false], .slice LA k lc, .int .i64 0]) (by simp [results, Tryz.results16, go_sem, d0, d1]) rfl ?_
            exact HR.out
        · have HNX := hid h5
          have HE : Hid (feedF (fb ++ b) = (done, [], 5)) := by show _ = _; rw [HFE.out, feedF_bad h5]; simp
          clear he h5
          have HXRd : Hid (∀ d, Box (wr.drewN d) (w.heap.size + 1) 45 #[.slice none 0 0, .bool false]) := fun d => HXR.out
          have HXCd : Hid (∀ d, Box (wr.drewN d) (w.heap.size + 1 + 1) 90 #[.slice LA k lc]) := fun d => HXC.out
          go_wp2_with (first
            | (go_at_call 29
               ((with_reducible refine (next_n _ _ _ _ n 0 5 left HNX HST Hn.out (by omega)).mono ?_); rintro e w4 ⟨d, rfl, rfl⟩)))
          have c70 : wr.cell? ⟨w.heap.size + 1 + 1, 0, none⟩ = some (.slice LA k lc) := HXC.out.cell 0
          have c71 : wr.cell? ⟨w.heap.size + 1, 0, none⟩ = some (.slice none 0 0) := HXR.out.cell 0
          have c72 : wr.cell? ⟨w.heap.size + 1, 1, none⟩ = some (.bool false) := HXR.out.cell 1
          have f71 : wr.frozen? ⟨w.heap.size + 1, 0, none⟩ = false := HXR.out.frozen 0
          have f72 : wr.frozen? ⟨w.heap.size + 1, 1, none⟩ = false := HXR.out.frozen 1
          go_region
          all_goals
            go_wp2
            have hf := fed_fin (w := w) (wr := wr.drewN (d + 1)) (w7 := wr.drewN (d + 1)) (er := 5) (left := []) (done := done) (A7 := none) (c7 := 0) (Nat.le_succ _) (bel_drewN HBW.out _) HXR.out HOL.out HPL.out Hk.out rfl (World.ownsRow_nil _ _ _ _) (Below.refl _ _)
            rw [show decide ((5 : Int) ≠ 0) = true from rfl] at hf
            obtain ⟨hR, hX⟩ := hf
            rw [Exit.noGoto_ret, HE.out]
            generalize ((wr.drewN (d + 1)).setCell _ _).setCell _ _ = w9 at hR hX ⊢
            have HR := hid hR
            have d0 : w9.cell? ⟨w.heap.size + 1, 0, none⟩ = some (.slice none 0 0) := hX.cell 0
            have d1 : w9.cell? ⟨w.heap.size + 1, 1, none⟩ = some (.bool true) := hX.cell 1
            clear hR hX
            refine bodyPost_ret (v := .tuple #[.agg #[.slice none 0 0, .bool true], .slice LA k lc, .int .i64 5]) (by simp [results, Tryz.results16, go_sem, d0, d1]) rfl ?_
            exact HR.out

end Go.Proofs.YtfcepcdgflkgnaaGreatDoor
