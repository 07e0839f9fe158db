import Derived.Test.YtdplngplljejhaaDoorFD
namespace Go.Proofs.YtdplngplljejhaaDoor
open Go.RowKit

/-- A payload as a packet: the error, the bytes. -/
def putF (p : List UInt8) : Int × List UInt8 := if p.length < 1 ∨ 33792 < p.length then (5, []) else (0, four p.length ++ p)
theorem four_length (n : Nat) : (four n).length = 4 := rfl

set_option maxHeartbeats 1000000 in
set_option maxRecDepth 100000 in
theorem fput_any (w : World) (B : Nat) (A : Option Addr) (c : Nat) (p : List UInt8) (h : SlB w B A c p) (hB : B ≤ w.heap.size) (hl : p.length ≤ maxLen) :
    Calls Tryd.prog 13 #[.slice A p.length c] w fun e w' => ∃ A' c', e = .returned (.tuple #[.slice A' (putF p).2.length c', .int .i64 (putF p).1]) ∧ w'.ownsRow w.heap.size 5 1 (.slice A' (putF p).2.length c') (putF p).2.length (bv (putF p).2) ∧ Below w.heap.size w w' := by
  obtain ⟨i0, hi0, hz0, hz1, hz2⟩ := info_parts Tryd.info5
  unfold maxLen at hl
  by_cases h1 : p.length < 1 ∨ 33792 < p.length
  · have e : putF p = (5, []) := by unfold putF; rw [if_pos h1]
    rw [e]
    have HS := hid h
    clear h
    by_cases h2 : p.length < 1
    · have h3 : ((p.length : Int) < 1) := by omega
      go_enter Tryd.func13, Tryd.ntmps13
      go_wp2
      go_ret2
      exact ⟨_, _, rfl, World.ownsRow_nil _ _ _ _, Below.refl _ _⟩
    · have h3 : ¬ ((p.length : Int) < 1) := by omega
      have h4 : ((33792 : Int) < p.length) := by omega
      go_enter Tryd.func13, Tryd.ntmps13
      go_wp2
      go_ret2
      exact ⟨_, _, rfl, World.ownsRow_nil _ _ _ _, Below.refl _ _⟩
  · have e : putF p = (0, four p.length ++ p) := by unfold putF; rw [if_neg h1]
    rw [e]
    have h3 : ¬ ((p.length : Int) < 1) := by omega
    have h4 : ¬ ((33792 : Int) < p.length) := by omega
    have HS := hid h
    have HV : Hid (bv (four p.length) = [.int .u8 ((p.length : Int) / 16777216), .int .u8 ((p.length : Int) / 65536), .int .u8 ((p.length : Int) / 256), .int .u8 ((p.length : Int) % 256)]) := by
      show _ = _
      rw [four_v p.length (by omega)]
      simp; omega
    clear h
    obtain ⟨w1, hmk, ho1, hg1⟩ := run_make_own (P := Tryd.prog) w w.heap.size 22 5 i0 _ 1 Tryd.underlying22 hi0 hz0 hz1 .i64 .i64 (4 + p.length) (by rw [hz2]; omega) (by unfold maxLen; omega) (Nat.le_refl _)
    rw [Int.natCast_add] at hmk
    have hmk : (Instr.makeSlice 22 (.int .i64 0) (.int .i64 (4 + (p.length : Int)))).run Tryd.prog w = .ok (.slice (some ⟨w.heap.size, 0, none⟩) 0 (4 + p.length)) w1 := hmk
    have hb1 : Below w.heap.size w w1 := ⟨hg1.os, hg1.tape, hg1.output, hg1.size, fun b hb => hg1.block b hb (by simp)⟩
    have HO1 := hid ho1
    have HB1 := hid hb1
    have hs1 : w.heap.size ≤ w1.heap.size := hb1.size
    clear ho1 hg1 hb1
    go_enter Tryd.func13, Tryd.ntmps13
    go_wp2_with (at_builtin; refine wpList_app _ rfl (.tmp 17) (.tmp 29) 22 rfl w.heap.size 5 i0 _ 1 1 Tryd.underlying22 hi0 hz0 hz1 hz2 rfl (by omega) (some ⟨w.heap.size, 0, none⟩) 0 (4 + p.length) [] rfl ?own (w1.heap.size + 1) (some ⟨w1.heap.size, 0, none⟩) 4 4 (bv (four p.length)) rfl rfl ?c1 ?c2 ?b1 ?b2 ?b3 ?grow)
    case own => exact HO1.out.alloc _
    case c1 => rw [HV.out]; exact lies_lit _ _ _
    case c2 => exact bv_one _
    case b1 => unfold maxLen; omega
    case b3 => first | omega | (simp; omega)
    case grow =>
      intro A2 c2 w2 ho2 hg2
      have HB2 := hid (app_bel (HB1.out.alloc hs1 _) (HO1.out.alloc _) hg2)
      have HO2 := hid ho2
      have hs2 : w.heap.size ≤ w2.heap.size := HB2.out.size
      clear ho2 hg2
      go_wp2_with (at_builtin; refine wpList_app _ rfl (.tmp 31) (.tmp 32) 22 rfl w.heap.size 5 i0 _ 1 1 Tryd.underlying22 hi0 hz0 hz1 hz2 rfl (by omega) A2 4 c2 (bv (four p.length)) rfl ?own2 w.heap.size A p.length c (bv p) rfl ?d0 ?d1 ?d2 ?e1 ?e2 ?e3 ?grow2)
      case own2 => exact HO2.out
      case d0 => simp [bv_length]
      case d1 => exact (HS.out.2.2.2.more hB).below HB2.out
      case d2 => exact bv_one _
      case e1 => unfold maxLen; omega
      case e2 => omega
      case e3 => omega
      case grow2 =>
        intro A3 c3 w3 ho3 hg3
        have HB3 := hid (app_bel HB2.out HO2.out hg3)
        have HO3 := hid ho3
        clear ho3 hg3
        go_wp2
        go_ret2
        refine ⟨A3, c3, by simp [four_length], ?_, HB3.out⟩
        rw [bv_append, List.length_append, four_length]
        exact HO3.out

/-- Rows of bytes of the call's own, each in a cell of a list. -/
def PL (w : World) (base : Nat) (ps : List (List UInt8)) (cs : List Value) : Prop :=
  cs.length = ps.length ∧ ∀ k (h : k < ps.length), ∃ A c, cs[k]? = some (.slice A ps[k].length c) ∧ w.ownsRow base 5 1 (.slice A ps[k].length c) ps[k].length (bv ps[k])
theorem PL.nil_ (w : World) (base : Nat) : PL w base [] [] := ⟨rfl, fun k h => by simp at h⟩
theorem PL.kept {w w' : World} {base B : Nat} {T : List TypeId} {ps : List (List UInt8)} {cs : List Value} (h : PL w base ps cs) (k : Kept B T w w') (hT : 5 ∉ T) : PL w' base ps cs :=
  ⟨h.1, fun i hi => by obtain ⟨A, c, h1, h2⟩ := h.2 i hi; exact ⟨A, c, h1, k.own h2 hT⟩⟩
theorem PL.snoc {w : World} {base : Nat} {ps : List (List UInt8)} {cs : List Value} {p : List UInt8} {A : Option Addr} {c : Nat} (h : PL w base ps cs) (ho : w.ownsRow base 5 1 (.slice A p.length c) p.length (bv p)) :
    PL w base (ps ++ [p]) (cs ++ [.slice A p.length c]) := by
  refine ⟨by simp [h.1], fun k hk => ?_⟩
  by_cases hlt : k < ps.length
  · obtain ⟨A', c', h1, h2⟩ := h.2 k hlt
    refine ⟨A', c', ?_, ?_⟩
    · rw [List.getElem?_append_left (by rw [h.1]; exact hlt), List.getElem_append_left hlt]; exact h1
    · rw [List.getElem_append_left hlt]; exact h2
  · have hk' : k = ps.length := by simp at hk; omega
    subst hk'
    refine ⟨A, c, ?_, ?_⟩
    · rw [List.getElem_append_right (Nat.le_refl _)]
      rw [List.getElem?_append_right (by rw [h.1]; exact Nat.le_refl _), h.1]
      simp
    · rw [List.getElem_append_right (Nat.le_refl _)]
      simpa using ho

/-- The block of the list that grows. -/
def Came (w : World) (base g : Nat) (ps : List (List UInt8)) : Prop :=
  base ≤ g ∧ ∃ LA lc cs, Box w g 100 #[.slice LA ps.length lc] ∧ w.ownsRow base 22 1 (.slice LA ps.length lc) ps.length cs ∧ PL w base ps cs
theorem Came.lt {w : World} {base g : Nat} {ps : List (List UInt8)} (h : Came w base g ps) : g < w.heap.size := by
  obtain ⟨_, LA, lc, cs, hx, _⟩ := h
  exact hx.lt
theorem Came.kept {w w' : World} {base g B : Nat} {T : List TypeId} {ps : List (List UInt8)} (h : Came w base g ps) (k : Kept B T w w') (h1 : 100 ∉ T) (h2 : 22 ∉ T) (h3 : 5 ∉ T) : Came w' base g ps := by
  obtain ⟨hb, LA, lc, cs, hx, ho, hp⟩ := h
  exact ⟨hb, LA, lc, cs, k.box hx h1, k.own ho h2, hp.kept k h3⟩

theorem came_store {base g n c' lc : Nat} {ps : List (List UInt8)} {p : List UInt8} {cs : List Value} {LA A' A : Option Addr} {c : Nat} {w0 w w' : World} (hn : ps.length = n) (hbg : base ≤ g) (hx : Box w g 100 #[.slice LA n lc]) (ho : w.ownsRow base 22 1 (.slice LA n lc) n cs)
    (hp : PL w base ps cs) (hnew : w.ownsRow base 5 1 (.slice A p.length c) p.length (bv p)) (hk : Kept base [100, 22] w0 w) (hg : w.grownBy w' (Value.slice LA n lc).ownBlock) (ho' : w'.ownsRow base 22 1 (.slice A' (n + 1) c') (n + 1) (cs ++ [.slice A p.length c])) :
    Came (w'.setCell ⟨g, 0, none⟩ (.slice A' (n + 1) c')) base g (ps ++ [p]) ∧ Kept base [100, 22] w0 (w'.setCell ⟨g, 0, none⟩ (.slice A' (n + 1) c')) := by
  subst hn
  have hne : (Value.slice LA ps.length lc).ownBlock ≠ some g := own_ne ho hx (by decide)
  have hx' : Box w' g 100 #[.slice LA ps.length lc] := hx.same (hg.block g hx.lt (fun e => hne e.symm))
  have k1 : Kept base [100, 22] w w' := (Kept.refl _ _ _).grown hg (fun k hk => by obtain ⟨a, cs, b⟩ := own_box ho k hk; exact ⟨a, 22, cs, by simp, b⟩)
  have k3 := (Kept.refl base [100] w').store (i := 0) hx' hbg (by simp) (.slice A' (ps.length + 1) c')
  have k2 := (hk.trans k1).store (i := 0) hx' hbg (by simp) (.slice A' (ps.length + 1) c')
  have k4 : Kept base [100, 22] w (w'.setCell ⟨g, 0, none⟩ (.slice A' (ps.length + 1) c')) := k1.store (i := 0) hx' hbg (by simp) _
  refine ⟨⟨hbg, A', c', cs ++ [.slice A p.length c], ?_, ?_, ?_⟩, k2⟩
  · have := hx'.store 0 (.slice A' (ps.length + 1) c')
    simpa using this
  · have := k3.own ho' (by decide)
    simpa using this
  · exact (hp.snoc hnew).kept k4 (by decide)

theorem copied_n (w : World) (B : Nat) (A : Option Addr) (c n : Nat) (bs : List UInt8) (h : Hid (SlB w B A c bs)) (hn : bs.length = n) (hl : n ≤ 1000000) :
    Calls Tryd.prog 32 #[.slice A n c] w fun e w' => ∃ A' c', e = .returned (.slice A' n c') ∧ Hid (w'.ownsRow w.heap.size 5 1 (.slice A' n c') n (bv bs)) ∧ Hid (Below w.heap.size w w') := by
  subst hn
  exact copied_any w B A c bs h.out hl

set_option maxHeartbeats 2000000 in
set_option maxRecDepth 100000 in
theorem add_any (w : World) (base g n B : Nat) (ps : List (List UInt8)) (A : Option Addr) (c : Nat) (p : List UInt8) (hs : Came w base g ps) (hn : ps.length ≤ 1000000) (h : SlB w B A c p) (hB : B ≤ w.heap.size) (hpn : p.length = n) (hl : n ≤ 1000000) :
    Calls Tryd.prog 29 #[.pointer (some ⟨g, 0, none⟩), .slice A n c] w fun e w' => e = .returned (.tuple #[]) ∧ Came w' base g (ps ++ [p]) ∧ Kept base [100, 22] w w' := by
  obtain ⟨i1, hi1, hz10, hz11, hz12⟩ := info_parts Tryd.info22
  obtain ⟨hbg, LA, lc, cs, hx, ho, hp⟩ := hs
  obtain ⟨m, Hm⟩ : ∃ m, Hid (ps.length = m) := ⟨_, hid rfl⟩
  rw [Hm.out] at hx ho hn
  have hlt := hx.lt
  have hbw : base ≤ w.heap.size := by omega
  have HX := hid hx
  have HO := hid ho
  have HP := hid hp
  have HS := hid h
  have HPN := hid hpn
  have c0 : w.cell? ⟨g, 0, none⟩ = some (.slice LA m lc) := hx.cell 0
  have HS1 : Hid (SlB w.drew B A c p) := h
  have HO1 : Hid (w.drew.ownsRow base 22 1 (.slice LA m lc) m cs) := ho
  have HP1 : Hid (PL w.drew base ps cs) := hp
  have HK1 : Hid (Kept base [100, 22] w w.drew) := (Kept.refl _ _ _).drew
  clear hx ho hp h hpn
  go_enter Tryd.func29, Tryd.ntmps29
  go_wp2
  go_region_law (first
    | (go_simp
       go_at_call 32
       ((with_reducible refine (copied_n w.drew B A c n p HS1 HPN.out hl).mono ?_); rintro e w2 ⟨A2, c2, rfl, HO2, HB2⟩)
       have hx2 := box_below (w := w.drew) HX.out HB2.out
       have c20 : w2.cell? ⟨g, 0, none⟩ = some (.slice LA m lc) := hx2.cell 0
       have hx3 := box_below hx2 ((Below.refl _ _).alloc (Nat.le_refl _) (.cells #[.slice A2 n c2] 22))
       have c30 : (w2.alloc (.cells #[.slice A2 n c2] 22)).cell? ⟨g, 0, none⟩ = some (.slice LA m lc) := hx3.cell 0
       have HX3 := hid hx3
       have hz2 : base ≤ w2.heap.size := by have := HB2.out.size; simp at this; omega
       clear hx2 hx3)
    | (refine step_app _ rfl (.tmp 8) (.tmp 11) 48 rfl base 22 i1 _ 1 24 Tryd.underlying48 hi1 hz10 hz11 hz12 rfl (by decide) LA m lc cs rfl ((own_keep HO1.out HB2.out).alloc _) (w2.heap.size + 1) (some ⟨w2.heap.size, 0, none⟩) 1 1 [.slice A2 n c2] rfl rfl (lies_lit w2 #[.slice A2 n c2] 22) (by intro u hu; simp at hu; subst hu; rfl) (by unfold maxLen; omega) (by omega) (by simp; omega) ?_
       intro A8 c8 w8 ho8 hg8
       have hx8 := HX3.out.same (hg8.block g HX3.out.lt (fun e => own_ne ((own_keep HO1.out HB2.out).alloc (.cells #[.slice A2 n c2] 22)) HX3.out (by decide) e.symm))
       have c80 : w8.cell? ⟨g, 0, none⟩ = some (.slice LA m lc) := hx8.cell 0
       have f80 : w8.frozen? ⟨g, 0, none⟩ = false := hx8.frozen 0
       have HF := hid (came_store (w0 := w) (p := p) Hm.out hbg HX3.out ((own_keep HO1.out HB2.out).alloc _) (HP1.out.kept ((Kept.of_below HB2.out 0 []).alloc (.cells #[.slice A2 n c2] 22)) (by decide)) (by rw [HPN.out]; exact (own_mono HO2.out hbw).alloc _) ((HK1.out.trans (Kept.of_below HB2.out base [100, 22])).alloc _) hg8 (by rw [HPN.out]; exact ho8))
       clear ho8 hg8 hx8))
  all_goals
    go_wp2
    go_end0
    exact ⟨rfl, HF.out.1, HF.out.2⟩

theorem nextF_zero {s : List UInt8} (h : (nextF s).2 = 0) : (nextF s).1 = 4 + num4 s ∧ 1 ≤ num4 s ∧ num4 s ≤ 33792 ∧ 4 + num4 s ≤ s.length := by
  unfold nextF at h ⊢
  split at h
  · simp at h
  · split at h
    · simp at h
    · split at h
      · simp at h
      · rename_i h1 h2 h3
        rw [if_neg h1, if_neg h2, if_neg h3]
        refine ⟨rfl, ?_, ?_, ?_⟩ <;> omega
theorem nextF_else {s : List UInt8} (h : (nextF s).2 ≠ 0) : nextF s = (0, 3) ∨ nextF s = (0, 5) := by
  unfold nextF at h ⊢
  split
  · exact .inl rfl
  · split
    · exact .inr rfl
    · split
      · exact .inl rfl
      · rename_i h1 h2 h3
        rw [if_neg h1, if_neg h2, if_neg h3] at h
        exact absurd rfl h

/-- What comes of a stream: the payloads, what is left, the error. -/
def feedF (s : List UInt8) : List (List UInt8) × List UInt8 × Int :=
  if h : (nextF s).2 = 0 then
    let r := feedF (s.drop (nextF s).1)
    ((s.take (nextF s).1).drop 4 :: r.1, r.2)
  else if (nextF s).2 = 3 then ([], s, 0) else ([], [], (nextF s).2)
termination_by s.length
decreasing_by
  have := nextF_zero h
  rw [List.length_drop]
  omega
theorem feedF_next {s : List UInt8} {n : Nat} (h : nextF s = (n, 0)) : feedF s = ((s.take n).drop 4 :: (feedF (s.drop n)).1, (feedF (s.drop n)).2) := by
  rw [feedF, dif_pos (by rw [h]), h]
theorem feedF_short {s : List UInt8} {n : Nat} (h : nextF s = (n, 3)) : feedF s = ([], s, 0) := by
  rw [feedF, dif_neg (by rw [h]; simp), if_pos (by rw [h])]
theorem feedF_bad {s : List UInt8} {n : Nat} (h : nextF s = (n, 5)) : feedF s = ([], [], 5) := by
  rw [feedF, dif_neg (by rw [h]; simp), if_neg (by rw [h]; simp), h]
/-- What a framer that may be bad makes of a stream. -/
def feedX (bad : Bool) (s : List UInt8) : List (List UInt8) × List UInt8 × Int := if bad then ([], [], 9) else feedF s

def FedR (w : World) (x : List (List UInt8) × List UInt8 × Int) (e : Ending) (w' : World) : Prop :=
  ∃ A c LA lc cs M, e = .returned (.tuple #[.agg #[.slice A x.2.1.length c, .bool (decide (x.2.2 ≠ 0))], .slice LA x.1.length lc, .int .i64 x.2.2]) ∧ w.heap.size ≤ M ∧ M ≤ w'.heap.size ∧
    w'.ownsRow M 5 1 (.slice A x.2.1.length c) x.2.1.length (bv x.2.1) ∧ w'.ownsRow w.heap.size 22 1 (.slice LA x.1.length lc) x.1.length cs ∧ PL w' w.heap.size x.1 cs ∧
    (∀ v ∈ cs, ∀ g, v.ownBlock = some g → g < M) ∧ Below w.heap.size w w'

theorem lisV_two {w : World} {B : Nat} {A A2 : Option Addr} {c c2 : Nat} {xs ys : List UInt8} (h1 : SlB w B A c xs) (h2 : SlB w B A2 c2 ys) (hB : B ≤ w.heap.size) :
    LisV (w.alloc (.cells #[.slice A xs.length c, .slice A2 ys.length c2] 22)) (w.heap.size + 1) (some ⟨w.heap.size, 0, none⟩) [xs, ys] := fun _ => by
  have hb : Below B w (w.alloc (.cells #[.slice A xs.length c, .slice A2 ys.length c2] 22)) := (Below.refl _ _).alloc hB _
  have hc := fun i => (Box.new w 22 #[.slice A xs.length c, .slice A2 ys.length c2]).cell i
  refine ⟨w.heap.size, 0, rfl, by simp, fun k hk => ?_⟩
  have hk2 : k < 2 := hk
  have h3 : k = 0 ∨ k = 1 := by omega
  rcases h3 with rfl | rfl
  · exact ⟨A, c, hc 0, (h1.below hb).more (by omega)⟩
  · exact ⟨A2, c2, hc 1, (h2.below hb).more (by omega)⟩
theorem concat_two (w : World) (B : Nat) (A A2 : Option Addr) (c c2 n n2 N : Nat) (xs ys : List UInt8) (h1 : Hid (SlB w B A c xs)) (h2 : Hid (SlB w B A2 c2 ys)) (hB : B ≤ w.heap.size) (hn : xs.length = n) (hn2 : ys.length = n2) (hN : (xs ++ ys).length = N) (hl : N ≤ 1000000) :
    Calls Tryd.prog 30 #[.slice (some ⟨w.heap.size, 0, none⟩) 2 2] (w.alloc (.cells #[.slice A n c, .slice A2 n2 c2] 22)) fun e w' => ∃ A' c', e = .returned (.slice A' N c') ∧ Hid (w'.ownsRow w.heap.size 5 1 (.slice A' N c') N (bv (xs ++ ys))) ∧ Hid (Below w.heap.size w w') := by
  subst hn; subst hn2; subst hN
  have hf : [xs, ys].flatten = xs ++ ys := by simp
  refine (concat_any _ (w.heap.size + 1) (some ⟨w.heap.size, 0, none⟩) 2 [xs, ys] (lisV_two h1.out h2.out hB) (by simp) (by simp) (by rw [hf]; exact hl)).mono ?_
  rw [hf]
  rintro e w2 ⟨A1, c1, rfl, ho, hb⟩
  exact ⟨A1, c1, rfl, own_mono ho (by simp), ((Below.refl _ _).alloc (Nat.le_refl _) _).trans (hb.mono (by simp))⟩

/-- A slice of bytes that stays, whatever is done to lists. -/
def ST (w : World) (M : Nat) (A : Option Addr) (c : Nat) (left : List UInt8) : Prop := ∀ W', Kept 0 [100, 22, 47] w W' → SlB W' M A c left
theorem ST.of_own {w : World} {base N c : Nat} {A : Option Addr} {s : List UInt8} (hn : s.length = N) (h : w.ownsRow base 5 1 (.slice A N c) N (bv s)) : ST w w.heap.size A c s := fun W' k => by
  subst hn
  have hs := own_slb (n := 0) (k.own h (by decide))
  refine ⟨hs.1, hs.2.1, hs.2.2.1, fun hne => ?_⟩
  obtain ⟨b, o, e, hb, hc⟩ := hs.2.2.2 hne
  refine ⟨b, o, e, ?_, hc⟩
  subst e
  exact (h.lt b rfl).2
theorem ST.kept {w w' : World} {B M c : Nat} {A : Option Addr} {left : List UInt8} {T : List TypeId} (h : ST w M A c left) (k : Kept B T w w') (hT : ∀ t ∈ T, t ∈ [100, 22, 47] := by decide) : ST w' M A c left := fun W' k' => h W' ((k.mono (Nat.zero_le _) hT).trans k')
theorem ST.now {w : World} {M c : Nat} {A : Option Addr} {left : List UInt8} (h : ST w M A c left) : SlB w M A c left := h w (Kept.refl _ _ _)
theorem ST.drop {w : World} {M c : Nat} {a : Addr} {left : List UInt8} (h : ST w M (some a) c left) (n : Nat) (hn : n ≤ left.length) : ST w M (some (if c = n then a else a.add n)) (c - n) (left.drop n) := fun W' k => (h W' k).drop n hn

/-- What Feed lays out at its start. -/
structure Laid (w w1 : World) (v0 : Value) (b : Bool) : Prop where
  fr : Box w1 w.heap.size 47 #[v0, .bool b]
  res : Box w1 (w.heap.size + 1) 47 #[.slice none 0 0, .bool false]
  came : Box w1 (w.heap.size + 2) 100 #[.slice none 0 0]
  bel : Below w.heap.size w w1
  size : w1.heap.size = w.heap.size + 3
theorem laid_mk (w : World) (v0 : Value) (b : Bool) : Laid w (((w.alloc (.cells #[v0, .bool b] 47)).alloc (.cells #[.slice none 0 0, .bool false] 47)).alloc (.cells #[.slice none 0 0] 100)) v0 b := by
  have h1 := Box.new w 47 #[v0, .bool b]
  have h2 := Box.new (w.alloc (.cells #[v0, .bool b] 47)) 47 #[.slice none 0 0, .bool false]
  have h3 := Box.new ((w.alloc (.cells #[v0, .bool b] 47)).alloc (.cells #[.slice none 0 0, .bool false] 47)) 100 #[.slice none 0 0]
  have e1 : (w.alloc (.cells #[v0, .bool b] 47)).heap.size = w.heap.size + 1 := by simp
  have e2 : ((w.alloc (.cells #[v0, .bool b] 47)).alloc (.cells #[.slice none 0 0, .bool false] 47)).heap.size = w.heap.size + 2 := by simp
  rw [e1] at h2
  rw [e2] at h3
  refine ⟨?_, ?_, h3, ?_, by simp⟩
  · exact box_below (box_below h1 ((Below.refl _ _).alloc (Nat.le_refl _) _)) ((Below.refl _ _).alloc (Nat.le_refl _) _)
  · exact box_below h2 ((Below.refl _ _).alloc (Nat.le_refl _) _)
  · exact (((Below.refl _ _).alloc (Nat.le_refl _) _).alloc (by rw [e1]; omega) _).alloc (by rw [e2]; omega) _
theorem concat_g (w : World) (B g : Nat) (A A2 : Option Addr) (c c2 n n2 N : Nat) (xs ys : List UInt8) (h1 : Hid (SlB w B A c xs)) (h2 : Hid (SlB w B A2 c2 ys)) (hB : Hid (B ≤ w.heap.size)) (hg : Hid (w.heap.size = g)) (hn : xs.length = n) (hn2 : ys.length = n2) (hN : Hid ((xs ++ ys).length = N)) (hl : N ≤ 1000000) :
    Calls Tryd.prog 30 #[.slice (some ⟨g, 0, none⟩) 2 2] (w.alloc (.cells #[.slice A n c, .slice A2 n2 c2] 22)) fun e w' => ∃ A' c', e = .returned (.slice A' N c') ∧ Hid (w'.ownsRow w.heap.size 5 1 (.slice A' N c') N (bv (xs ++ ys))) ∧ Hid (Below w.heap.size w w') := by
  have := hg.out
  subst this
  exact concat_two w B A A2 c c2 n n2 N xs ys h1 h2 hB.out hn hn2 hN.out hl
theorem came_nil {w : World} {base g : Nat} (hb : base ≤ g) (hx : Box w g 100 #[.slice none 0 0]) : Came w base g [] := ⟨hb, none, 0, [], hx, World.ownsRow_nil _ _ _ _, PL.nil_ _ _⟩

end Go.Proofs.YtdplngplljejhaaDoor
