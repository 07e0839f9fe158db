import Derived.Test.YtibkbcffoabhfaaKZ
namespace Go.Proofs.Ytibkbcffoabhfaa
open Go.RowKit

set_option maxHeartbeats 4000000 in
set_option maxRecDepth 100000 in
theorem plays_great (w : World) (b r h lo : Int) (A : Option Addr) (c n : Nat) (l : List OpV) (hl : Hid (OpsV w w.heap.size A l)) (hn : Hid (l.length = n)) (hl2 : n ≤ maxLen) (hg : Hid (greatO l = true)) :
    Calls Try.prog 3 #[.agg #[.int .i64 b, .int .i64 r, .int .i64 h, .int .i64 lo], .slice A n c] w fun e w' => e = .returned (.bool true) ∧ Hid (Below w.heap.size w w') := by
  have HB0 : Hid (Below w.heap.size w (w.alloc (.cells #[.int .i64 b, .int .i64 r, .int .i64 h, .int .i64 lo] 23))) := (Below.refl _ _).alloc (Nat.le_refl _) _
  have HL0 := ops_at hl HB0
  go_enter Try.func3, Try.ntmps3
  go_wp2_with (first
    | (go_at_call 7
       ((with_reducible refine (alive_any _).mono ?_); rintro e w1 ⟨rfl, HB1⟩)
       have HL1 : Hid (OpsV w1 w1.heap.size A l) := ops_at HL0 HB1)
    | (go_at_call 8
       ((with_reducible refine (great_any _ A c n l true HL1 hn hl2 hg).mono ?_); rintro e w2 ⟨rfl, HB2⟩)))
  go_ret
  exact ⟨rfl, (bel_trans HB0 (bel_trans HB1 HB2)).out⟩
set_option maxHeartbeats 4000000 in
set_option maxRecDepth 100000 in
theorem plays_bad (w : World) (b r h lo : Int) (A : Option Addr) (c n : Nat) (l : List OpV) (hl : Hid (OpsV w w.heap.size A l)) (hn : Hid (l.length = n)) (hl2 : n ≤ maxLen) (hg : Hid (greatO l = false)) (hs : ¬ okI b r h lo) :
    Calls Try.prog 3 #[.agg #[.int .i64 b, .int .i64 r, .int .i64 h, .int .i64 lo], .slice A n c] w fun e w' => e = .returned (.bool true) ∧ Hid (Below w.heap.size w w') := by
  have HB0 : Hid (Below w.heap.size w (w.alloc (.cells #[.int .i64 b, .int .i64 r, .int .i64 h, .int .i64 lo] 23))) := (Below.refl _ _).alloc (Nat.le_refl _) _
  have HX0 : Hid (Box (w.alloc (.cells #[.int .i64 b, .int .i64 r, .int .i64 h, .int .i64 lo] 23)) w.heap.size 23 #[.int .i64 b, .int .i64 r, .int .i64 h, .int .i64 lo]) := Box.new _ _ _
  have HL0 := ops_at hl HB0
  go_enter Try.func3, Try.ntmps3
  go_wp2_with (first
    | (go_at_call 7
       ((with_reducible refine (alive_any _).mono ?_); rintro e w1 ⟨rfl, HB1⟩)
       have HL1 : Hid (OpsV w1 w1.heap.size A l) := ops_at HL0 HB1
       have hx1 := hid (box_below HX0.out HB1.out))
    | (go_at_call 8
       ((with_reducible refine (great_any _ A c n l false HL1 hn hl2 hg).mono ?_); rintro e w2 ⟨rfl, HB2⟩)
       have hx2 := box_below hx1.out HB2.out
       have c0 := hx2.cell 0
       have c1 := hx2.cell 1
       have c2 := hx2.cell 2
       have c3 := hx2.cell 3
       skip)
    | (go_at_call 9
       ((with_reducible refine (made_bad _ b r h lo hs).mono ?_); rintro e w3 ⟨rfl, HB3⟩)
       have hx3 := box_below hx2 HB3.out
       have c30 := hx3.cell 0
       have c31 := hx3.cell 1
       have c32 := hx3.cell 2
       have c33 := hx3.cell 3)
    | (go_at_call 10
       ((with_reducible refine (rnew_bad _ b r h lo hs).mono ?_); rintro e w4 ⟨rfl, rfl⟩)))
  go_ret
  exact ⟨rfl, (bel_trans HB0 (bel_trans HB1 (bel_trans HB2 HB3))).out⟩

/-- The queue and the document's. -/
structure QP (w2 w : World) (S : Nat → Prop) (C : Cf) (g : Nat) (rb : Option Nat) (gm : Nat) (rm : Option Nat) (L : List (List UInt8)) (ov : Bool) (L2 : List (List UInt8)) (ov2 : Bool) : Prop where
  qu : Qu w S C g rb L ov
  rq : Rq w S C gm rm L2 ov2
  d : ∀ x, rb = some x → rm ≠ some x
  l0 : w2.heap.size ≤ g ∧ w2.heap.size ≤ gm
  l1 : ∀ x, (rb = some x ∨ rm = some x) → w2.heap.size ≤ x
  bel : Below w2.heap.size w2 w
section
variable {w2 w w' : World} {S S' : Nat → Prop} {C : Cf} {g gm : Nat} {rb rm : Option Nat} {L L2 L' L2' : List (List UInt8)} {ov ov2 ov' ov2' : Bool} {K : List Nat}
theorem QP.keep (h : QP w2 w S C g rb gm rm L ov L2 ov2) (k : Below w.heap.size w w') : QP w2 w' S C g rb gm rm L ov L2 ov2 :=
  have kb := But.of_below k []
  ⟨h.qu.keep0 kb, h.rq.keep0 kb, h.d, h.l0, h.l1, h.bel.trans (k.mono h.bel.size)⟩
theorem QP.mono (h : QP w2 w S C g rb gm rm L ov L2 ov2) (hS : ∀ x, x < w.heap.size → S x → S' x) : QP w2 w S' C g rb gm rm L ov L2 ov2 :=
  ⟨h.qu.mono hS, h.rq.mono hS, h.d, h.l0, h.l1, h.bel⟩
/-- Rows of bytes that are none of theirs turn. -/
theorem QP.turn (h : QP w2 w S C g rb gm rm L ov L2 ov2) (k : But K w w') (hK : ∀ y ∈ K, (∃ base v n xs, w.ownsRow base 5 1 v n xs ∧ v.ownBlock = some y) ∧ ¬ S y ∧ w2.heap.size ≤ y) : QP w2 w' S C g rb gm rm L ov L2 ov2 := by
  have hb : ∀ {y t cs}, Box w y t cs → t ≠ 5 → y ∉ K := fun hx ht hm => by
    obtain ⟨⟨base, v, n, xs, ho, he⟩, _⟩ := hK _ hm
    exact own_ne ho hx (Ne.symm ht) he
  have hS : ∀ x, x < w.heap.size → S x → x ∉ K := fun x _ hx hm => (hK x hm).2.1 hx
  obtain ⟨A, c, h1, h2⟩ := h.qu.body
  obtain ⟨A', c', h1', h2'⟩ := h.rq.body
  refine ⟨h.qu.keep k (hb h1 (by decide)) (fun x hx => ?_) hS, h.rq.keep k (hb h1' (by decide)) (fun x hx => ?_) hS, h.d, h.l0, h.l1, h.bel.trans (k.below h.bel.size (fun y hy => (hK y hy).2.2))⟩
  · obtain ⟨cs, hx'⟩ := h2.box x hx
    exact hb hx' (by decide)
  · obtain ⟨cs, hx'⟩ := h2'.box x hx
    exact hb hx' (by decide)
theorem QP.step1 (h : QP w2 w S C g rb gm rm L ov L2 ov2) (hq : ∃ rb', Qu w' S C g rb' L' ov' ∧ ∀ x, rb' = some x → rb = some x ∨ w.heap.size ≤ x) (k : But (g :: rb.toList) w w') : ∃ rb', QP w2 w' S C g rb' gm rm L' ov' L2 ov2 := by
  obtain ⟨rb', hq, hx⟩ := hq
  obtain ⟨A, c, h1, h2⟩ := h.qu.body
  obtain ⟨A', c', h1', h2'⟩ := h.rq.body
  have hz := h.bel.size
  refine ⟨rb', hq, h.rq.other k (fun hm => ?_) (fun x hx' hm => ?_) h.qu.types, fun x hxx e => ?_, h.l0, fun x hxx => ?_, ?_⟩
  · rcases List.mem_cons.1 hm with e | e
    · subst e
      exact box_ne h1 h1' (by decide) rfl
    · obtain ⟨cs, hb⟩ := h2.box gm (by simpa using e)
      exact box_ne h1' hb (by decide) rfl
  · obtain ⟨cs, hb⟩ := h2'.box x hx'
    rcases List.mem_cons.1 hm with e | e
    · subst e
      exact box_ne h1 hb (by decide) rfl
    · exact h.d x (by simpa using e) hx'
  · rcases hx x hxx with e2 | e2
    · exact h.d x e2 e
    · have := h.rq.lt.2 x e
      omega
  · rcases hxx with e | e
    · rcases hx x e with e | e
      · exact h.l1 x (.inl e)
      · omega
    · exact h.l1 x (.inr e)
  · refine h.bel.trans (k.below hz (fun x hm => ?_))
    rcases List.mem_cons.1 hm with rfl | hm
    · exact h.l0.1
    · exact h.l1 x (.inl (by simpa using hm))
theorem QP.step2 (h : QP w2 w S C g rb gm rm L ov L2 ov2) (hq : ∃ rm', Rq w' S C gm rm' L2' ov2' ∧ ∀ x, rm' = some x → rm = some x ∨ w.heap.size ≤ x) (k : But (gm :: rm.toList) w w') : ∃ rm', QP w2 w' S C g rb gm rm' L ov L2' ov2' := by
  obtain ⟨rm', hq, hx⟩ := hq
  obtain ⟨A, c, h1, h2⟩ := h.qu.body
  obtain ⟨A', c', h1', h2'⟩ := h.rq.body
  have hz := h.bel.size
  refine ⟨rm', h.qu.other k (fun hm => ?_) (fun x hx' hm => ?_) h.rq.types, hq, fun x hxx e => ?_, h.l0, fun x hxx => ?_, ?_⟩
  · rcases List.mem_cons.1 hm with e | e
    · subst e
      exact box_ne h1 h1' (by decide) rfl
    · obtain ⟨cs, hb⟩ := h2'.box g (by simpa using e)
      exact box_ne h1 hb (by decide) rfl
  · obtain ⟨cs, hb⟩ := h2.box x hx'
    rcases List.mem_cons.1 hm with e | e
    · subst e
      exact box_ne h1' hb (by decide) rfl
    · exact h.d x hx' (by simpa using e)
  · rcases hx x e with e2 | e2
    · exact h.d x hxx e2
    · have := h.qu.lt.2 x hxx
      omega
  · rcases hxx with e | e
    · exact h.l1 x (.inl e)
    · rcases hx x e with e | e
      · exact h.l1 x (.inr e)
      · omega
  · refine h.bel.trans (k.below hz (fun x hm => ?_))
    rcases List.mem_cons.1 hm with rfl | hm
    · exact h.l0.2
    · exact h.l1 x (.inr (by simpa using hm))
end
/-- Nothing that is neither a queue, nor a row of slices, has turned. -/
def Keep7 (w w' : World) : Prop := ∃ K : List Nat, But K w w' ∧ ∀ y ∈ K, ∃ t cs, t ∈ [57, 45, 34] ∧ Box w y t cs
theorem Keep7.own {w w' : World} (h : Keep7 w w') {base : Nat} {v : Value} {n : Nat} {xs : List Value} (ho : w.ownsRow base 5 1 v n xs) : w'.ownsRow base 5 1 v n xs := by
  obtain ⟨K, k, hK⟩ := h
  refine k.own ho (fun x hx hm => ?_)
  obtain ⟨t, cs, ht, hb⟩ := hK x hm
  refine own_ne ho hb (fun e => ?_) hx
  subst e
  simp at ht
theorem Keep7.box {w w' : World} (h : Keep7 w w') {g : Nat} {cs : Array Value} (hb : Box w g 36 cs) : Box w' g 36 cs := by
  obtain ⟨K, k, hK⟩ := h
  refine k.box hb (fun hm => ?_)
  obtain ⟨t, cs', ht, hb'⟩ := hK g hm
  refine box_ne hb hb' (fun e => ?_) rfl
  subst e
  simp at ht
/-- The state of QueuePlays. -/
def Pl (w2 w : World) (S : Nat → Prop) (C : Cf) (g gm : Nat) (L : List (List UInt8)) (ov : Bool) (L2 : List (List UInt8)) (ov2 : Bool) : Prop := ∃ rb rm, QP w2 w S C g rb gm rm L ov L2 ov2
section
variable (w : World) {w2 : World} {S : Nat → Prop} {C : Cf} {g gm : Nat} {L L2 L' : List (List UInt8)} {ov ov2 ok ov' : Bool} {b out : List UInt8} {A : Option Addr} {c l bl : Nat}
theorem pl_do (k : Int) (h : Hid (Pl w2 w S C g gm L ov L2 ov2)) (hS : Hid (k = 1 → ∀ x, w.heap.size ≤ x → S x)) (hb : Hid (SlB w w.heap.size A c b)) (hbl : Hid (b.length = bl)) (hp : Hid (doF C k b L ov = (out, ok, L', ov'))) (hl : Hid (out.length = l)) :
    Calls Try.prog 11 #[.pointer (some ⟨g, 0, none⟩), .agg #[.int .i64 k, .slice A bl c]] w fun e w' => ∃ A' c', e = .returned (.tuple #[.slice A' l c', .bool ok]) ∧ Hid (w'.ownsRow w.heap.size 5 1 (.slice A' l c') l (bv out)) ∧ Hid (Pl w2 w' S C g gm L' ov' L2 ov2) ∧ Hid (Keep7 w w') := by
  obtain ⟨rb, rm, f⟩ := h.out
  refine (do_any w k (hid f.qu) hb hbl hS hp hl).mono ?_
  rintro e w' ⟨A', c', rfl, hd⟩
  obtain ⟨rb', f'⟩ := f.step1 hd.out.qu hd.out.but
  refine ⟨A', c', rfl, hd.out.own, ⟨rb', rm, f'⟩, _, hd.out.but, fun y hy => ?_⟩
  obtain ⟨A0, c0, h1, h2⟩ := f.qu.body
  rcases List.mem_cons.1 hy with rfl | hy
  · exact ⟨57, _, by simp, h1⟩
  · obtain ⟨cs, hb⟩ := h2.box y (by simpa using hy)
    exact ⟨34, cs, by simp, hb⟩
theorem pl_rdo (k : Int) (h : Hid (Pl w2 w S C g gm L2 ov2 L ov)) (hS : Hid (k = 1 → ∀ x, w.heap.size ≤ x → S x)) (hb : Hid (SlB w w.heap.size A c b)) (hbl : Hid (b.length = bl)) (hp : Hid (doF C k b L ov = (out, ok, L', ov'))) (hl : Hid (out.length = l)) :
    Calls Try.prog 12 #[.pointer (some ⟨gm, 0, none⟩), .agg #[.int .i64 k, .slice A bl c]] w fun e w' => ∃ A' c', e = .returned (.tuple #[.slice A' l c', .bool ok]) ∧ Hid (w'.ownsRow 0 5 1 (.slice A' l c') l (bv out)) ∧ Hid (Pl w2 w' S C g gm L2 ov2 L' ov') ∧ Hid (Keep7 w w') := by
  obtain ⟨rb, rm, f⟩ := h.out
  refine (rdo_any w k (hid f.rq) hb hbl hS hp hl).mono ?_
  rintro e w' ⟨A', c', rfl, hd⟩
  obtain ⟨rm', f'⟩ := f.step2 hd.out.qu hd.out.but
  refine ⟨A', c', rfl, hd.out.own, ⟨rb, rm', f'⟩, _, hd.out.but, fun y hy => ?_⟩
  obtain ⟨A0, c0, h1, h2⟩ := f.rq.body
  rcases List.mem_cons.1 hy with rfl | hy
  · exact ⟨45, _, by simp, h1⟩
  · obtain ⟨cs, hb⟩ := h2.box y (by simpa using hy)
    exact ⟨34, cs, by simp, hb⟩
end
/-- A row that is turned byte by byte. -/
structure Mr (w0 w : World) (A : Option Addr) (n c : Nat) : Prop where
  but : But (if n = 0 then [] else (Value.slice A n c).ownBlock.toList) w0 w
  row : 0 < n → ∃ g cur, A = some ⟨g, 0, none⟩ ∧ Box w g 5 cur ∧ ∀ j, j < n → ∃ z : Int, cur[j]? = some (.int .u8 z)
theorem Mr.start {w : World} {base n c : Nat} {A : Option Addr} {xs : List UInt8} (hn : xs.length = n) (h : w.ownsRow base 5 1 (.slice A n c) n (bv xs)) : Mr w w A n c := ⟨But.refl _ _, (Mt.start hn h).row⟩
theorem Mr.store {w0 w : World} {n c g : Nat} {cur : Array Value} (m : Mr w0 w (some ⟨g, 0, none⟩) n c) (hx : Box w g 5 cur) (hc : ∀ j, j < n → ∃ z : Int, cur[j]? = some (.int .u8 z)) (k : Nat) (hk : k < n) (z : Int) : Mr w0 (w.setCell ⟨g, k, none⟩ (.int .u8 z)) (some ⟨g, 0, none⟩) n c := by
  refine ⟨m.but.store (.inl ?_) _, fun _ => ⟨g, _, rfl, hx.store k _, fun j hj => ?_⟩⟩
  · rw [if_neg (by omega)]
    simp [Value.ownBlock]
  · obtain ⟨y, hy⟩ := hc j hj
    by_cases hkj : k = j
    · subst hkj
      have hlt := (Array.getElem?_eq_some_iff.1 hy).1
      exact ⟨z, by simp [Array.getElem?_setIfInBounds, hlt]⟩
    · exact ⟨y, by rw [Array.getElem?_setIfInBounds, if_neg hkj]; exact hy⟩
theorem own_slb' {w : World} {base n c : Nat} {A : Option Addr} {bs : List UInt8} (hn : bs.length = n) (h : w.ownsRow base 5 1 (.slice A n c) n (bv bs)) : SlB w w.heap.size A c bs := by
  subst hn
  exact own_slb (base := base) (_n := 0) h
theorem do_out1 {C : Cf} {k : Int} {b out : List UInt8} {L L' : List (List UInt8)} {ov ok ov' : Bool} (hp : doF C k b L ov = (out, ok, L', ov')) (hk : k = 1) : out = [] := by
  unfold doF at hp
  rw [if_pos hk] at hp
  simp only [Prod.mk.injEq] at hp
  exact hp.1.symm
theorem do_len' {C : Cf} {k : Int} {b out : List UInt8} {L L' : List (List UInt8)} {ov ok ov' : Bool} (hs : sumB L ≤ C.b) (hp : doF C k b L ov = (out, ok, L', ov')) : out.length ≤ C.b := by
  have hf : ∀ L : List (List UInt8), sumB L ≤ C.b → (frontF L).1.length ≤ C.b := fun L h => by
    cases L with
    | nil => simp [frontF]
    | cons x r => rw [sumB] at h; simp only [frontF]; omega
  unfold doF at hp
  split at hp
  · simp only [Prod.mk.injEq] at hp
    obtain ⟨rfl, _⟩ := hp
    simp
  · split at hp
    · unfold popF at hp
      split at hp
      · simp only [Prod.mk.injEq] at hp
        obtain ⟨rfl, _⟩ := hp
        simp
      · simp only [Prod.mk.injEq] at hp
        obtain ⟨rfl, _⟩ := hp
        rw [sumB] at hs
        omega
    · split at hp
      · simp only [Prod.mk.injEq] at hp
        obtain ⟨rfl, _⟩ := hp
        exact hf L hs
      · simp only [Prod.mk.injEq] at hp
        obtain ⟨rfl, _⟩ := hp
        simp
end Go.Proofs.Ytibkbcffoabhfaa
