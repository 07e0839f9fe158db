import Derived.Test.YtdcohhfbifiemaaLB
namespace Go.Proofs.Ytdcohhfbifiemaa
open Go.RowKit Go.Maps

theorem Try.info43 : (Try.prog.info? 43).map (fun i => (i.zero, i.size, i.bytes)) = some (some (.agg #[.int .i64 0, .int .i64 0]), 2, 16) := by kernel_rfl
def mv (S : List Tm) : List Value := S.flatMap tv
theorem mv_snoc (S : List Tm) (x : Tm) : mv (S ++ [x]) = mv S ++ [.int .i64 x.1, .int .i64 x.2] := by simp [mv, tv]
theorem mv_app (S R : List Tm) : mv (S ++ R) = mv S ++ mv R := by simp [mv]
theorem mv_len (S : List Tm) : (mv S).length = S.length * 2 := by
  induction S with
  | nil => rfl
  | cons x r ih => simp only [mv, List.flatMap_cons, List.length_append] at ih ⊢; rw [ih]; simp [tv]; omega
theorem mv_one (S : List Tm) : ∀ u ∈ mv S, u.oneCell' = true := by
  intro u hu
  simp only [mv, List.mem_flatMap] at hu
  obtain ⟨x, _, hx⟩ := hu
  simp [tv] at hx
  rcases hx with rfl | rfl <;> rfl
theorem mv_at (S : List Tm) : ∀ (k : Nat) (x : Tm), S[k]? = some x → (mv S)[k * 2]? = some (.int .i64 x.1) ∧ (mv S)[k * 2 + 1]? = some (.int .i64 x.2) := by
  induction S with
  | nil => intro k x h; simp at h
  | cons y r ih =>
    intro k x h
    have e : mv (y :: r) = [.int .i64 y.1, .int .i64 y.2] ++ mv r := by simp [mv, tv]
    rw [e]
    cases k with
    | zero => simp at h; subst h; exact ⟨rfl, rfl⟩
    | succ k =>
      have := ih k x (by simpa using h)
      refine ⟨?_, ?_⟩
      · rw [List.getElem?_append_right (by simp; omega)]
        simp only [List.length_cons, List.length_nil]
        rw [show (k + 1) * 2 - (0 + 1 + 1) = k * 2 by omega]
        exact this.1
      · rw [List.getElem?_append_right (by simp; omega)]
        simp only [List.length_cons, List.length_nil]
        rw [show (k + 1) * 2 + 1 - (0 + 1 + 1) = k * 2 + 1 by omega]
        exact this.2
/-- A row of the document's timers, from some place on. -/
structure Ro (w : World) (A : Option Addr) (n c : Nat) (S : List Tm) : Prop where
  len : S.length = n
  le : n ≤ c
  max : c ≤ maxLen
  row : S ≠ [] → ∃ b o, A = some ⟨b, o, none⟩ ∧ (∃ cur, Box w b 43 cur) ∧ ∀ j x, S[j]? = some x → w.cell? ⟨b, o + j * 2, none⟩ = some (.int .i64 x.1) ∧ w.cell? ⟨b, o + j * 2 + 1, none⟩ = some (.int .i64 x.2)
section
variable {w w' : World} {A : Option Addr} {n c : Nat} {S : List Tm} {K : List Nat}
theorem Ro.keep (h : Ro w A n c S) (k : But K w w') (hK : ∀ x ∈ K, ∀ cs, ¬ Box w x 43 cs) : Ro w' A n c S := by
  refine ⟨h.len, h.le, h.max, fun hn => ?_⟩
  obtain ⟨b, o, e, ⟨cur, hb⟩, hc⟩ := h.row hn
  have hbK : b ∉ K := fun hx => hK b hx cur hb
  refine ⟨b, o, e, ⟨cur, k.box hb hbK⟩, fun j x hx => ?_⟩
  obtain ⟨h1, h2⟩ := hc j x hx
  exact ⟨(k.cell (p := ⟨b, _, none⟩) hb.lt hbK).trans h1, (k.cell (p := ⟨b, _, none⟩) hb.lt hbK).trans h2⟩
theorem Ro.keep0 (h : Ro w A n c S) (k : But [] w w') : Ro w' A n c S := h.keep k (by simp)
theorem Ro.of_own {base : Nat} (h : w.ownsRow base 43 2 (.slice A n c) n (mv S)) : Ro w A n c S := by
  have hl := h.1
  rw [mv_len] at hl
  have hc : n ≤ c ∧ c ≤ maxLen := by
    rcases h.2 with ⟨hv, h0⟩ | ⟨g, cap, cur, hv, _, _, h1, h2, _⟩
    · injection hv with _ _ hc
      subst hc; subst h0
      exact ⟨Nat.le_refl _, Nat.zero_le _⟩
    · injection hv with _ _ hc
      subst hc
      exact ⟨h1, h2⟩
  refine ⟨by omega, hc.1, hc.2, fun hn => ?_⟩
  have hne : mv S ≠ [] := fun e => by
    have := mv_len S
    rw [e] at this
    simp at this
    exact hn (List.eq_nil_of_length_eq_zero (by omega))
  obtain ⟨b, o, e, _, hcell⟩ := Lies.own h hne
  subst e
  obtain ⟨_, cs, hb⟩ := own_box h b rfl
  exact ⟨b, o, rfl, ⟨cs, hb⟩, fun j x hx => by
    obtain ⟨h1, h2⟩ := mv_at S j x hx
    exact ⟨hcell _ _ h1, hcell _ _ h2⟩⟩
theorem Ro.lies (h : Ro w A n c S) : Lies w w.heap.size A (mv S) := by
  intro hne
  have hn : S ≠ [] := fun e => hne (by rw [e]; rfl)
  obtain ⟨b, o, e, ⟨cur, hb⟩, hc⟩ := h.row hn
  refine ⟨b, o, e, hb.lt, fun j u hu => ?_⟩
  obtain ⟨hj, _⟩ := List.getElem?_eq_some_iff.1 hu
  rw [mv_len] at hj
  have hg : S[j / 2]? = some (S[j / 2]'(by omega)) := List.getElem?_eq_getElem _
  obtain ⟨m1, m2⟩ := mv_at S _ _ hg
  obtain ⟨h1, h2⟩ := hc _ _ hg
  rcases Nat.mod_two_eq_zero_or_one j with hm | hm
  · have e2 : j / 2 * 2 = j := by omega
    rw [e2] at m1 h1
    rw [m1] at hu
    injection hu with hu
    rw [← hu]
    exact h1
  · have e2 : j / 2 * 2 + 1 = j := by omega
    rw [e2] at m2
    rw [m2] at hu
    injection hu with hu
    rw [← hu]
    rw [Nat.add_assoc, e2] at h2
    exact h2
theorem Ro.nil (w : World) : Ro w none 0 0 [] := ⟨rfl, Nat.le_refl _, Nat.zero_le _, fun h => absurd rfl h⟩
theorem Ro.at (h : Ro w A n c S) {j : Nat} {x : Tm} (hx : S[j]? = some x) : ∃ b o, A = some ⟨b, o, none⟩ ∧ w.cell? ⟨b, o + j * 2, none⟩ = some (.int .i64 x.1) ∧ w.cell? ⟨b, o + j * 2 + 1, none⟩ = some (.int .i64 x.2) := by
  obtain ⟨b, o, e, _, hc⟩ := h.row (by intro e; rw [e] at hx; simp at hx)
  exact ⟨b, o, e, hc j x hx⟩
theorem Ro.take (h : Ro w A n c S) (k : Nat) (hk : k ≤ n) : Ro w A k c (S.take k) := by
  refine ⟨by rw [List.length_take, h.len]; omega, Nat.le_trans hk h.le, h.max, fun hn => ?_⟩
  have hS : S ≠ [] := fun e => hn (by rw [e]; simp)
  obtain ⟨b, o, e, hb, hc⟩ := h.row hS
  refine ⟨b, o, e, hb, fun j x hx => hc j x ?_⟩
  rw [List.getElem?_take] at hx
  split at hx
  · exact hx
  · cases hx
theorem Ro.drop {a : Addr} (h : Ro w (some a) n c S) (k : Nat) (hk : k ≤ n) : Ro w (some (if c = k then a else a.add (k * 2))) (n - k) (c - k) (S.drop k) := by
  have hl := h.len
  have hle := h.le
  have hmx := h.max
  refine ⟨by rw [List.length_drop, hl], by omega, by omega, fun hn => ?_⟩
  have hS : S ≠ [] := fun e => hn (by rw [e]; simp)
  have hkn : k < n := by
    rcases Nat.lt_or_ge k n with h1 | h1
    · exact h1
    · exact absurd (List.drop_of_length_le (by omega)) hn
  obtain ⟨b, o, e, hb, hc⟩ := h.row hS
  injection e with e
  subst e
  rw [if_neg (by omega), Addr.add_lit]
  refine ⟨b, o + k * 2, rfl, hb, fun j x hx => ?_⟩
  rw [List.getElem?_drop] at hx
  have := hc (k + j) x hx
  rw [show o + k * 2 + j * 2 = o + (k + j) * 2 by omega]
  exact this
end
/-- The document's timers: their block, their row. -/
def Md (w : World) (G : Nat) (S : List Tm) : Prop := ∃ A c, Box w G 29 #[.slice A S.length c] ∧ Ro w A S.length c S
theorem Md.keep {w w' : World} {G : Nat} {S : List Tm} {K : List Nat} (h : Md w G S) (k : But K w w') (hK : ∀ x ∈ K, ∀ t cs, Box w x t cs → t ≠ 29 ∧ t ≠ 43) : Md w' G S := by
  obtain ⟨A, c, hb, hr⟩ := h
  exact ⟨A, c, k.box hb (fun hx => (hK G hx _ _ hb).1 rfl), hr.keep k (fun x hx cs hb => (hK x hx _ _ hb).2 rfl)⟩
theorem Md.keep0 {w w' : World} {G : Nat} {S : List Tm} (h : Md w G S) (k : But [] w w') : Md w' G S := h.keep k (by simp)
theorem Md.fr {w w' : World} {X : List Nat} {G : Nat} {S : List Tm} (h : Md w G S) (f : Fr X w w') : Md w' G S := by
  obtain ⟨K, k, _, ht⟩ := f
  refine h.keep k (fun x hx t cs hb => ?_)
  rcases ht x hx t cs hb with e | e <;> subst e <;> exact ⟨by decide, by decide⟩
theorem rem_snoc (id : Int) (S : List Tm) (x : Tm) : rem id (S ++ [x]) = if x.1 = id then rem id S else rem id S ++ [x] := by
  unfold rem
  rw [List.filter_append]
  by_cases e : x.1 = id
  · rw [if_pos e]; simp [e]
  · rw [if_neg e]; simp [e]
theorem app_bel2 {w wr w' : World} {e : TypeId} {s n c : Nat} {A : Option Addr} {xs : List Value} (hbw : Below w.heap.size w wr) (hro : wr.ownsRow w.heap.size e s (.slice A n c) n xs) (hg : wr.grownBy w' (Value.slice A n c).ownBlock) : Below w.heap.size w w' :=
  hbw.trans (((Kept.refl w.heap.size [e] wr).grown hg (fun k hk => by obtain ⟨a, cs, b⟩ := own_box hro k hk; exact ⟨a, e, cs, by simp, b⟩)).below hbw.size)
/-- What cut hands back. -/
def CutR (w : World) (id : Int) (S : List Tm) (e : Ending) (w' : World) : Prop :=
  ∃ A n c, e = .returned (.tuple #[.slice A n c, .bool (has id S)]) ∧ Hid (w'.ownsRow w.heap.size 43 2 (.slice A n c) n (mv (rem id S))) ∧ Hid (Below w.heap.size w w')
theorem cut_has (id : Int) (S : List Tm) : decide ((rem id S).length < S.length) = has id S := by
  rw [Bool.eq_iff_iff, decide_eq_true_iff]
  unfold rem has
  rw [List.length_filter_lt_length_iff_exists, List.any_eq_true]
  simp
section
variable (w : World)
set_option maxHeartbeats 4000000 in
set_option maxRecDepth 100000 in
theorem cut_any {A : Option Addr} {n c : Nat} {S : List Tm} {id : Int} (h : Hid (Ro w A n c S)) (hn : n ≤ 1000) : Calls Try.prog 21 #[.slice A n c, .int .i64 id] w (CutR w id S) := by
  obtain ⟨i0, hi0, hz0, hz1, hz2⟩ := info_parts Try.info43
  have hl := h.out.len
  go_enter Try.func21, Try.ntmps21
  go_wp2
  go_loopw [11, 6] (fun v v2 wr => ∃ (j m c2 : Nat) (A2 : Option Addr), v = .int .i64 j ∧ v2 = .slice A2 m c2 ∧ j ≤ n ∧ m ≤ j ∧ Hid (wr.ownsRow w.heap.size 43 2 (.slice A2 m c2) m (mv (rem id (S.take j)))) ∧ Hid (Below w.heap.size w wr)) (fun v _ _ => n - (intOf v).toNat)
  case atStart => exact ⟨0, 0, 0, none, rfl, rfl, Nat.zero_le _, Nat.le_refl _, World.ownsRow_nil _ _ _ _, Below.refl _ _⟩
  case round =>
    obtain ⟨j, m, c2, A2, rfl, rfl, hj, hmj, HO, HB⟩ := hrel
    by_cases hjn : j < n
    · obtain ⟨x, hx⟩ : ∃ x, S[j]? = some x := ⟨_, List.getElem?_eq_getElem (by omega)⟩
      obtain ⟨b, o, rfl, q0, q1⟩ := (h.out.keep0 (But.of_below HB.out [])).at hx
      have hi1 : 0 ≤ (j : Int) ∧ (j : Int) < n := by omega
      have HTK : Hid (S.take (j + 1) = S.take j ++ [x]) := hid (by
        obtain ⟨hlt, he⟩ := List.getElem?_eq_some_iff.1 hx
        rw [take_snoc S j hlt, he])
      obtain ⟨x1, x2⟩ := x
      simp only at q0 q1
      clear hx
      by_cases hxe : x1 = id
      · subst hxe
        have t1 : (x1 != x1) = false := by simp
        have HO2 : Hid ((wr.alloc (.cells #[.int .i64 x1, .int .i64 x2] 43)).ownsRow w.heap.size 43 2 (.slice A2 m c2) m (mv (rem x1 (S.take (j + 1))))) := hid (by
          rw [HTK.out, rem_snoc, if_pos rfl]
          exact ((But.refl [] wr).alloc _).own HO.out (by simp))
        have HB2 := hid (HB.out.alloc HB.out.size (.cells #[.int .i64 x1, .int .i64 x2] 43))
        go_wp2
        go_roundw
        case rel => exact ⟨j + 1, m, c2, A2, by go_num, rfl, by omega, by omega, HO2, HB2⟩
        case measure => simp [intOf]; omega
      · have t1 : (x1 != id) = true := by simpa using hxe
        have HO2 : Hid (((wr.alloc (.cells #[.int .i64 x1, .int .i64 x2] 43)).alloc (.cells #[.int .i64 x1, .int .i64 x2] 43)).ownsRow w.heap.size 43 2 (.slice A2 m c2) m (mv (rem id (S.take j)))) := hid ((((But.refl [] wr).alloc _).alloc _).own HO.out (by simp))
        have HB2 : Hid (Below w.heap.size w ((wr.alloc (.cells #[.int .i64 x1, .int .i64 x2] 43)).alloc (.cells #[.int .i64 x1, .int .i64 x2] 43))) := hid ((HB.out.alloc HB.out.size _).alloc (Nat.le_trans HB.out.size (by simp)) _)
        have HLL : Hid (Lies ((wr.alloc (.cells #[.int .i64 x1, .int .i64 x2] 43)).alloc (.cells #[.int .i64 x1, .int .i64 x2] 43)) (wr.heap.size + 1 + 1) (some ⟨wr.heap.size + 1, 0, none⟩) [.int .i64 x1, .int .i64 x2]) := hid (by have := lies_lit (wr.alloc (.cells #[.int .i64 x1, .int .i64 x2] 43)) #[.int .i64 x1, .int .i64 x2] 43; simpa using this)
        have HTK2 : Hid (mv (rem id (S.take (j + 1))) = mv (rem id (S.take j)) ++ [.int .i64 x1, .int .i64 x2]) := hid (by rw [HTK.out, rem_snoc, if_neg hxe, mv_snoc])
        go_wp2_with (first
          | (at_builtin
             (refine wpList_app _ rfl (.tmp 19) (.tmp 21) 27 rfl w.heap.size 43 i0 _ 2 16 Try.underlying27 hi0 hz0 hz1 hz2 rfl (by decide) A2 m c2 _ rfl HO2.out (wr.heap.size + 1 + 1) (some ⟨wr.heap.size + 1, 0, none⟩) 1 1 [.int .i64 x1, .int .i64 x2] rfl rfl HLL.out (by simp [Value.oneCell']) (by unfold maxLen; omega) (by omega) HB2.out.size ?_
              intro A4 c4 w4 ho4 hg4
              rw [← HTK2.out] at ho4
              have HO4 := hid ho4
              have HB4 := hid (app_bel2 HB2.out HO2.out hg4)
              clear ho4 hg4)))
        go_roundw
        case rel => exact ⟨j + 1, m + 1, c4, A4, by go_num, rfl, by omega, by omega, HO4, HB4⟩
        case measure => simp [intOf]; omega
    · have e : S.take j = S := List.take_of_length_le (by omega)
      have ho := HO.out
      rw [e] at ho
      have HO2 := hid ho
      have hml : (rem id S).length = m := by
        have := ho.1
        rw [mv_len] at this
        omega
      have hh := cut_has id S
      rw [hml, hl] at hh
      go_wp2
      go_ret2
      exact ⟨A2, m, c2, by rw [← hh]; simp, HO2, HB⟩
end
end Go.Proofs.Ytdcohhfbifiemaa
