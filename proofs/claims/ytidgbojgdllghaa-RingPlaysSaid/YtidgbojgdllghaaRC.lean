import Derived.Test.YtidgbojgdllghaaRB
namespace Go.Proofs.Ytidgbojgdllghaa
open Go.RowKit

/-- A ring's cells behind a Write. -/
theorem RgS.wrote {w : World} {g h size front : Nat} {cur : List Value} {q : List UInt8} (r : RgS w g h size front cur q) (b : List UInt8) (n a back : Nat) (hn : n ≤ b.length) (hf : q.length + n ≤ size) (hb : (front + q.length) % size = back) (ha : a = min n (size - back)) :
    ∀ i (hi : i < (q ++ b.take n).length), (splice (splice cur back (bv (b.take a))) 0 (bv ((b.take n).drop a)))[(front + i) % size]? = some (.int .u8 ((q ++ b.take n)[i].toNat : Int)) := by
  have h1 := r.fr
  have h2 := r.fit
  have hl := r.len
  have hbs : back < size := by rw [← hb]; exact Nat.mod_lt _ r.pos
  rw [mod_once (by omega)] at hb
  intro i hi
  have hi2 : i < q.length + n := by simpa [Nat.min_eq_left hn] using hi
  have la : (bv (b.take a)).length = a := by simp [bv_length]; omega
  have lb : (bv ((b.take n).drop a)).length = n - a := by simp [bv_length, Nat.min_eq_left hn]
  rw [splice_get _ _ _ (by rw [length_splice _ _ _ (by omega)]; omega), splice_get _ _ _ (by omega), la, lb]
  rw [mod_once (by omega)]
  by_cases hq : i < q.length
  · have h3 := r.all i hq
    rw [mod_once (by omega)] at h3
    rw [List.getElem_append_left hq, ← h3]
    split
    · split at hb
      · rw [if_neg (by omega), if_neg (by omega)]
      · rw [if_neg (by omega), if_neg (by omega)]
    · split at hb
      · rw [if_neg (by omega), if_neg (by omega)]
      · rw [if_neg (by omega), if_neg (by omega)]
  · have e : (q ++ b.take n)[i] = b[i - q.length]'(by omega) := by
      rw [List.getElem_append_right (by omega), List.getElem_take]
    rw [e]
    have key : ∀ k (hk : k < b.length), k = i - q.length → (bv b)[k]? = some (.int .u8 (b[i - q.length]'(by omega)).toNat) := by
      intro k hk e
      subst e
      simp [bv, List.getElem?_map, List.getElem?_eq_getElem hk]
    have e1 : ∀ k, k < a → (bv (b.take a))[k]? = (bv b)[k]? := fun k hk => by simp [bv, List.getElem?_map, List.getElem?_take, hk]
    have e2 : ∀ k, a + k < n → (bv ((b.take n).drop a))[k]? = (bv b)[a + k]? := fun k hk => by simp [bv, List.getElem?_map, List.getElem?_drop, List.getElem?_take, hk]
    by_cases hw : i - q.length < a
    · -- before the end
      have hp : (if front + i < size then front + i else front + i - size) = back + (i - q.length) := by
        split at hb <;> split <;> omega
      rw [hp, if_neg (by omega), if_pos (by omega), e1 _ (by omega)]
      exact key _ (by omega) (by omega)
    · have hp : (if front + i < size then front + i else front + i - size) = i - q.length - a := by
        split at hb <;> split <;> omega
      rw [hp, if_pos (by omega), e2 _ (by omega)]
      exact key _ (by omega) (by omega)
theorem but_setRow (w : World) (g : Nat) (cs : Array Value) : But [g] w (w.setRow g cs) :=
  ⟨rfl, rfl, rfl, by simp [World.setRow], fun b _ hn => setRow_other w g b cs (by simpa using hn)⟩
/-- copy into a row that is known whole: what else there is stays. -/
theorem step_copy_but {P : Program} {ops : Array Oper} {o : Oper} {a : Act} {w : World} {K : Act → World → Prop} {Q : Exit → Act → World → Prop} {E : Prop} (hgd : o.guard = none) (d s : Operand) (dT sT : TypeId)
    (ho : o.op = .call { callee := .builtin .copy, args := #[d, s], argTypes := #[dT, sT] }) (elem : TypeId) (hu : P.underlying dT = some (.slice elem)) (hsz : (P.info? elem).map (·.size) = some 1)
    (dp sp : Option Addr) (dLen dCap sLen sCap : Nat) (hd : a.eval d = .slice dp dLen dCap) (hs : a.eval s = .slice sp sLen sCap)
    (g off : Nat) (cur : List Value) (t : TypeId) (hg : Box w g t cur.toArray) (cs : List Value) (hn : cs.length = Nat.min sLen dLen)
    (hpos : 0 < cs.length → dp = some ⟨g, off, none⟩ ∧ ∃ ad, sp = some ad ∧ ∀ j v, cs[j]? = some v → w.cell? (ad.add j) = some v)
    (hfit : off + cs.length ≤ cur.length) (h1 : ∀ v ∈ cs, v.oneCell' = true)
    (h : ∀ w', Hid (Box w' g t (splice cur off cs).toArray) → Hid (But [g] w w') → K (a.put o.dst (goInt cs.length)) w') :
    if Region.wanted o (yielded ops a.tmps) = true then Oper.wp P o a w K Q else E := by
  have hw : Region.wanted o (yielded ops a.tmps) = true := by simp [Region.wanted, hgd]
  rw [if_pos hw]
  by_cases h0 : cs.length = 0
  · obtain rfl : cs = [] := List.eq_nil_of_length_eq_zero h0
    have hrun := run_copy_none (P := P) w dT sT o.type elem dp sp dLen dCap sLen sCap hu hsz (by simpa using hn.symm)
    unfold Oper.wp
    simp [execOp, ho, resolve, invoke, builtin, hd, hs, hrun, Result.andThen]
    exact h w (show Box _ _ _ _ by simpa [splice] using hg) (But.refl _ _)
  · obtain ⟨rfl, ad, rfl, hsrc⟩ := hpos (by omega)
    have hrun := run_copy_row (P := P) w dT sT o.type elem g off dLen dCap ad sLen sCap cur.toArray t cs hu hsz hg hn hsrc (by simpa using hfit) h1
    unfold Oper.wp
    simp [execOp, ho, resolve, invoke, builtin, hd, hs, hrun, Result.andThen]
    exact h _ (show Box _ _ _ _ by unfold Box; simpa [splice] using setRow_heap w g _ _ t _ hg) (but_setRow _ _ _)

theorem but_undrew {L : List Nat} {w w' : World} (h : But L w.drew w') : But L w w' := ⟨h.os, h.tape, h.output, h.size, h.block⟩
theorem wrote_rg {w w5 w8 : World} {g h size front back m nb : Nat} {cur : List Value} {q b : List UInt8} {X1 X2 : List Value} {a : Nat} (r : RgS w g h size front cur q) (hm : m ≤ b.length) (hf : q.length + m ≤ size)
    (hb : (front + q.length) % size = back) (ha : min m (size - back) = a) (hx1 : bv (b.take a) = X1) (hx2 : bv ((b.take m).drop a) = X2) (hn : (back + m) % size = nb)
    (hrow : Box w5 h 5 (splice (splice cur back X1) 0 X2).toArray) (hk : But [g] w5 w8) (hgh : g ≠ h) (hbox : Box w8 g 53 #[.slice (some ⟨h, 0, none⟩) size size, .int .i64 front, .int .i64 nb, .int .i64 ((q.length : Int) + m)]) : Rg w8 g h size (q ++ b.take m) := by
  have hl : (q ++ b.take m).length = q.length + m := by simp [Nat.min_eq_left hm]
  refine ⟨front, splice (splice cur back X1) 0 X2, ?_, hk.box hrow (by simpa using hgh.symm), ?_, r.pos, r.le, r.fr, by rw [hl]; exact hf, ?_⟩
  · rw [hl, ← Nat.add_assoc, ← Nat.mod_add_mod, hb, hn]
    exact hbox
  · have h1 := r.len
    have h2 := r.pos
    have h3 : back < size := by rw [← hb]; exact Nat.mod_lt _ r.pos
    have l1 : X1.length = a := by rw [← hx1, bv_length, List.length_take]; omega
    have l2 : X2.length = m - a := by rw [← hx2, bv_length, List.length_drop, List.length_take]; omega
    rw [length_splice _ _ _ (by rw [length_splice _ _ _ (by omega)]; omega), length_splice _ _ _ (by omega), h1]
  · rw [← hx1, ← hx2]
    exact r.wrote b m a back hm hf hb ha.symm

set_option maxHeartbeats 4000000 in
set_option maxRecDepth 100000 in
theorem write_any (w : World) {g h size c : Nat} {q b : List UInt8} {A : Option Addr} (m : Nat) (hm : m = min b.length (size - q.length)) (hr : Hid (Rg w g h size q)) (hb : Hid (SlB w w.heap.size A c b)) (hA : b ≠ [] → ∀ a, A = some a → a.block ≠ h) :
    Calls Try.prog 18 #[.pointer (some ⟨g, 0, none⟩), .slice A b.length c] w fun e w' => e = .returned (.int .i64 m) ∧ Hid (Rg w' g h size (q ++ b.take m)) ∧ Hid (But [g, h] w w') := by
  have hmn : min (b.length : Int) ((size - q.length : Nat) : Int) = m := by omega
  obtain ⟨bl, HBL⟩ : ∃ x, Hid (b.length = x) := ⟨_, hid rfl⟩
  obtain ⟨rm, HRMx⟩ : ∃ x, Hid (size - q.length = x) := ⟨_, hid rfl⟩
  have HRM := room_any w hr
  obtain ⟨hs1, hs2, hs3⟩ := hr.out.sizes
  have hgh := hr.out.ne
  obtain ⟨hb1, hb2, hb3, hb4⟩ := hb.out
  have HM := hid hm
  rw [HRMx.out] at hmn HRM
  rw [HBL.out] at hmn hb1 ⊢
  have hmb : m ≤ bl := by have := HBL.out; omega
  have hmr : m ≤ rm := by have := HRMx.out; omega
  have hmr2 : q.length + m ≤ size := by have := HRMx.out; omega
  clear hm
  by_cases h0 : m = 0
  · subst h0
    go_enter Try.func18, Try.ntmps18
    go_wp2_with (first
      | (go_at_call 16
         ((with_reducible refine HRM.mono ?_); rintro e w2 ⟨rfl, rfl⟩)))
    all_goals
      first
        | (exfalso; omega)
        | (go_ret
           exact ⟨rfl, hr, But.refl _ _⟩)
  · obtain ⟨front, cur, r⟩ := hr.out
    obtain ⟨back, HBK⟩ : ∃ x, Hid ((front + q.length) % size = x) := ⟨_, hid rfl⟩
    have hbs : back < size := by rw [← HBK.out]; exact Nat.mod_lt _ hs1
    have hne : bv b ≠ [] := by
      intro e
      have e2 := congrArg List.length e
      rw [bv_length, HBL.out] at e2
      simp at e2
      omega
    obtain ⟨bk, bo, rfl, hbk, hbc⟩ := hb4 hne
    have hbh : bk ≠ h := hA (fun e => hne (by rw [e]; rfl)) _ rfl
    obtain ⟨nb, HNB⟩ : ∃ x, Hid ((back + m) % size = x) := ⟨_, hid rfl⟩
    obtain ⟨a, HA⟩ : ∃ x, Hid (min m (size - back) = x) := ⟨_, hid rfl⟩
    have ha : a ≤ m := by have := HA.out; omega
    obtain ⟨X1, HX1⟩ : ∃ X1, Hid (bv (b.take a) = X1) := ⟨_, hid rfl⟩
    obtain ⟨X2, HX2⟩ : ∃ X2, Hid (bv ((b.take m).drop a) = X2) := ⟨_, hid rfl⟩
    have HL1 : Hid (X1.length = a) := by show _ = _; rw [← HX1.out, bv_length, List.length_take, HBL.out]; omega
    have HL2 : Hid (X2.length = m - a) := by show _ = _; rw [← HX2.out, bv_length, List.length_drop, List.length_take, HBL.out]; omega
    have HO1 : Hid (∀ u ∈ X1, u.oneCell' = true) := by show ∀ _, _; rw [← HX1.out]; exact bv_one _
    have HO2 : Hid (∀ u ∈ X2, u.oneCell' = true) := by show ∀ _, _; rw [← HX2.out]; exact bv_one _
    have HS1 : Hid (∀ j v, X1[j]? = some v → w.cell? (Addr.add ⟨bk, bo, none⟩ j) = some v) := fun j v hv => by
      rw [Addr.add_lit]
      apply hbc
      rw [← HX1.out] at hv
      have hj := (List.getElem?_eq_some_iff.1 hv).1
      rw [bv_length, List.length_take] at hj
      simp only [bv, List.getElem?_map, List.getElem?_take] at hv ⊢
      rw [if_pos (by omega)] at hv
      exact hv
    have HS2 : Hid (∀ w', But [h] w w' → ∀ j v, X2[j]? = some v → w'.cell? (Addr.add ⟨bk, bo + a, none⟩ j) = some v) := fun w' hk j v hv => by
      rw [Addr.add_lit, hk.cell (by exact hbk) (by simpa using hbh), Nat.add_assoc]
      apply hbc
      rw [← HX2.out] at hv
      have hj := (List.getElem?_eq_some_iff.1 hv).1
      rw [bv_length, List.length_drop, List.length_take] at hj
      simp only [bv, List.getElem?_map, List.getElem?_drop, List.getElem?_take] at hv ⊢
      rw [if_pos (by omega)] at hv
      exact hv
    have HBX : Hid (Box w g 53 #[.slice (some ⟨h, 0, none⟩) size size, .int .i64 front, .int .i64 back, .int .i64 q.length]) := by rw [← HBK.out]; exact r.box
    have HROW := hid r.row
    have HCL := hid r.len
    have HR := hid r
    obtain ⟨ql, HQL⟩ : ∃ x, Hid (q.length = x) := ⟨_, hid rfl⟩
    rw [HQL.out] at HBX hmr2
    have c0 := HBX.out.cell 0
    have c2 := HBX.out.cell 2
    have hq2 : ql ≤ 65536 := by omega
    have k1 : ¬ (size = back) := by omega
    have k2 : back ≤ size := by omega
    have k3 : m ≤ c := by omega
    have k4 : ¬ ((m : Int) = 0) := by omega
    have k5 : ((m : Int) == 0) = false := by simp; omega
    have hMB : Hid (m ≤ b.length) := by show m ≤ _; rw [HBL.out]; exact hmb
    have hMS : Hid (q.length + m ≤ size) := by show _ ≤ _; rw [HQL.out]; exact hmr2
    have hHC : Hid (a = c → m - a = 0) := fun e => by omega
    have HAB : Hid (back + a ≤ size) := by show _ ≤ _; have := HA.out; omega
    unfold maxLen at hb2
    clear r hb hb3 hb4 hbc hne hA
    have hcase : m = bl ∧ ¬ ((rm : Int) < bl) ∨ m = rm ∧ (rm : Int) < bl := by omega
    rcases hcase with ⟨he, hlt⟩ | ⟨he, hlt⟩
    all_goals
      subst he
      have hcase2 : (m = a ∧ m = c) ∨ ¬ (c = a) := by omega
      rcases hcase2 with ⟨rfl, rfl⟩ | hac
      all_goals try (exfalso; omega)
      all_goals
        go_enter Try.func18, Try.ntmps18
        go_wp2_with (first
          | (go_at_call 16
             ((with_reducible refine HRM.mono ?_); rintro e w2 ⟨rfl, rfl⟩)))
        go_region_law (first
          | (refine step_copy_but rfl (.tmp 22) (.tmp 25) 32 32 rfl 5 Try.underlying32 Try.info5s (some ⟨h, back, none⟩) (some ⟨bk, bo, none⟩) (size - back) (size - back) m _ rfl rfl h back cur 5 HROW.out X1 (by rw [HL1.out]; show _ = min _ _; have := HA.out; omega) (fun _ => ⟨rfl, _, rfl, HS1.out⟩) (by rw [HL1.out, HCL.out]; exact HAB.out) HO1.out ?_
             intro w3 HG3 HB3
             have HBX3 := hid (HB3.out.box HBX.out (by simpa using hgh))
             have c30 := HBX3.out.cell 0
             have x1l := HL1.out))
        all_goals
          clear c0 c2
          go_wp2
          go_region_law (first
            | (refine step_copy_but rfl (.tmp 30) (.tmp 34) 32 32 rfl 5 Try.underlying32 Try.info5s (some ⟨h, 0, none⟩) _ size size _ _ rfl rfl h 0 (splice cur back X1) 5 HG3.out X2 (by rw [HL2.out]; show _ = min _ _; omega) (fun hp => by first | exact ⟨rfl, _, rfl, HS2.out _ (but_undrew HB3.out).drew⟩ | (exfalso; rw [HL2.out] at hp; omega)) (by rw [HL2.out, length_splice _ _ _ (by rw [HL1.out, HCL.out]; exact HAB.out), HCL.out]; omega) HO2.out ?_
               intro w4 HG4 HB4
               have HBX4 := hid (HB4.out.box HBX3.out (by simpa using hgh))
               have HC4 : Hid (w4.cell? ⟨g, 0, none⟩ = some (.slice (some ⟨h, 0, none⟩) size size)) := HBX4.out.cell 0
               have c42 := HBX4.out.cell 2
               have f42 := HBX4.out.frozen 2
               have c43 := (HBX4.out.store 2 (.int .i64 nb)).cell 3
               have f43 := (HBX4.out.store 2 (.int .i64 nb)).frozen 3))
          all_goals
            go_wp2_with (first
              | (go_at_call 27
                 ((with_reducible refine (onward_any _ back m nb HC4 hs1 hs2 (by omega) (by omega) HNB).mono ?_); rintro e w5 ⟨rfl, rfl⟩)))
            go_ret
            have HK5 : Hid (But [g, h] w2 w5) := ((but_undrew HB3.out).same (but_undrew HB4.out)).mono (by simp)
            refine ⟨rfl, wrote_rg HR.out hMB.out hMS.out HBK.out HA.out HX1.out HX2.out HNB.out HG4.out (((But.refl [g] w5).store (.inl (by simp)) _).store (.inl (by simp)) _) hgh ?_, (HK5.out.store (.inl (by simp)) _).store (.inl (by simp)) _⟩
            rw [HQL.out]
            have hz := (HBX4.out.store 2 (.int .i64 nb)).store 3 (.int .i64 ((ql : Int) + m))
            simpa using hz
end Go.Proofs.Ytidgbojgdllghaa
