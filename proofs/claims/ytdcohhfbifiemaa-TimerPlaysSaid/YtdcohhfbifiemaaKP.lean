import Derived.Test.YtdcohhfbifiemaaKO
namespace Go.Proofs.Ytdcohhfbifiemaa
open Go.RowKit Go.Maps

theorem one_fin {w w' : World} {T H M : Nat} {rb : Option Nat} {S L L3 : List Tm} {x : Tm} (ht : Tr w T H M rb S) (hp : Pl w' H M rb L3) (hpm : L.Perm S) (ho : OneL L L3 x) (hk : But (plB H M rb) w w') : Nx w w' T H M rb (rem x.1 S) := by
  have hn := (nd_perm hpm).2 ht.nd
  have hpm3 : L3.Perm (rem x.1 S) := (one_rem ho.1 hn).trans (hpm.filter _)
  exact ⟨⟨rb, ⟨hk.box ht.box ht.out, ⟨L3, hp, ho.2, hpm3⟩, rem_srt ht.srt _, Nat.le_trans (List.length_filter_le _ _) ht.cnt⟩, fun y hy => .inl hy⟩, hk⟩
section
variable (w : World)
set_option maxHeartbeats 4000000 in
set_option maxRecDepth 100000 in
theorem cancel_any {T H M : Nat} {rb : Option Nat} {S : List Tm} {id : Int} (ht : Hid (Tr w T H M rb S)) (ho : Hid (okI id)) :
    Calls Try.prog 11 #[.pointer (some ⟨T, 0, none⟩), .int .i64 id] w fun e w' => e = .returned (.bool (has id S)) ∧ Hid (Nx w w' T H M rb (rem id S)) := by
  have c0 : w.cell? ⟨T, 0, none⟩ = some (.pointer (some ⟨H, 0, none⟩)) := ht.out.box.cell 0
  obtain ⟨L, hp, hh, hpm⟩ := ht.out.body
  obtain ⟨A, c, f, hb, hr, hm, hf⟩ := hp.body
  have k1 : w.cell? ⟨H, 1, none⟩ = some (.map (some M)) := hb.cell 1
  have hlk := hm.look Try.underlying57 Try.underlying3 (zero3 w) ho.out
  have HH := hid hh
  have HPM := hid hpm
  obtain ⟨n, hn⟩ : ∃ n, S.length = n := ⟨_, rfl⟩
  have HN := hid hn
  rcases mf_get hf hp.nd id with ⟨hhas, p, x, hx, hxe, hfx⟩ | ⟨hhas, hfx, hno⟩
  · rw [hfx] at hlk
    simp only [Option.getD_some, Option.isSome_some] at hlk
    have hpl := lt_get hx
    have t1 : ((n : Int) == 0) = false := by
      have := hpm.length_eq
      simp
      omega
    have HHAS : Hid (has id S = true) := hid (by rw [← has_perm hpm]; exact hhas)
    have HX := hid hx
    have HXE := hid hxe
    have HP := hid hp
    rw [HHAS.out]
    clear hp hh hpm hb hr hm hf hx hxe hhas hfx hn hpl
    go_enter Try.func11, Try.ntmps11
    go_wp2_with (first
      | (go_at_call 17
         refine (len_any _ HN ht).mono ?_
         rintro e w1 ⟨rfl, rfl⟩)
      | (go_at_call 22
         refine (hrem_any _ HP HH HX).mono ?_
         rintro e w2 ⟨rfl, HF⟩))
    go_ret
    obtain ⟨L3, hP3, hO3, hK3⟩ := HF.out
    have := one_fin ht.out hP3 HPM.out hO3 hK3
    rw [HXE.out] at this
    exact ⟨rfl, this⟩
  · rw [hfx] at hlk
    simp only [Option.getD_none, Option.isSome_none] at hlk
    have HHAS : Hid (has id S = false) := hid (by rw [← has_perm hpm]; exact hhas)
    rw [HHAS.out, rem_none (has_false HHAS.out)]
    clear hp hh hpm hb hr hm hf hhas hfx hn hno
    by_cases h0 : n = 0
    · have t1 : ((n : Int) == 0) = true := by simp; omega
      go_enter Try.func11, Try.ntmps11
      go_wp2_with (first
        | (go_at_call 17
           refine (len_any _ HN ht).mono ?_
           rintro e w1 ⟨rfl, rfl⟩))
      go_ret
      exact ⟨rfl, ⟨rb, ht.out, fun y hy => .inl hy⟩, But.refl _ _⟩
    · have t1 : ((n : Int) == 0) = false := by simp; omega
      go_enter Try.func11, Try.ntmps11
      go_wp2_with (first
        | (go_at_call 17
           refine (len_any _ HN ht).mono ?_
           rintro e w1 ⟨rfl, rfl⟩))
      go_ret
      exact ⟨rfl, ⟨rb, ht.out, fun y hy => .inl hy⟩, But.refl _ _⟩
end
/-- Numbers as values. -/
def iv (l : List Int) : List Value := l.map (Value.int .i64)
theorem iv_one (l : List Int) : ∀ u ∈ iv l, u.oneCell' = true := by
  intro u hu
  simp only [iv, List.mem_map] at hu
  obtain ⟨c, _, rfl⟩ := hu
  rfl
theorem Try.info3 : (Try.prog.info? 3).map (fun i => (i.zero, i.size, i.bytes)) = some (some (.int .i64 0), 1, 8) := by kernel_rfl
def ids (P : List Tm) : List Int := P.map (·.1)
/-- Through the rounds of Due. -/
structure Du (w wr : World) (T H M : Nat) (rb : Option Nat) (S P R : List Tm) (now : Int) (A : Option Addr) (n c : Nat) : Prop where
  split : S = P ++ R
  due : ∀ y ∈ P, y.2 ≤ now
  len : P.length = n
  nx : Nx w wr T H M rb R
  own : wr.ownsRow w.heap.size 3 1 (.slice A n c) n (iv (ids P))
theorem rem_head {s : Tm} {R : List Tm} (h : nd (s :: R)) : rem s.1 (s :: R) = R := by
  obtain ⟨h1, _⟩ := List.pairwise_cons.1 h
  unfold rem
  rw [List.filter_cons]
  simp only [ne_eq, not_true_eq_false, decide_false]
  exact List.filter_eq_self.2 (fun y hy => by simpa using Ne.symm (h1 y hy))
theorem Nx.trans {w w1 w2 : World} {T H M : Nat} {rb rb1 : Option Nat} {S : List Tm} (hr : ∀ y, rb1 = some y → rb = some y ∨ w.heap.size ≤ y) (k : But (plB H M rb) w w1) (h : Nx w1 w2 T H M rb1 S) : Nx w w2 T H M rb S := by
  obtain ⟨⟨rb2, h1, h2⟩, h3⟩ := h
  refine ⟨⟨rb2, h1, fun y hy => ?_⟩, k.trans h3 (fun y hy => ?_)⟩
  · rcases h2 y hy with h | h
    · exact hr y h
    · exact .inr (Nat.le_trans k.size h)
  · simp only [plB, List.mem_cons, Option.mem_toList] at hy ⊢
    rcases hy with h | h | h
    · exact .inl (.inl h)
    · exact .inl (.inr (.inl h))
    · rcases hr y h with h | h
      · exact .inl (.inr (.inr h))
      · exact .inr h
/-- What the places turn is no row of numbers. -/
theorem tr_own {w w' : World} {T H M base n : Nat} {rb : Option Nat} {S : List Tm} {v : Value} {xs : List Value} (ht : Tr w T H M rb S) (k : But (plB H M rb) w w') (h : w.ownsRow base 3 1 v n xs) : w'.ownsRow base 3 1 v n xs := by
  obtain ⟨L, hp, _⟩ := ht.body
  obtain ⟨A, c, f, hb, hr, hm, _⟩ := hp.body
  refine k.own h (fun g hg hx => ?_)
  obtain ⟨_, cs, hg⟩ := own_box h g hg
  simp only [plB, List.mem_cons, Option.mem_toList] at hx
  rcases hx with e | e | hx
  · subst e
    exact box_ne hb hg (by decide) rfl
  · subst e
    exact hm.ne hg rfl
  · obtain ⟨cs', hx⟩ := hr.box g hx
    exact box_ne hx hg (by decide) rfl
end Go.Proofs.Ytdcohhfbifiemaa
