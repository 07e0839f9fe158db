import Derived.Test.YtdcohhfbifiemaaKN
namespace Go.Proofs.Ytdcohhfbifiemaa
open Go.RowKit Go.Maps

theorem zero3 (w : World) : (zeroValue 3).run Try.prog w = .ok (.int .i64 0) w := by kernel_rfl
theorem zero2 (w : World) : (zeroValue 2).run Try.prog w = .ok (.int .i64 0) w := by kernel_rfl
theorem mf_get {f : Int → Option Int} {L : List Tm} (h : Mf f L) (hn : nd L) (a : Int) : (has a L = true ∧ ∃ (p : Nat) (x : Tm), L[p]? = some x ∧ x.1 = a ∧ f a = some (p : Int)) ∨ (has a L = false ∧ f a = none ∧ ∀ y ∈ L, y.1 ≠ a) := by
  cases hh : has a L with
  | true =>
    obtain ⟨x, hx, e⟩ := List.any_eq_true.1 hh
    have e : x.1 = a := by simpa using e
    obtain ⟨p, hp, hpx⟩ := List.getElem_of_mem hx
    have hg : L[p]? = some x := by rw [← hpx]; exact List.getElem?_eq_getElem hp
    exact .inl ⟨rfl, p, x, hg, e, by rw [← e]; exact h.1 p x hg⟩
  | false => exact .inr ⟨rfl, mf_none h (has_false hh), has_false hh⟩
theorem pl_set {w : World} {H M p : Nat} {rb : Option Nat} {L : List Tm} {x : Tm} {d : Int} (hp : Pl w H M rb L) (hx : L[p]? = some x) (hd : okI d) :
    ∃ r, rb = some r ∧ Pl (w.setCell ⟨r, p * 2 + 1, none⟩ (.int .i64 d)) H M rb (L.set p (x.1, d)) ∧ w.cell? ⟨r, p * 2 + 1, none⟩ = some (.int .i64 x.2) ∧ w.frozen? ⟨r, p * 2 + 1, none⟩ = false ∧ ∃ c, w.cell? ⟨H, 0, none⟩ = some (.slice (some ⟨r, 0, none⟩) L.length c) := by
  obtain ⟨A, c, f, hb, hr, hm, hf⟩ := hp.body
  obtain ⟨hl, he⟩ := List.getElem?_eq_some_iff.1 hx
  obtain ⟨r, cur, rfl, rfl, hbr, hsz, hc⟩ := hr.some_ (by omega)
  have hcp := hc p hl
  rw [he] at hcp
  have hk : But [r] w (w.setCell ⟨r, p * 2 + 1, none⟩ (.int .i64 d)) := (But.refl [r] w).store (g := r) (.inl (by simp)) _
  have hne := pl_ne hb hr hm
  have hle := hr.le
  have hids : ∀ (k : Nat) (z : Tm), (L.set p (x.1, d))[k]? = some z → ∃ z', L[k]? = some z' ∧ z'.1 = z.1 := fun k z hz => by
    rw [List.getElem?_set] at hz
    split at hz
    · rename_i e
      subst e
      injection hz with hz
      subst hz
      exact ⟨x, hx, rfl⟩
    · exact ⟨z, hz, rfl⟩
  refine ⟨r, rfl, ⟨fun z hz => ?_, by rw [List.length_set]; exact hp.cnt, ?_, some ⟨r, 0, none⟩, c, f, ?_, ?_, ?_, fun k z hz => ?_, fun a v hv => ?_⟩, (hbr.cell _).trans hcp.2, hbr.frozen _, c, hb.cell 0⟩
  · rcases List.mem_or_eq_of_mem_set hz with h | h
    · exact hp.wf z h
    · subst h
      exact ⟨(hp.wf x (List.mem_of_getElem? hx)).1, hd⟩
  · rw [List.pairwise_iff_getElem]
    intro i j hi hj hij
    have hi' : i < L.length := by simpa using hi
    have hj' : j < L.length := by simpa using hj
    obtain ⟨z1, h1, e1⟩ := hids i _ (List.getElem?_eq_getElem hi)
    obtain ⟨z2, h2, e2⟩ := hids j _ (List.getElem?_eq_getElem hj)
    intro e
    rw [← e1, ← e2] at e
    exact absurd (nd_get hp.nd h1 h2 e) (by omega)
  · rw [List.length_set]
    exact hk.box hb (by simp; exact fun e => (hne.2 r rfl).1 e.symm)
  · rw [List.length_set]
    refine ⟨by rw [List.length_set], hr.le, hr.max, .inr ⟨r, _, rfl, rfl, hbr.store _ _, by simpa using hsz, fun j hj => ?_⟩⟩
    have hj' : j < L.length := by simpa using hj
    have hcj := hc j hj'
    simp only [Array.getElem?_setIfInBounds]
    by_cases e : p = j
    · subst e
      simp only [List.getElem_set_self]
      rw [if_neg (by omega), if_pos trivial, if_pos (by omega)]
      rw [he] at hcj
      exact ⟨hcj.1, rfl⟩
    · rw [List.getElem_set_ne e, if_neg (by omega), if_neg (by omega)]
      exact hcj
  · rw [List.length_set]
    exact hm.keep hk (by simp; exact fun e => (hne.2 r rfl).2 e.symm)
  · obtain ⟨z', h1, e1⟩ := hids k z hz
    rw [← e1]
    exact hf.1 k z' h1
  · obtain ⟨j, z, hz, e1, e2⟩ := hf.2 a v hv
    by_cases e : p = j
    · subst e
      rw [hx] at hz
      injection hz with hz
      subst hz
      exact ⟨p, (x.1, d), by rw [List.getElem?_set, if_pos rfl, if_pos hl], e1, e2⟩
    · exact ⟨j, z, by rw [List.getElem?_set, if_neg e]; exact hz, e1, e2⟩
theorem setE_has {id : Int} {S : List Tm} (h : has id S = true) : setE id S = 0 := if_pos (.inl h)
theorem setS_has {id d : Int} {S : List Tm} (h : has id S = true) : setS id d S = ins (id, d) (rem id S) := if_pos (.inl h)
theorem set_fin {w w' : World} {T H M : Nat} {rb rb' : Option Nat} {S L3 : List Tm} {id d : Int} (ht : Tr w T H M rb S) (hp : Pl w' H M rb' L3) (hh : Hp L3.length L3) (hm : L3.Perm ((id, d) :: rem id S)) (hl : ((id, d) :: rem id S).length ≤ 256)
    (hr : ∀ y, rb' = some y → rb = some y ∨ w.heap.size ≤ y) (hk : But (plB H M rb) w w') : Nx w w' T H M rb (ins (id, d) (rem id S)) := by
  have hpm := hm.trans (ins_perm (id, d) (rem id S)).symm
  exact ⟨⟨rb', ⟨hk.box ht.box ht.out, ⟨L3, hp, hh, hpm⟩, ins_srt (rem_srt ht.srt id) (fun y hy => rem_ne y hy), by rw [(ins_perm _ _).length_eq]; exact hl⟩, hr⟩, hk⟩
section
variable (w : World)
set_option maxHeartbeats 4000000 in
set_option maxRecDepth 100000 in
theorem set_any {T H M : Nat} {rb : Option Nat} {S : List Tm} {id d : Int} (ht : Hid (Tr w T H M rb S)) (ho : Hid (okI id ∧ okI d)) :
    Calls Try.prog 9 #[.pointer (some ⟨T, 0, none⟩), .int .i64 id, .int .i64 d] w fun e w' => e = .returned (.int .i64 (setE id S)) ∧ Hid (Nx w w' T H M rb (setS id d S)) := by
  have c0 : w.cell? ⟨T, 0, none⟩ = some (.pointer (some ⟨H, 0, none⟩)) := ht.out.box.cell 0
  obtain ⟨L, hp, hh, hpm⟩ := ht.out.body
  obtain ⟨A, c, f, hb, hr, hm, hf⟩ := hp.body
  have k1 : w.cell? ⟨H, 1, none⟩ = some (.map (some M)) := hb.cell 1
  have hlk := hm.look Try.underlying57 Try.underlying3 (zero3 w) ho.out.1
  have HH := hid hh
  have HPM := hid hpm
  rcases mf_get hf hp.nd id with ⟨hhas, p, x, hx, hxe, hfx⟩ | ⟨hhas, hfx, hno⟩
  · rw [hfx] at hlk
    simp only [Option.getD_some, Option.isSome_some] at hlk
    obtain ⟨r, rfl, hP1, cr, fr, c', k0⟩ := pl_set hp hx ho.out.2
    have hpl := lt_get hx
    obtain ⟨n, hn⟩ : ∃ n, L.length = n := ⟨_, rfl⟩
    rw [hn] at k0 hpl
    have bi : 0 ≤ (p : Int) ∧ (p : Int) < n := by omega
    have HP1 := hid hP1
    have HE1 : Hid (Ex (L.set p (x.1, d)).length (L.set p (x.1, d)) p) := hid (by rw [List.length_set]; exact ex_set hh hx)
    have HL1 : Hid (p < (L.set p (x.1, d)).length) := hid (by rw [List.length_set]; omega)
    have HR : Hid ((L.set p (x.1, d)).Perm ((id, d) :: rem id S)) := hid (by
      have h1 := set_rem (y := (x.1, d)) hx hp.nd
      rw [hxe] at h1 ⊢
      exact h1.trans ((hpm.filter _).cons _))
    have HHAS : Hid (has id S = true) := hid (by rw [← has_perm hpm]; exact hhas)
    have HLEN : Hid (((id, d) :: rem id S).length ≤ 256) := hid (by rw [← HR.out.length_eq, List.length_set, hpm.length_eq]; exact ht.out.cnt)
    rw [setE_has HHAS.out, setS_has HHAS.out]
    have HK1 : Hid (But (plB H M (some r)) w (w.setCell ⟨r, p * 2 + 1, none⟩ (.int .i64 d))) := (But.refl _ w).store (g := r) (.inl (by simp [plB])) _
    have c01 : (w.setCell ⟨r, p * 2 + 1, none⟩ (.int .i64 d)).cell? ⟨T, 0, none⟩ = some (.pointer (some ⟨H, 0, none⟩)) := (HK1.out.box ht.out.box ht.out.out).cell 0
    clear hp hh hpm hb hr hm hf hx hxe hhas hfx hP1 hn
    go_enter Try.func9, Try.ntmps9
    go_wp2_with (first
      | (go_at_call 19
         refine (hfix_any _ HP1 HE1 HL1).mono ?_
         rintro e w2 ⟨rfl, HF⟩))
    go_ret
    obtain ⟨L3, hP3, hH3, hM3, hK3⟩ := HF.out
    exact ⟨rfl, set_fin ht.out hP3 hH3 (hM3.trans HR.out) HLEN.out (fun y hy => .inl hy) (HK1.out.same hK3)⟩
  · rw [hfx] at hlk
    simp only [Option.getD_none, Option.isSome_none] at hlk
    have HHAS : Hid (has id S = false) := hid (by rw [← has_perm hpm]; exact hhas)
    obtain ⟨n, hn⟩ : ∃ n, S.length = n := ⟨_, rfl⟩
    have HN := hid hn
    have HP := hid hp
    have HNO := hid hno
    have hnL : L.length = n := by rw [hpm.length_eq]; exact hn
    have hn256 := ht.out.cnt
    rw [hn] at hn256
    by_cases hfull : n < 256
    · have t1 : ¬ ((n : Int) ≥ 256) := by omega
      have e1 : setE id S = 0 := if_pos (.inr (by omega))
      have e2 : setS id d S = ins (id, d) (rem id S) := if_pos (.inr (by omega))
      have HL : Hid (L.length < 300) := hid (by omega)
      have HR : Hid ((L ++ [(id, d)]).Perm ((id, d) :: rem id S)) := hid (by
        rw [rem_none (has_false HHAS.out)]
        exact (List.perm_append_comm).trans (hpm.cons _))
      have HLEN : Hid (((id, d) :: rem id S).length ≤ 256) := hid (by rw [← HR.out.length_eq]; simp; omega)
      rw [e1, e2]
      clear hp hh hpm hb hr hm hf hhas hfx hn hnL hno e1 e2
      go_enter Try.func9, Try.ntmps9
      go_wp2_with (first
        | (go_at_call 17
           refine (len_any _ HN ht).mono ?_
           rintro e w1 ⟨rfl, rfl⟩)
        | (go_at_call 20
           refine (hpush_any _ (x := (id, d)) HP HH HNO ho HL).mono ?_
           rintro e w2 ⟨rfl, HF⟩))
      go_ret
      obtain ⟨rb', L3, hP3, hH3, hM3, hR3, hK3⟩ := HF.out
      exact ⟨rfl, set_fin ht.out hP3 hH3 (hM3.trans HR.out) HLEN.out hR3 hK3⟩
    · have t1 : ((n : Int) ≥ 256) := by omega
      have hneg : ¬ (has id S = true ∨ S.length < 256) := by rw [HHAS.out, hn]; simp; omega
      have e1 : setE id S = 6 := if_neg hneg
      have e2 : setS id d S = S := if_neg hneg
      rw [e1, e2]
      clear hp hh hpm hb hr hm hf hhas hfx hn hnL hno e1 e2 hneg
      go_enter Try.func9, Try.ntmps9
      go_wp2_with (first
        | (go_at_call 17
           refine (len_any _ HN ht).mono ?_
           rintro e w1 ⟨rfl, rfl⟩))
      go_ret
      exact ⟨rfl, ⟨rb, ht.out, fun y hy => .inl hy⟩, But.refl _ _⟩
end
end Go.Proofs.Ytdcohhfbifiemaa
