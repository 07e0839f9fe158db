import Derived.Test.YtdcohhfbifiemaaKU
namespace Go.Proofs.Ytdcohhfbifiemaa
open Go.RowKit Go.Maps

/-- When the timer of an id is due. -/
def look (id : Int) (S : List Tm) : Option Int := (S.find? (fun y => decide (y.1 = id))).map (·.2)
theorem look_mem {S : List Tm} (h : nd S) {x : Tm} (hx : x ∈ S) : look x.1 S = some x.2 := by
  unfold look
  cases hf : S.find? (fun y => decide (y.1 = x.1)) with
  | none =>
    have := List.find?_eq_none.1 hf x hx
    simp at this
  | some y =>
    have h1 : y.1 = x.1 := by simpa using List.find?_some hf
    have h2 := List.mem_of_find?_eq_some hf
    obtain ⟨i, hi, rfl⟩ := List.getElem_of_mem h2
    obtain ⟨j, hj, rfl⟩ := List.getElem_of_mem hx
    have := nd_get h (List.getElem?_eq_getElem hi) (List.getElem?_eq_getElem hj) h1
    subst this
    rfl
theorem look_some {S : List Tm} {id d : Int} (h : look id S = some d) : (id, d) ∈ S := by
  unfold look at h
  cases hf : S.find? (fun y => decide (y.1 = id)) with
  | none => rw [hf] at h; cases h
  | some y =>
    rw [hf] at h
    injection h with h
    have h1 : y.1 = id := by simpa using List.find?_some hf
    have h2 := List.mem_of_find?_eq_some hf
    rw [← h1, ← h]
    exact h2
theorem look_has (id : Int) (S : List Tm) : (look id S).isSome = has id S := by
  unfold look has
  rw [Option.isSome_map, Bool.eq_iff_iff, List.find?_isSome, List.any_eq_true]
theorem look_perm {S R : List Tm} (h : nd S) (hp : S.Perm R) (id : Int) : look id S = look id R := by
  have hr := (nd_perm hp).1 h
  cases h1 : look id S with
  | none =>
    cases h2 : look id R with
    | none => rfl
    | some d =>
      have := look_mem h (hp.mem_iff.2 (look_some h2))
      rw [h1] at this
      cases this
  | some d =>
    exact (look_mem hr (hp.mem_iff.1 (look_some h1))).symm
theorem look_ins {S : List Tm} (h : nd S) (id d : Int) : (fun x => look x (ins (id, d) (rem id S))) = putF (fun x => look x S) id d := by
  funext x
  have hn : nd ((id, d) :: rem id S) := List.pairwise_cons.2 ⟨fun y hy => Ne.symm (rem_ne y hy), rem_nd h id⟩
  rw [look_perm ((nd_perm (ins_perm _ _)).2 hn) (ins_perm _ _)]
  unfold putF
  by_cases e : x = id
  · subst e
    rw [if_pos rfl]
    exact look_mem hn (by simp : (x, d) ∈ (x, d) :: rem x S)
  · rw [if_neg e]
    unfold look rem
    rw [List.find?_cons]
    simp only [show ¬ id = x from fun h => e h.symm, decide_false]
    rw [List.find?_filter]
    congr 2
    funext y
    by_cases h1 : y.1 = x
    · simp [h1, e]
    · simp [h1]
theorem look_rem {S : List Tm} (id : Int) : (fun x => look x (rem id S)) = delF (fun x => look x S) id := by
  funext x
  unfold delF look rem
  rw [List.find?_filter]
  by_cases e : x = id
  · subst e
    rw [if_pos rfl, List.find?_eq_none.2 (fun y _ => by simp)]
    rfl
  · rw [if_neg e]
    congr 2
    funext y
    by_cases h1 : y.1 = x
    · simp [h1, e]
    · simp [h1]
theorem has_split {S : List Tm} (h : nd S) {id : Int} (hh : has id S = true) : ∃ d, look id S = some d ∧ S.Perm ((id, d) :: rem id S) := by
  rw [← look_has] at hh
  obtain ⟨d, hd⟩ := Option.isSome_iff_exists.1 hh
  refine ⟨d, hd, ?_⟩
  obtain ⟨p, hp, he⟩ := List.getElem_of_mem (look_some hd)
  have hg : S[p]? = some (id, d) := by rw [← he]; exact List.getElem?_eq_getElem hp
  have := set_rem (y := (id, d)) hg h
  have hs : S.set p (id, d) = S := by
    conv => lhs; rw [← he]
    exact List.set_getElem_self hp
  rw [hs] at this
  exact this
theorem rem_len {S : List Tm} (h : nd S) (id : Int) : (rem id S).length = if (look id S).isSome = true then S.length - 1 else S.length := by
  rw [look_has]
  cases hh : has id S with
  | true =>
    obtain ⟨d, _, hp⟩ := has_split h hh
    have := hp.length_eq
    simp at this
    simp
    omega
  | false => rw [rem_none (has_false hh)]; simp
theorem ins_len {S : List Tm} (h : nd S) (id d : Int) : (ins (id, d) (rem id S)).length = if (look id S).isSome = true then S.length else S.length + 1 := by
  rw [(ins_perm _ _).length_eq, List.length_cons, rem_len h]
  split
  · rename_i hh
    rw [look_has] at hh
    obtain ⟨d, _, hp⟩ := has_split h hh
    have := hp.length_eq
    simp at this
    omega
  · rfl
theorem setS_lt {S : List Tm} (h : S.length < 256) (id d : Int) : setE id S = 0 ∧ setS id d S = ins (id, d) (rem id S) := ⟨if_pos (.inr h), if_pos (.inr h)⟩
theorem ins_srt' {S : List Tm} (h : srt S) (id d : Int) : srt (ins (id, d) (rem id S)) := ins_srt (rem_srt h id) (fun y hy => rem_ne y hy)
theorem rem_ins {S : List Tm} (id d : Int) : (rem id (ins (id, d) (rem id S))).Perm (rem id S) := by
  have h1 : (rem id (ins (id, d) (rem id S))).Perm (rem id ((id, d) :: rem id S)) := (ins_perm _ _).filter _
  refine h1.trans ?_
  have h2 : rem id ((id, d) :: rem id S) = rem id (rem id S) := by simp [rem]
  rw [h2, rem_none (S := rem id S) (fun y hy => rem_ne y hy)]
theorem has_ins (S : List Tm) (id d : Int) : has id (ins (id, d) S) = true := by
  rw [has_perm (ins_perm _ _)]
  simp [has]
theorem set_back {S : List Tm} (h : srt S) (hn : nd S) {id d d' : Int} (hd : look id S = some d) : ins (id, d) (rem id (ins (id, d') (rem id S))) = S := by
  refine srt_uniq (ins_srt' (ins_srt' h id d') id d) h ?_
  have hh : has id S = true := by rw [← look_has, hd]; rfl
  obtain ⟨d2, e, hp⟩ := has_split hn hh
  rw [hd] at e
  injection e with e
  subst e
  exact (ins_perm _ _).trans (((rem_ins id d').cons _).trans hp.symm)
theorem cancel_back {S : List Tm} (h : srt S) {id d' : Int} (hh : has id S = false) : rem id (ins (id, d') (rem id S)) = S := by
  refine srt_uniq (rem_srt (ins_srt' h id d') id) h ?_
  have h1 := rem_ins (S := S) id d'
  rw [rem_none (has_false hh)] at h1 ⊢
  exact h1
end Go.Proofs.Ytdcohhfbifiemaa
