import Derived.Test.YtdcohhfbifiemaaKL
namespace Go.Proofs.Ytdcohhfbifiemaa
open Go.RowKit Go.Maps

def srt (S : List Tm) : Prop := S.Pairwise (fun a b => lt a b = true)
def nd (S : List Tm) : Prop := S.Pairwise (fun a b => a.1 ≠ b.1)
theorem nd_perm {L S : List Tm} (h : L.Perm S) : nd L ↔ nd S := h.pairwise_iff (fun {_ _} h => Ne.symm h)
theorem lt_asymm {a b : Tm} (h : lt a b = true) : lt b a = false := lt_le h
def ins (x : Tm) : List Tm → List Tm
  | [] => [x]
  | y :: r => if lt y x then y :: ins x r else x :: y :: r
theorem ins_perm (x : Tm) (S : List Tm) : (ins x S).Perm (x :: S) := by
  induction S with
  | nil => exact List.Perm.refl _
  | cons y r ih =>
    unfold ins
    split
    · exact (ih.cons y).trans (List.Perm.swap _ _ _)
    · exact List.Perm.refl _
theorem lt_trans {a b c : Tm} (h : lt a b = true) (k : lt b c = true) : lt a c = true := lt_le_trans h (lt_le k)
theorem ins_srt {x : Tm} {S : List Tm} (h : srt S) (hx : ∀ y ∈ S, y.1 ≠ x.1) : srt (ins x S) := by
  induction S with
  | nil => simp [ins, srt]
  | cons y r ih =>
    obtain ⟨h1, h2⟩ := List.pairwise_cons.1 h
    unfold ins
    split
    · rename_i hlt
      refine List.pairwise_cons.2 ⟨fun z hz => ?_, ih h2 (fun z hz => hx z (by simp [hz]))⟩
      rcases List.mem_cons.1 ((ins_perm x r).mem_iff.1 hz) with rfl | hz
      · exact hlt
      · exact h1 z hz
    · rename_i hlt
      have hxy : lt x y = true := lt_of_le_ne (by simpa using hlt) (fun e => hx y (by simp) e.symm)
      exact List.pairwise_cons.2 ⟨fun z hz => by
        rcases List.mem_cons.1 hz with rfl | hz
        · exact hxy
        · exact lt_trans hxy (h1 z hz), h⟩
theorem srt_uniq : ∀ {S S' : List Tm}, srt S → srt S' → S.Perm S' → S = S'
  | [], S', _, _, h => by
    have := h.length_eq
    exact (List.eq_nil_of_length_eq_zero this.symm).symm
  | x :: r, [], _, _, h => by
    have := h.length_eq
    simp at this
  | x :: r, y :: r', h1, h2, h => by
    obtain ⟨a1, a2⟩ := List.pairwise_cons.1 h1
    obtain ⟨b1, b2⟩ := List.pairwise_cons.1 h2
    have e : x = y := by
      rcases List.mem_cons.1 (h.mem_iff.1 (by simp : x ∈ x :: r)) with e | hx
      · exact e
      · rcases List.mem_cons.1 (h.mem_iff.2 (by simp : y ∈ y :: r')) with e | hy
        · exact e.symm
        · have := lt_asymm (b1 x hx)
          rw [a1 y hy] at this
          cases this
    subst e
    rw [srt_uniq a2 b2 h.cons_inv]
def rem (id : Int) (S : List Tm) : List Tm := S.filter (fun y => decide (y.1 ≠ id))
def has (id : Int) (S : List Tm) : Bool := S.any (fun y => decide (y.1 = id))
theorem rem_srt {S : List Tm} (h : srt S) (id : Int) : srt (rem id S) := h.filter _
theorem rem_nd {S : List Tm} (h : nd S) (id : Int) : nd (rem id S) := h.filter _
theorem rem_ne {S : List Tm} {id : Int} : ∀ y ∈ rem id S, y.1 ≠ id := fun y hy => by simpa using (List.mem_filter.1 hy).2
theorem rem_sub {S : List Tm} {id : Int} {y : Tm} (h : y ∈ rem id S) : y ∈ S := (List.mem_filter.1 h).1
theorem rem_none {S : List Tm} {id : Int} (h : ∀ y ∈ S, y.1 ≠ id) : rem id S = S := List.filter_eq_self.2 (fun y hy => by simpa using h y hy)
theorem has_false {S : List Tm} {id : Int} (h : has id S = false) : ∀ y ∈ S, y.1 ≠ id := fun y hy => by simpa using (List.any_eq_false.1 h) y hy
theorem has_perm {L S : List Tm} (h : L.Perm S) (id : Int) : has id L = has id S := by
  unfold has
  rw [Bool.eq_iff_iff, List.any_eq_true, List.any_eq_true]
  exact ⟨fun ⟨x, hx, hd⟩ => ⟨x, h.mem_iff.1 hx, hd⟩, fun ⟨x, hx, hd⟩ => ⟨x, h.mem_iff.2 hx, hd⟩⟩
theorem has_get {L : List Tm} {i : Nat} {x : Tm} (h : L[i]? = some x) : has x.1 L = true := List.any_eq_true.2 ⟨x, List.mem_of_getElem? h, by simp⟩
/-- Without the one that was taken off the end. -/
theorem one_rem {L L' : List Tm} {x : Tm} (h : (L' ++ [x]).Perm L) (hn : nd L) : L'.Perm (rem x.1 L) := by
  have h1 := (nd_perm h).2 hn
  have h2 := List.pairwise_append.1 h1
  have h3 : (rem x.1 (L' ++ [x])) = L' := by
    unfold rem
    rw [List.filter_append]
    have : L'.filter (fun y => decide (y.1 ≠ x.1)) = L' := List.filter_eq_self.2 (fun y hy => by simpa using h2.2.2 y hy x (by simp))
    rw [this]
    simp
  have h4 : (rem x.1 (L' ++ [x])).Perm (rem x.1 L) := h.filter _
  rw [h3] at h4
  exact h4
/-- With the one at a place set anew. -/
theorem set_rem {L : List Tm} {p : Nat} {x y : Tm} (hx : L[p]? = some x) (hn : nd L) : (L.set p y).Perm (y :: rem x.1 L) := by
  obtain ⟨hp, he⟩ := List.getElem?_eq_some_iff.1 hx
  have hL : L = L.take p ++ x :: L.drop (p + 1) := by
    have := List.drop_eq_getElem_cons hp
    rw [he] at this
    rw [← this, List.take_append_drop]
  have hs : L.set p y = L.take p ++ y :: L.drop (p + 1) := by
    rw [List.set_eq_take_append_cons_drop, if_pos hp]
  generalize L.take p = A at hL hs
  generalize L.drop (p + 1) = B at hL hs
  rw [hs]
  subst hL
  obtain ⟨n1, n2, n3⟩ := List.pairwise_append.1 hn
  obtain ⟨n4, n5⟩ := List.pairwise_cons.1 n2
  have hr : rem x.1 (A ++ x :: B) = A ++ B := by
    unfold rem
    rw [List.filter_append, List.filter_cons]
    have e1 : A.filter (fun y => decide (y.1 ≠ x.1)) = A := List.filter_eq_self.2 (fun z hz => by simpa using n3 z hz x (by simp))
    have e2 : B.filter (fun y => decide (y.1 ≠ x.1)) = B := List.filter_eq_self.2 (fun z hz => by simpa using Ne.symm (n4 z hz))
    rw [e1, e2]
    simp
  rw [hr]
  exact List.perm_middle
/-- The first of a heap is the first in order. -/
theorem hp_head {L S : List Tm} (hh : Hp L.length L) (hp : L.Perm S) (hs : srt S) : L[0]? = S.head? := by
  cases S with
  | nil => rw [List.eq_nil_of_length_eq_zero hp.length_eq]; rfl
  | cons s r =>
    have hl : 0 < L.length := by rw [hp.length_eq]; simp
    obtain ⟨h1, _⟩ := List.pairwise_cons.1 hs
    have hx : L[0]? = some (L[0]'hl) := List.getElem?_eq_getElem hl
    generalize L[0]'hl = x at hx
    rw [hx]
    obtain ⟨k, hk, he⟩ := List.getElem_of_mem (hp.mem_iff.2 (by simp : s ∈ s :: r))
    have hle := hh.root (Nat.le_refl _) hx k s hk (by rw [← he]; exact List.getElem?_eq_getElem hk)
    rcases List.mem_cons.1 (hp.mem_iff.1 (List.mem_of_getElem? hx)) with e | hxr
    · rw [e]
      rfl
    · have := h1 x hxr
      rw [show lt s x = false from hle] at this
      cases this
theorem take_while {now : Int} : ∀ {P S : List Tm}, (∀ y ∈ P, y.2 ≤ now) → (∀ s, S.head? = some s → now < s.2) → (P ++ S).takeWhile (fun y => decide (y.2 ≤ now)) = P ∧ (P ++ S).dropWhile (fun y => decide (y.2 ≤ now)) = S
  | [], S, _, h => by
    cases S with
    | nil => exact ⟨rfl, rfl⟩
    | cons s r =>
      have := h s rfl
      simp [List.takeWhile, List.dropWhile, show ¬ s.2 ≤ now by omega]
  | p :: P, S, h1, h2 => by
    obtain ⟨e1, e2⟩ := take_while (P := P) (S := S) (fun y hy => h1 y (by simp [hy])) h2
    simp [h1 p (by simp), e1, e2]
def setE (id : Int) (S : List Tm) : Int := if has id S = true ∨ S.length < 256 then 0 else 6
def setS (id due : Int) (S : List Tm) : List Tm := if has id S = true ∨ S.length < 256 then ins (id, due) (rem id S) else S
def dueP (now : Int) (S : List Tm) : List Tm := S.takeWhile (fun y => decide (y.2 ≤ now))
def dueS (now : Int) (S : List Tm) : List Tm := S.dropWhile (fun y => decide (y.2 ≤ now))
/-- Timers: their block, the places' blocks; S: what is due, in order. -/
structure Tr (w : World) (T H M : Nat) (rb : Option Nat) (S : List Tm) : Prop where
  box : Box w T 54 #[.pointer (some ⟨H, 0, none⟩)]
  body : ∃ L, Pl w H M rb L ∧ Hp L.length L ∧ L.Perm S
  srt : srt S
  cnt : S.length ≤ 256
section
variable {w w' : World} {T H M : Nat} {rb : Option Nat} {S : List Tm} {K : List Nat}
theorem Tr.nd (h : Tr w T H M rb S) : nd S := by
  obtain ⟨L, h1, _, h3⟩ := h.body
  exact (nd_perm h3).1 h1.nd
theorem Tr.wf (h : Tr w T H M rb S) : ∀ x ∈ S, okI x.1 ∧ okI x.2 := fun x hx => by
  obtain ⟨L, h1, _, h3⟩ := h.body
  exact h1.wf x (h3.mem_iff.2 hx)
theorem Tr.keep (h : Tr w T H M rb S) (k : But K w w') (hT : T ∉ K) (hK : ∀ x ∈ plB H M rb, x ∉ K) : Tr w' T H M rb S := by
  obtain ⟨L, h1, h2, h3⟩ := h.body
  exact ⟨k.box h.box hT, ⟨L, h1.keep k hK, h2, h3⟩, h.srt, h.cnt⟩
theorem Tr.keep0 (h : Tr w T H M rb S) (k : But [] w w') : Tr w' T H M rb S := h.keep k (by simp) (by simp)
theorem Tr.lt (h : Tr w T H M rb S) : T < w.heap.size ∧ ∀ x ∈ plB H M rb, x < w.heap.size := by
  obtain ⟨L, h1, _⟩ := h.body
  have := h1.lt
  refine ⟨h.box.lt, fun x hx => ?_⟩
  simp only [plB, List.mem_cons, Option.mem_toList] at hx
  rcases hx with rfl | rfl | hx
  · exact this.1
  · exact this.2.1
  · exact this.2.2 x hx
/-- The timers' own block is none of the places'. -/
theorem Tr.out (h : Tr w T H M rb S) : T ∉ plB H M rb := by
  obtain ⟨L, h1, _⟩ := h.body
  obtain ⟨A, c, f, hb, hr, hm, _⟩ := h1.body
  intro hx
  simp only [plB, List.mem_cons, Option.mem_toList] at hx
  rcases hx with e | e | hx
  · exact box_ne h.box hb (by decide) e
  · exact hm.ne h.box e.symm
  · obtain ⟨cs, hx⟩ := hr.box _ hx
    exact box_ne h.box hx (by decide) rfl
end
/-- What a step makes of timers: in other places, of their own or new. -/
def Nx (w w' : World) (T H M : Nat) (rb : Option Nat) (S' : List Tm) : Prop := (∃ rb', Tr w' T H M rb' S' ∧ ∀ y, rb' = some y → rb = some y ∨ w.heap.size ≤ y) ∧ But (plB H M rb) w w'
end Go.Proofs.Ytdcohhfbifiemaa
