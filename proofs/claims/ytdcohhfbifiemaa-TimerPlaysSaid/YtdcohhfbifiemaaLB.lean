import Derived.Test.YtdcohhfbifiemaaKY
import Derived.Maps.RangeWalk
namespace Go.Proofs.Ytdcohhfbifiemaa
open Go.RowKit Go.Maps

/-- Timers, made behind w0; X: blocks that are none of theirs. -/
structure One (w0 w : World) (X : List Nat) (a : Nat) (S : List Tm) : Prop where
  bel : Below w0.heap.size w0 w
  body : ∃ H M rb, Tr w a H M rb S ∧ ∀ x ∈ a :: plB H M rb, w0.heap.size ≤ x ∧ x ∉ X
  lt : ∀ x ∈ X, w0.heap.size ≤ x ∧ x < w.heap.size
section
variable {w0 w w' : World} {X : List Nat} {a : Nat} {S R S' R' : List Tm}
theorem One.srt (h : One w0 w X a S) : srt S ∧ nd S ∧ S.length ≤ 256 := by
  obtain ⟨H, M, rb, h1, _⟩ := h.body
  exact ⟨h1.srt, h1.nd, h1.cnt⟩
theorem One.okd (h : One w0 w X a S) {x : Tm} (hx : x ∈ S) : okI x.1 ∧ okI x.2 := by
  obtain ⟨H, M, rb, h1, _⟩ := h.body
  exact h1.wf _ hx
theorem One.keep {K : List Nat} (h : One w0 w X a S) (k : But K w w') (hK : ∀ x ∈ K, x ∈ X) : One w0 w' X a S := by
  obtain ⟨H, M, rb, h1, h3⟩ := h.body
  refine ⟨h.bel.trans (k.below h.bel.size (fun x hx => (h.lt x (hK x hx)).1)), ⟨H, M, rb, ?_, h3⟩, fun x hx => ⟨(h.lt x hx).1, Nat.lt_of_lt_of_le (h.lt x hx).2 k.size⟩⟩
  exact h1.keep k (fun hx => (h3 a (by simp)).2 (hK a hx)) (fun x hx hx' => (h3 x (by simp [hx])).2 (hK x hx'))
theorem One.keep0 (h : One w0 w X a S) (k : But [] w w') : One w0 w' X a S := h.keep k (by simp)
theorem One.sub {X' : List Nat} (h : One w0 w X a S) (hX : ∀ x ∈ X', x ∈ X) : One w0 w X' a S := by
  obtain ⟨H, M, rb, h1, h3⟩ := h.body
  exact ⟨h.bel, ⟨H, M, rb, h1, fun x hx => ⟨(h3 x hx).1, fun hx' => (h3 x hx).2 (hX x hx')⟩⟩, fun x hx => h.lt x (hX x hx)⟩
theorem One.add (h : One w0 w X a S) (k : But [] w w') {x : Nat} (h1 : w.heap.size ≤ x) (h2 : x < w'.heap.size) : One w0 w' (x :: X) a S := by
  have h' := h.keep0 k
  obtain ⟨H, M, rb, t1, h3⟩ := h.body
  have l1 := t1.lt
  refine ⟨h'.bel, ⟨H, M, rb, t1.keep0 k, fun y hy => ⟨(h3 y hy).1, fun hx => ?_⟩⟩, fun y hy => ?_⟩
  · rcases List.mem_cons.1 hx with e | hx
    · have : y < w.heap.size := by
        rcases List.mem_cons.1 hy with e | hy
        · rw [e]; exact l1.1
        · exact l1.2 y hy
      omega
    · exact (h3 y hy).2 hx
  · rcases List.mem_cons.1 hy with e | hy
    · rw [e]
      exact ⟨Nat.le_trans h.bel.size h1, h2⟩
    · exact h'.lt y hy
theorem one_nx {H M : Nat} {rb : Option Nat} (h : One w0 w X a S) (h1 : Tr w a H M rb S) (h3 : ∀ x ∈ a :: plB H M rb, w0.heap.size ≤ x ∧ x ∉ X) (hn : Nx w w' a H M rb S') : One w0 w' X a S' ∧ Fr X w w' := by
  refine ⟨?_, fr_nx h1 (fun x hx => (h3 x (by simp [hx])).2) hn⟩
  obtain ⟨⟨rb', n1, n2⟩, n3⟩ := hn
  refine ⟨h.bel.trans (n3.below h.bel.size (fun x hx => (h3 x (by simp [hx])).1)), ⟨H, M, rb', n1, fun x hx => ?_⟩, fun x hx => ⟨(h.lt x hx).1, Nat.lt_of_lt_of_le (h.lt x hx).2 n3.size⟩⟩
  rcases List.mem_cons.1 hx with e | hx
  · subst e
    exact h3 _ (by simp)
  · rcases plB_nx n2 x hx with hx | hx
    · exact h3 x (by simp [hx])
    · refine ⟨Nat.le_trans h.bel.size hx, fun hX => ?_⟩
      have := (h.lt x hX).2
      omega
/-- Blocks of other types are none of theirs. -/
theorem One.keepT {K : List Nat} (h : One w0 w X a S) (k : But K w w') (hK : ∀ x ∈ K, w0.heap.size ≤ x ∧ ∃ t cs, Box w x t cs ∧ t ≠ 54 ∧ t ≠ 59 ∧ t ≠ 61) : One w0 w' X a S := by
  obtain ⟨H, M, rb, ht, h3⟩ := h.body
  refine ⟨h.bel.trans (k.below h.bel.size (fun x hx => (hK x hx).1)), ⟨H, M, rb, ?_, h3⟩, fun x hx => ⟨(h.lt x hx).1, Nat.lt_of_lt_of_le (h.lt x hx).2 k.size⟩⟩
  refine ht.keep k (fun hx => ?_) (fun x hx hx' => ?_)
  · obtain ⟨_, t, cs, hb, h1, _⟩ := hK a hx
    exact box_ne hb ht.box h1 rfl
  · obtain ⟨_, t, cs, hb, _, h2, h3⟩ := hK x hx'
    obtain ⟨L, hp, _⟩ := ht.body
    obtain ⟨A, c, f, hbh, hr, hm, _⟩ := hp.body
    simp only [plB, List.mem_cons, Option.mem_toList] at hx
    rcases hx with e | e | hx
    · subst e
      exact box_ne hb hbh h2 rfl
    · subst e
      exact hm.ne hb rfl
    · obtain ⟨cs', hx⟩ := hr.box x hx
      exact box_ne hb hx h3 rfl
end
section
variable (w0 w : World)
theorem one_new (hb : Hid (Below w0.heap.size w0 w)) : Calls Try.prog 8 #[] w fun e w' => ∃ T, e = .returned (.pointer (some ⟨T, 0, none⟩)) ∧ Hid (One w0 w' [] T []) := by
  refine (new_any w).mono ?_
  rintro e w' ⟨T, H, M, rfl, ht, h1, h2, h3, hB⟩
  refine ⟨T, rfl, hb.out.trans (hB.out.mono hb.out.size), ⟨H, M, none, ht.out, fun x hx => ?_⟩, by simp⟩
  have := hb.out.size
  simp [plB] at hx ⊢
  omega
variable {X : List Nat} {a : Nat} {S S' : List Tm}
theorem one_set {id d er : Int} (h : Hid (One w0 w X a S)) (ho : Hid (okI id ∧ okI d)) (he : Hid (setE id S = er)) (hs : Hid (setS id d S = S')) :
    Calls Try.prog 9 #[.pointer (some ⟨a, 0, none⟩), .int .i64 id, .int .i64 d] w fun e w' => e = .returned (.int .i64 er) ∧ Hid (One w0 w' X a S') ∧ Hid (Fr X w w') := by
  obtain ⟨H, M, rb, h1, h3⟩ := h.out.body
  refine (set_any w h1 ho).mono ?_
  rintro e w' ⟨rfl, hn⟩
  rw [he.out]
  rw [hs.out] at hn
  have := one_nx h.out h1 h3 hn.out
  exact ⟨rfl, this.1, this.2⟩
theorem one_cancel {id : Int} {v : Bool} (h : Hid (One w0 w X a S)) (ho : Hid (okI id)) (he : Hid (has id S = v)) (hs : Hid (rem id S = S')) :
    Calls Try.prog 11 #[.pointer (some ⟨a, 0, none⟩), .int .i64 id] w fun e w' => e = .returned (.bool v) ∧ Hid (One w0 w' X a S') ∧ Hid (Fr X w w') := by
  obtain ⟨H, M, rb, h1, h3⟩ := h.out.body
  refine (cancel_any w h1 ho).mono ?_
  rintro e w' ⟨rfl, hn⟩
  rw [he.out]
  rw [hs.out] at hn
  have := one_nx h.out h1 h3 hn.out
  exact ⟨rfl, this.1, this.2⟩
theorem one_due {now : Int} {l : List Int} (h : Hid (One w0 w X a S)) (he : Hid (ids (dueP now S) = l)) (hs : Hid (dueS now S = S')) :
    Calls Try.prog 14 #[.pointer (some ⟨a, 0, none⟩), .int .i64 now] w fun e w' => ∃ A n c, e = .returned (.slice A n c) ∧ Hid (w'.ownsRow w0.heap.size 3 1 (.slice A n c) n (iv l)) ∧ Hid (One w0 w' X a S') ∧ Hid (Fr X w w') := by
  obtain ⟨H, M, rb, h1, h3⟩ := h.out.body
  refine (due_any w h1).mono ?_
  rintro e w' ⟨A, n, c, rfl, ho, hn⟩
  rw [he.out] at ho
  rw [hs.out] at hn
  have := one_nx h.out h1 h3 hn.out
  have ho' := ho.out
  exact ⟨A, n, c, rfl, hid ⟨ho'.1, ho'.2.imp id fun ⟨g, cap, cur, e1, e2, e3⟩ => ⟨g, cap, cur, e1, Nat.le_trans h.out.bel.size e2, e3⟩⟩, this.1, this.2⟩
theorem one_len {n : Nat} (hn : Hid (S.length = n)) (h : Hid (One w0 w X a S)) : Calls Try.prog 17 #[.pointer (some ⟨a, 0, none⟩)] w fun e w' => e = .returned (.int .i64 n) ∧ w' = w := by
  obtain ⟨H, M, rb, h1, _⟩ := h.out.body
  exact len_any w hn h1
theorem one_next_none (h : Hid (One w0 w X a [])) : Calls Try.prog 16 #[.pointer (some ⟨a, 0, none⟩)] w fun e w' => e = .returned (.tuple #[.int .i64 0, .int .i64 0, .bool false]) ∧ Hid (But [] w w') := by
  obtain ⟨H, M, rb, h1, _⟩ := h.out.body
  exact next_none w h1
theorem one_next_some {s : Tm} (h : Hid (One w0 w X a (s :: S))) : Calls Try.prog 16 #[.pointer (some ⟨a, 0, none⟩)] w fun e w' => e = .returned (.tuple #[.int .i64 s.1, .int .i64 s.2, .bool true]) ∧ Hid (But [] w w') := by
  obtain ⟨H, M, rb, h1, _⟩ := h.out.body
  exact next_some w h1
end
/-- What is told is in order, due, and known. -/
theorem due_split (now : Int) (S : List Tm) : dueP now S ++ dueS now S = S := List.takeWhile_append_dropWhile
theorem due_at {now : Int} {S : List Tm} : ∀ x ∈ dueP now S, x.2 ≤ now := by
  induction S with
  | nil => intro x hx; cases hx
  | cons s r ih =>
    intro x hx
    unfold dueP at hx ih
    rw [List.takeWhile_cons] at hx
    split at hx
    · rename_i hs
      rcases List.mem_cons.1 hx with e | hx
      · rw [e]
        simpa using hs
      · exact ih x hx
    · cases hx
theorem due_rest {now : Int} {S : List Tm} (h : srt S) : ∀ x ∈ dueS now S, now < x.2 := by
  induction S with
  | nil => intro x hx; cases hx
  | cons s r ih =>
    obtain ⟨h1, h2⟩ := List.pairwise_cons.1 h
    intro x hx
    unfold dueS at hx ih
    rw [List.dropWhile_cons] at hx
    split at hx
    · exact ih h2 x hx
    · rename_i hs
      have hs' : now < s.2 := by simpa using hs
      rcases List.mem_cons.1 hx with e | hx
      · rw [e]
        exact hs'
      · have := h1 x hx
        unfold lt at this
        split at this <;> simp at this <;> omega
end Go.Proofs.Ytdcohhfbifiemaa
