import Derived.Test.YtdcohhfbifiemaaKT
namespace Go.Proofs.Ytdcohhfbifiemaa
open Go.RowKit Go.Maps

/-- What a step of timers leaves: all blocks of other types, and those of X. -/
def Fr (X : List Nat) (w w' : World) : Prop := ∃ K, But K w w' ∧ (∀ x ∈ K, x ∉ X) ∧ ∀ x ∈ K, ∀ t cs, Box w x t cs → t = 59 ∨ t = 61
section
variable {X : List Nat} {w w' : World}
theorem Fr.box (h : Fr X w w') {g : Nat} {t : TypeId} {cs : Array Value} (hb : Box w g t cs) (h1 : t ≠ 59) (h2 : t ≠ 61) : Box w' g t cs := by
  obtain ⟨K, k, _, ht⟩ := h
  exact k.box hb (fun hx => (ht g hx t cs hb).elim h1 h2)
theorem Fr.own (h : Fr X w w') {base size n : Nat} {e : TypeId} {v : Value} {xs : List Value} (ho : w.ownsRow base e size v n xs) (h1 : e ≠ 59) (h2 : e ≠ 61) : w'.ownsRow base e size v n xs := by
  obtain ⟨K, k, _, ht⟩ := h
  refine k.own ho (fun g hg hx => ?_)
  obtain ⟨_, cs, hb⟩ := own_box ho g hg
  exact (ht g hx e cs hb).elim h1 h2
theorem Fr.mp (h : Fr X w w') {e : TypeId} {M n : Nat} {f : Int → Option Int} (hm : Mp w e M n f) (hX : M ∈ X) : Mp w' e M n f := by
  obtain ⟨K, k, hn, _⟩ := h
  exact hm.keep k (fun hx => hn M hx hX)
theorem Fr.of_but (k : But [] w w') : Fr X w w' := ⟨[], k, by simp, by simp⟩
theorem fr_nx {T H M : Nat} {rb : Option Nat} {S S' : List Tm} (ht : Tr w T H M rb S) (hX : ∀ x ∈ plB H M rb, x ∉ X) (h : Nx w w' T H M rb S') : Fr X w w' := by
  refine ⟨plB H M rb, h.2, hX, fun x hx t cs hb => ?_⟩
  obtain ⟨L, hp, _⟩ := ht.body
  obtain ⟨A, c, f, hbh, hr, hm, _⟩ := hp.body
  simp only [plB, List.mem_cons, Option.mem_toList] at hx
  rcases hx with e | e | hx
  · subst e
    exact .inl (Classical.byContradiction fun hne => box_ne hb hbh hne rfl)
  · subst e
    exact absurd rfl (hm.ne hb)
  · obtain ⟨cs', hx⟩ := hr.box x hx
    exact .inr (Classical.byContradiction fun hne => box_ne hb hx hne rfl)
end
/-- Two timers, made behind w0; X: blocks that are none of theirs. -/
structure Two (w0 w : World) (X : List Nat) (a b : Nat) (S R : List Tm) : Prop where
  bel : Below w0.heap.size w0 w
  body : ∃ Ha Ma ra Hb Mb rb, Tr w a Ha Ma ra S ∧ Tr w b Hb Mb rb R ∧ (∀ x ∈ a :: plB Ha Ma ra, w0.heap.size ≤ x ∧ x ∉ X ∧ x ∉ b :: plB Hb Mb rb) ∧ (∀ x ∈ b :: plB Hb Mb rb, w0.heap.size ≤ x ∧ x ∉ X)
  lt : ∀ x ∈ X, w0.heap.size ≤ x ∧ x < w.heap.size
section
variable {w0 w w' : World} {X : List Nat} {a b : Nat} {S R S' R' : List Tm}
theorem Two.symm (h : Two w0 w X a b S R) : Two w0 w X b a R S := by
  obtain ⟨Ha, Ma, ra, Hb, Mb, rb, h1, h2, h3, h4⟩ := h.body
  exact ⟨h.bel, ⟨Hb, Mb, rb, Ha, Ma, ra, h2, h1, fun x hx => ⟨(h4 x hx).1, (h4 x hx).2, fun hx' => (h3 x hx').2.2 hx⟩, fun x hx => ⟨(h3 x hx).1, (h3 x hx).2.1⟩⟩, h.lt⟩
theorem Two.srt (h : Two w0 w X a b S R) : srt S ∧ nd S ∧ S.length ≤ 256 := by
  obtain ⟨Ha, Ma, ra, Hb, Mb, rb, h1, _⟩ := h.body
  exact ⟨h1.srt, h1.nd, h1.cnt⟩
theorem Two.keep {K : List Nat} (h : Two w0 w X a b S R) (k : But K w w') (hK : ∀ x ∈ K, x ∈ X) : Two w0 w' X a b S R := by
  obtain ⟨Ha, Ma, ra, Hb, Mb, rb, h1, h2, h3, h4⟩ := h.body
  refine ⟨h.bel.trans (k.below h.bel.size (fun x hx => (h.lt x (hK x hx)).1)), ⟨Ha, Ma, ra, Hb, Mb, rb, ?_, ?_, h3, h4⟩, fun x hx => ⟨(h.lt x hx).1, Nat.lt_of_lt_of_le (h.lt x hx).2 k.size⟩⟩
  · exact h1.keep k (fun hx => (h3 a (by simp)).2.1 (hK a hx)) (fun x hx hx' => (h3 x (by simp [hx])).2.1 (hK x hx'))
  · exact h2.keep k (fun hx => (h4 b (by simp)).2 (hK b hx)) (fun x hx hx' => (h4 x (by simp [hx])).2 (hK x hx'))
theorem Two.keep0 (h : Two w0 w X a b S R) (k : But [] w w') : Two w0 w' X a b S R := h.keep k (by simp)
/-- A block that was laid behind them is none of theirs. -/
theorem Two.add (h : Two w0 w X a b S R) (k : But [] w w') {x : Nat} (h1 : w.heap.size ≤ x) (h2 : x < w'.heap.size) : Two w0 w' (x :: X) a b S R := by
  have h' := h.keep0 k
  obtain ⟨Ha, Ma, ra, Hb, Mb, rb, t1, t2, h3, h4⟩ := h.body
  have l1 := t1.lt
  have l2 := t2.lt
  refine ⟨h'.bel, ⟨Ha, Ma, ra, Hb, Mb, rb, t1.keep0 k, t2.keep0 k, fun y hy => ⟨(h3 y hy).1, fun hx => ?_, (h3 y hy).2.2⟩, fun y hy => ⟨(h4 y hy).1, fun hx => ?_⟩⟩, fun y hy => ?_⟩
  · rcases List.mem_cons.1 hx with e | hx
    · have : y < w.heap.size := by
        rcases List.mem_cons.1 hy with e | hy
        · rw [e]; exact l1.1
        · exact l1.2 y hy
      omega
    · exact (h3 y hy).2.1 hx
  · rcases List.mem_cons.1 hx with e | hx
    · have : y < w.heap.size := by
        rcases List.mem_cons.1 hy with e | hy
        · rw [e]; exact l2.1
        · exact l2.2 y hy
      omega
    · exact (h4 y hy).2 hx
  · rcases List.mem_cons.1 hy with e | hy
    · rw [e]
      exact ⟨Nat.le_trans h.bel.size h1, h2⟩
    · exact h'.lt y hy
theorem two_nx {Ha Ma Hb Mb : Nat} {ra rb : Option Nat} (h : Two w0 w X a b S R) (h1 : Tr w a Ha Ma ra S) (h2 : Tr w b Hb Mb rb R) (h3 : ∀ x ∈ a :: plB Ha Ma ra, w0.heap.size ≤ x ∧ x ∉ X ∧ x ∉ b :: plB Hb Mb rb) (h4 : ∀ x ∈ b :: plB Hb Mb rb, w0.heap.size ≤ x ∧ x ∉ X)
    (hn : Nx w w' a Ha Ma ra S') : Two w0 w' X a b S' R ∧ Fr X w w' := by
  refine ⟨?_, fr_nx h1 (fun x hx => (h3 x (by simp [hx])).2.1) hn⟩
  obtain ⟨⟨ra', n1, n2⟩, n3⟩ := hn
  have l2 := h2.lt
  refine ⟨h.bel.trans (n3.below h.bel.size (fun x hx => (h3 x (by simp [hx])).1)), ⟨Ha, Ma, ra', Hb, Mb, rb, n1, h2.keep n3 (fun hx => (h3 b (by simp [hx])).2.2 (by simp)) (fun x hx hx' => (h3 x (by simp [hx'])).2.2 (by simp [hx])), fun x hx => ?_, h4⟩, fun x hx => ⟨(h.lt x hx).1, Nat.lt_of_lt_of_le (h.lt x hx).2 n3.size⟩⟩
  rcases List.mem_cons.1 hx with e | hx
  · subst e
    exact h3 _ (by simp)
  · rcases plB_nx n2 x hx with hx | hx
    · exact h3 x (by simp [hx])
    · refine ⟨Nat.le_trans h.bel.size hx, fun hX => ?_, fun hb => ?_⟩
      · have := (h.lt x hX).2
        omega
      · rcases List.mem_cons.1 hb with e | hb
        · have := l2.1
          omega
        · have := l2.2 x hb
          omega
end
section
variable (w0 w : World)
theorem two_new (hb : Hid (Below w0.heap.size w0 w)) : Calls Try.prog 8 #[] w fun e w' => ∃ T, e = .returned (.pointer (some ⟨T, 0, none⟩)) ∧ Hid (w.heap.size ≤ T ∧ (∃ H M, w.heap.size ≤ H ∧ w.heap.size ≤ M ∧ Tr w' T H M none []) ∧ Below w0.heap.size w0 w' ∧ But [] w w') := by
  refine (new_any w).mono ?_
  rintro e w' ⟨T, H, M, rfl, ht, h1, h2, h3, hB⟩
  exact ⟨T, rfl, h1, ⟨H, M, h2, h3, ht.out⟩, hb.out.trans (hB.out.mono hb.out.size), But.of_below hB.out []⟩
theorem two_made {w1 w2 : World} {a b : Nat} (h1 : Hid (w.heap.size ≤ a ∧ (∃ H M, w.heap.size ≤ H ∧ w.heap.size ≤ M ∧ Tr w1 a H M none []) ∧ Below w0.heap.size w0 w1 ∧ But [] w w1)) (hw : w0.heap.size ≤ w.heap.size)
    (h2 : Hid (w1.heap.size ≤ b ∧ (∃ H M, w1.heap.size ≤ H ∧ w1.heap.size ≤ M ∧ Tr w2 b H M none []) ∧ Below w0.heap.size w0 w2 ∧ But [] w1 w2)) : Two w0 w2 [] a b [] [] := by
  obtain ⟨a1, ⟨Ha, Ma, a2, a3, ta⟩, _, _⟩ := h1.out
  obtain ⟨b1, ⟨Hb, Mb, b2, b3, tb⟩, b4, b5⟩ := h2.out
  have la := ta.lt
  have l1 := la.1
  have l2 := la.2 Ha (by simp [plB])
  have l3 := la.2 Ma (by simp [plB])
  refine ⟨b4, ⟨Ha, Ma, none, Hb, Mb, none, ta.keep0 b5, tb, fun x hx => ?_, fun x hx => ?_⟩, by simp⟩
  · simp [plB] at hx ⊢
    omega
  · have := b5.size
    simp [plB] at hx ⊢
    omega
variable {X : List Nat} {a b : Nat} {S R S' R' : List Tm}
theorem two_set_a {id d er : Int} (h : Hid (Two w0 w X a b S R)) (ho : Hid (okI id ∧ okI d)) (he : Hid (setE id S = er)) (hs : Hid (setS id d S = S')) :
    Calls Try.prog 9 #[.pointer (some ⟨a, 0, none⟩), .int .i64 id, .int .i64 d] w fun e w' => e = .returned (.int .i64 er) ∧ Hid (Two w0 w' X a b S' R) ∧ Hid (Fr X w w') := by
  obtain ⟨Ha, Ma, ra, Hb, Mb, rb, h1, h2, h3, h4⟩ := h.out.body
  refine (set_any w h1 ho).mono ?_
  rintro e w' ⟨rfl, hn⟩
  rw [he.out]
  rw [hs.out] at hn
  have := two_nx h.out h1 h2 h3 h4 hn.out
  exact ⟨rfl, this.1, this.2⟩
theorem two_set_b {id d er : Int} (h : Hid (Two w0 w X a b S R)) (ho : Hid (okI id ∧ okI d)) (he : Hid (setE id R = er)) (hs : Hid (setS id d R = R')) :
    Calls Try.prog 9 #[.pointer (some ⟨b, 0, none⟩), .int .i64 id, .int .i64 d] w fun e w' => e = .returned (.int .i64 er) ∧ Hid (Two w0 w' X a b S R') ∧ Hid (Fr X w w') := by
  refine (two_set_a w0 w (hid h.out.symm) ho he hs).mono ?_
  rintro e w' ⟨rfl, h1, h2⟩
  exact ⟨rfl, h1.out.symm, h2⟩
theorem two_cancel_b {id : Int} {v : Bool} (h : Hid (Two w0 w X a b S R)) (ho : Hid (okI id)) (he : Hid (has id R = v)) (hs : Hid (rem id R = R')) :
    Calls Try.prog 11 #[.pointer (some ⟨b, 0, none⟩), .int .i64 id] w fun e w' => e = .returned (.bool v) ∧ Hid (Two w0 w' X a b S R') ∧ Hid (Fr X w w') := by
  have hh := h.out.symm
  obtain ⟨Ha, Ma, ra, Hb, Mb, rb, h1, h2, h3, h4⟩ := hh.body
  refine (cancel_any w h1 ho).mono ?_
  rintro e w' ⟨rfl, hn⟩
  rw [he.out]
  rw [hs.out] at hn
  have := two_nx hh h1 h2 h3 h4 hn.out
  exact ⟨rfl, this.1.symm, this.2⟩
theorem two_due_a {now : Int} {l : List Int} (h : Hid (Two w0 w X a b S R)) (he : Hid (ids (dueP now S) = l)) (hs : Hid (dueS now S = S')) :
    Calls Try.prog 14 #[.pointer (some ⟨a, 0, none⟩), .int .i64 now] w fun e w' => ∃ A n c, e = .returned (.slice A n c) ∧ Hid (w'.ownsRow w0.heap.size 3 1 (.slice A n c) n (iv l)) ∧ Hid (Two w0 w' X a b S' R) ∧ Hid (Fr X w w') := by
  obtain ⟨Ha, Ma, ra, Hb, Mb, rb, h1, h2, h3, h4⟩ := h.out.body
  refine (due_any w h1).mono ?_
  rintro e w' ⟨A, n, c, rfl, ho, hn⟩
  rw [he.out] at ho
  rw [hs.out] at hn
  have := two_nx h.out h1 h2 h3 h4 hn.out
  have ho' := ho.out
  exact ⟨A, n, c, rfl, hid ⟨ho'.1, ho'.2.imp id fun ⟨g, cap, cur, e1, e2, e3⟩ => ⟨g, cap, cur, e1, Nat.le_trans h.out.bel.size e2, e3⟩⟩, this.1, this.2⟩
theorem two_due_b {now : Int} {l : List Int} (h : Hid (Two w0 w X a b S R)) (he : Hid (ids (dueP now R) = l)) (hs : Hid (dueS now R = R')) :
    Calls Try.prog 14 #[.pointer (some ⟨b, 0, none⟩), .int .i64 now] w fun e w' => ∃ A n c, e = .returned (.slice A n c) ∧ Hid (w'.ownsRow w0.heap.size 3 1 (.slice A n c) n (iv l)) ∧ Hid (Two w0 w' X a b S R') ∧ Hid (Fr X w w') := by
  refine (two_due_a w0 w (hid h.out.symm) he hs).mono ?_
  rintro e w' ⟨A, n, c, rfl, ho, h1, h2⟩
  exact ⟨A, n, c, rfl, ho, h1.out.symm, h2⟩
theorem two_len_a {n : Nat} (hn : Hid (S.length = n)) (h : Hid (Two w0 w X a b S R)) : Calls Try.prog 17 #[.pointer (some ⟨a, 0, none⟩)] w fun e w' => e = .returned (.int .i64 n) ∧ w' = w := by
  obtain ⟨Ha, Ma, ra, Hb, Mb, rb, h1, _⟩ := h.out.body
  exact len_any w hn h1
theorem two_len_b {n : Nat} (hn : Hid (R.length = n)) (h : Hid (Two w0 w X a b S R)) : Calls Try.prog 17 #[.pointer (some ⟨b, 0, none⟩)] w fun e w' => e = .returned (.int .i64 n) ∧ w' = w := two_len_a w0 w hn (hid h.out.symm)
/-- Ints of two rows. -/
theorem ints_rows {base n n2 c c2 : Nat} {A A2 : Option Addr} {l : List Int} (h1 : Hid (w.ownsRow base 3 1 (.slice A n c) n (iv l))) (h2 : Hid (w.ownsRow base 3 1 (.slice A2 n2 c2) n2 (iv l))) (hl : l.length ≤ 1000000) :
    Calls Try.prog 13 #[.slice A n c, .slice A2 n2 c2] w fun e w' => e = .returned (.bool true) ∧ Hid (But [] w w') := by
  have e1 := own_len h1.out
  have e2 := own_len h2.out
  refine (ints_n w (hid (Lies.own h1.out)) (hid (Lies.own h2.out)) (hid e1) (hid e2) (by omega) (by omega)).mono ?_
  rintro e w' ⟨rfl, k⟩
  exact ⟨by simp, k⟩
end
end Go.Proofs.Ytdcohhfbifiemaa
