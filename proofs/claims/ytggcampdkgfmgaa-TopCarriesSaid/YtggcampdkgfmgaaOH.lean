import Derived.Test.YtggcampdkgfmgaaOG
namespace Go.Proofs.Ytggcampdkgfmgaa.F2
open Go.RowKit

theorem nextF_zero {s : List UInt8} (h : (nextF s).2 = 0) : (nextF s).1 = 4 + num4 s ∧ 1 ≤ num4 s ∧ num4 s ≤ 33792 ∧ 4 + num4 s ≤ s.length := by
  unfold nextF at h ⊢
  split at h
  · simp at h
  · split at h
    · simp at h
    · split at h
      · simp at h
      · rename_i h1 h2 h3
        rw [if_neg h1, if_neg h2, if_neg h3]
        refine ⟨rfl, ?_, ?_, ?_⟩ <;> omega
theorem nextF_else {s : List UInt8} (h : (nextF s).2 ≠ 0) : nextF s = (0, 3) ∨ nextF s = (0, 5) := by
  unfold nextF at h ⊢
  split
  · exact .inl rfl
  · split
    · exact .inr rfl
    · split
      · exact .inl rfl
      · rename_i h1 h2 h3
        rw [if_neg h1, if_neg h2, if_neg h3] at h
        exact absurd rfl h

/-- What comes of a stream: the payloads, what is left, the error. -/
def feedF (s : List UInt8) : List (List UInt8) × List UInt8 × Int :=
  if h : (nextF s).2 = 0 then
    let r := feedF (s.drop (nextF s).1)
    ((s.take (nextF s).1).drop 4 :: r.1, r.2)
  else if (nextF s).2 = 3 then ([], s, 0) else ([], [], (nextF s).2)
termination_by s.length
decreasing_by
  have := nextF_zero h
  rw [List.length_drop]
  omega
theorem feedF_next {s : List UInt8} {n : Nat} (h : nextF s = (n, 0)) : feedF s = ((s.take n).drop 4 :: (feedF (s.drop n)).1, (feedF (s.drop n)).2) := by
  rw [feedF, dif_pos (by rw [h]), h]
theorem feedF_short {s : List UInt8} {n : Nat} (h : nextF s = (n, 3)) : feedF s = ([], s, 0) := by
  rw [feedF, dif_neg (by rw [h]; simp), if_pos (by rw [h])]
theorem feedF_bad {s : List UInt8} {n : Nat} (h : nextF s = (n, 5)) : feedF s = ([], [], 5) := by
  rw [feedF, dif_neg (by rw [h]; simp), if_neg (by rw [h]; simp), h]
/-- What a framer that may be bad makes of a stream. -/
def feedX (bad : Bool) (s : List UInt8) : List (List UInt8) × List UInt8 × Int := if bad then ([], [], 9) else feedF s

def FedR (w : World) (x : List (List UInt8) × List UInt8 × Int) (e : Ending) (w' : World) : Prop :=
  ∃ A c LA lc cs M, e = .returned (.tuple #[.agg #[.slice A x.2.1.length c, .bool (decide (x.2.2 ≠ 0))], .slice LA x.1.length lc, .int .i64 x.2.2]) ∧ w.heap.size ≤ M ∧ M ≤ w'.heap.size ∧
    w'.ownsRow M 5 1 (.slice A x.2.1.length c) x.2.1.length (bv x.2.1) ∧ w'.ownsRow w.heap.size 27 1 (.slice LA x.1.length lc) x.1.length cs ∧ PL w' w.heap.size x.1 cs ∧
    (∀ v ∈ cs, ∀ g, v.ownBlock = some g → g < M) ∧ Below w.heap.size w w'

theorem lisV_two {w : World} {B : Nat} {A A2 : Option Addr} {c c2 : Nat} {xs ys : List UInt8} (h1 : SlB w B A c xs) (h2 : SlB w B A2 c2 ys) (hB : B ≤ w.heap.size) :
    LisV (w.alloc (.cells #[.slice A xs.length c, .slice A2 ys.length c2] 27)) (w.heap.size + 1) (some ⟨w.heap.size, 0, none⟩) [xs, ys] := fun _ => by
  have hb : Below B w (w.alloc (.cells #[.slice A xs.length c, .slice A2 ys.length c2] 27)) := (Below.refl _ _).alloc hB _
  have hc := fun i => (Box.new w 27 #[.slice A xs.length c, .slice A2 ys.length c2]).cell i
  refine ⟨w.heap.size, 0, rfl, by simp, fun k hk => ?_⟩
  have hk2 : k < 2 := hk
  have h3 : k = 0 ∨ k = 1 := by omega
  rcases h3 with rfl | rfl
  · exact ⟨A, c, hc 0, (h1.below hb).more (by omega)⟩
  · exact ⟨A2, c2, hc 1, (h2.below hb).more (by omega)⟩
theorem concat_two (w : World) (B : Nat) (A A2 : Option Addr) (c c2 n n2 N : Nat) (xs ys : List UInt8) (h1 : Hid (SlB w B A c xs)) (h2 : Hid (SlB w B A2 c2 ys)) (hB : B ≤ w.heap.size) (hn : xs.length = n) (hn2 : ys.length = n2) (hN : (xs ++ ys).length = N) (hl : N ≤ 1000000) :
    Calls Try.prog 26 #[.slice (some ⟨w.heap.size, 0, none⟩) 2 2] (w.alloc (.cells #[.slice A n c, .slice A2 n2 c2] 27)) fun e w' => ∃ A' c', e = .returned (.slice A' N c') ∧ Hid (w'.ownsRow w.heap.size 5 1 (.slice A' N c') N (bv (xs ++ ys))) ∧ Hid (Below w.heap.size w w') := by
  subst hn; subst hn2; subst hN
  have hf : [xs, ys].flatten = xs ++ ys := by simp
  refine (concat_any _ (w.heap.size + 1) (some ⟨w.heap.size, 0, none⟩) 2 [xs, ys] (lisV_two h1.out h2.out hB) (by simp) (by simp) (by rw [hf]; exact hl)).mono ?_
  rw [hf]
  rintro e w2 ⟨A1, c1, rfl, ho, hb⟩
  exact ⟨A1, c1, rfl, own_mono ho (by simp), ((Below.refl _ _).alloc (Nat.le_refl _) _).trans (hb.mono (by simp))⟩

/-- A slice of bytes that stays, whatever is done to lists. -/
def ST (w : World) (M : Nat) (A : Option Addr) (c : Nat) (left : List UInt8) : Prop := ∀ W', Kept 0 [78, 27] w W' → SlB W' M A c left
theorem ST.of_own {w : World} {base N c : Nat} {A : Option Addr} {s : List UInt8} (hn : s.length = N) (h : w.ownsRow base 5 1 (.slice A N c) N (bv s)) : ST w w.heap.size A c s := fun W' k => by
  subst hn
  have hs := own_slb (_n := 0) (k.own h (by decide))
  refine ⟨hs.1, hs.2.1, hs.2.2.1, fun hne => ?_⟩
  obtain ⟨b, o, e, hb, hc⟩ := hs.2.2.2 hne
  refine ⟨b, o, e, ?_, hc⟩
  subst e
  exact (h.lt b rfl).2
theorem ST.kept {w w' : World} {B M c : Nat} {A : Option Addr} {left : List UInt8} {T : List TypeId} (h : ST w M A c left) (k : Kept B T w w') (hT : ∀ t ∈ T, t ∈ [78, 27] := by decide) : ST w' M A c left := fun W' k' => h W' ((k.mono (Nat.zero_le _) hT).trans k')
theorem ST.now {w : World} {M c : Nat} {A : Option Addr} {left : List UInt8} (h : ST w M A c left) : SlB w M A c left := h w (Kept.refl _ _ _)
theorem ST.drop {w : World} {M c : Nat} {a : Addr} {left : List UInt8} (h : ST w M (some a) c left) (n : Nat) (hn : n ≤ left.length) : ST w M (some (if c = n then a else a.add n)) (c - n) (left.drop n) := fun W' k => (h W' k).drop n hn

/-- What Feed lays out at its start. -/
structure Laid (w w1 : World) (v0 : Value) (b : Bool) : Prop where
  fr : Box w1 w.heap.size 50 #[v0, .bool b]
  res : Box w1 (w.heap.size + 1) 50 #[.slice none 0 0, .bool false]
  came : Box w1 (w.heap.size + 2) 78 #[.slice none 0 0]
  bel : Below w.heap.size w w1
  size : w1.heap.size = w.heap.size + 3
theorem laid_mk (w : World) (v0 : Value) (b : Bool) : Laid w (((w.alloc (.cells #[v0, .bool b] 50)).alloc (.cells #[.slice none 0 0, .bool false] 50)).alloc (.cells #[.slice none 0 0] 78)) v0 b := by
  have h1 := Box.new w 50 #[v0, .bool b]
  have h2 := Box.new (w.alloc (.cells #[v0, .bool b] 50)) 50 #[.slice none 0 0, .bool false]
  have h3 := Box.new ((w.alloc (.cells #[v0, .bool b] 50)).alloc (.cells #[.slice none 0 0, .bool false] 50)) 78 #[.slice none 0 0]
  have e1 : (w.alloc (.cells #[v0, .bool b] 50)).heap.size = w.heap.size + 1 := by simp
  have e2 : ((w.alloc (.cells #[v0, .bool b] 50)).alloc (.cells #[.slice none 0 0, .bool false] 50)).heap.size = w.heap.size + 2 := by simp
  rw [e1] at h2
  rw [e2] at h3
  refine ⟨?_, ?_, h3, ?_, by simp⟩
  · exact box_below (box_below h1 ((Below.refl _ _).alloc (Nat.le_refl _) _)) ((Below.refl _ _).alloc (Nat.le_refl _) _)
  · exact box_below h2 ((Below.refl _ _).alloc (Nat.le_refl _) _)
  · exact (((Below.refl _ _).alloc (Nat.le_refl _) _).alloc (by rw [e1]; omega) _).alloc (by rw [e2]; omega) _
theorem concat_g (w : World) (B g : Nat) (A A2 : Option Addr) (c c2 n n2 N : Nat) (xs ys : List UInt8) (h1 : Hid (SlB w B A c xs)) (h2 : Hid (SlB w B A2 c2 ys)) (hB : Hid (B ≤ w.heap.size)) (hg : Hid (w.heap.size = g)) (hn : xs.length = n) (hn2 : ys.length = n2) (hN : Hid ((xs ++ ys).length = N)) (hl : N ≤ 1000000) :
    Calls Try.prog 26 #[.slice (some ⟨g, 0, none⟩) 2 2] (w.alloc (.cells #[.slice A n c, .slice A2 n2 c2] 27)) fun e w' => ∃ A' c', e = .returned (.slice A' N c') ∧ Hid (w'.ownsRow w.heap.size 5 1 (.slice A' N c') N (bv (xs ++ ys))) ∧ Hid (Below w.heap.size w w') := by
  have := hg.out
  subst this
  exact concat_two w B A A2 c c2 n n2 N xs ys h1 h2 hB.out hn hn2 hN.out hl
theorem came_nil {w : World} {base g : Nat} (hb : base ≤ g) (hx : Box w g 78 #[.slice none 0 0]) : Came w base g [] := ⟨hb, none, 0, [], hx, World.ownsRow_nil _ _ _ _, PL.nil_ _ _⟩

end Go.Proofs.Ytggcampdkgfmgaa.F2
