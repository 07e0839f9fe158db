import Derived.Test.YtmbnjaahiopanaaFN
namespace Go.Proofs.Ytmbnjaahiopanaa
open Go.RowKit

theorem alive_h (W : World) : Calls Try.prog 8 #[] W fun e w2 => e = .returned (.bool true) ∧ Hid (Below W.heap.size W w2) := alive_any W
theorem great_w (W : World) (A : Option Addr) (c n : Nat) (ls : List (List UInt8)) (b : Bool) (hl : Hid (LisV W W.heap.size A ls)) (hn : Hid (ls.length = n)) (hm : n ≤ maxLen) (hs : Hid (∀ b ∈ ls, b.length ≤ maxLen)) (hb : Hid (great ls = b)) :
    Calls Try.prog 9 #[.slice A n c] W fun e w' => e = .returned (.bool b) ∧ W = w' := by
  have h1 := hn.out
  subst h1
  have h2 := hb.out
  subst h2
  exact great_any W _ A c ls hl.out hm hs.out
theorem lisV_one {w : World} {B : Nat} {A : Option Addr} {c : Nat} {xs : List UInt8} (h1 : SlB w B A c xs) (hB : B ≤ w.heap.size) :
    LisV (w.alloc (.cells #[.slice A xs.length c] 22)) (w.heap.size + 1) (some ⟨w.heap.size, 0, none⟩) [xs] := fun _ => by
  have hb : Below B w (w.alloc (.cells #[.slice A xs.length c] 22)) := (Below.refl _ _).alloc hB _
  have hc := fun i => (Box.new w 22 #[.slice A xs.length c]).cell i
  refine ⟨w.heap.size, 0, rfl, by simp, fun k hk => ?_⟩
  have hk2 : k < 1 := hk
  have h3 : k = 0 := by omega
  subst h3
  exact ⟨A, c, hc 0, (h1.below hb).more (by omega)⟩
theorem lisV_three {w : World} {B : Nat} {A A2 A3 : Option Addr} {c c2 c3 : Nat} {xs ys zs : List UInt8} (h1 : SlB w B A c xs) (h2 : SlB w B A2 c2 ys) (h3 : SlB w B A3 c3 zs) (hB : B ≤ w.heap.size) :
    LisV (w.alloc (.cells #[.slice A xs.length c, .slice A2 ys.length c2, .slice A3 zs.length c3] 22)) (w.heap.size + 1) (some ⟨w.heap.size, 0, none⟩) [xs, ys, zs] := fun _ => by
  have hb : Below B w (w.alloc (.cells #[.slice A xs.length c, .slice A2 ys.length c2, .slice A3 zs.length c3] 22)) := (Below.refl _ _).alloc hB _
  have hc := fun i => (Box.new w 22 #[.slice A xs.length c, .slice A2 ys.length c2, .slice A3 zs.length c3]).cell i
  refine ⟨w.heap.size, 0, rfl, by simp, fun k hk => ?_⟩
  have hk2 : k < 3 := hk
  have h4 : k = 0 ∨ k = 1 ∨ k = 2 := by omega
  rcases h4 with rfl | rfl | rfl
  · exact ⟨A, c, hc 0, (h1.below hb).more (by omega)⟩
  · exact ⟨A2, c2, hc 1, (h2.below hb).more (by omega)⟩
  · exact ⟨A3, c3, hc 2, (h3.below hb).more (by omega)⟩
theorem great_1 (W : World) (g : Nat) (hg : W.heap.size = g) (A : Option Addr) (c n : Nat) (xs : List UInt8) (b : Bool) (h : Hid (SlB W W.heap.size A c xs)) (hn : Hid (xs.length = n)) (hb : Hid (great [xs] = b)) :
    Calls Try.prog 9 #[.slice (some ⟨g, 0, none⟩) 1 1] (W.alloc (.cells #[.slice A n c] 22)) fun e w' => e = .returned (.bool b) ∧ Hid (Below W.heap.size W w') := by
  have h1 := hn.out
  subst h1; subst hg
  refine (great_w (W.alloc (.cells #[.slice A xs.length c] 22)) (some ⟨W.heap.size, 0, none⟩) 1 1 [xs] b (hid ((lisV_one h.out (Nat.le_refl _)).more (by simp))) (hid rfl) (by unfold maxLen; omega) (hid (fun p hp => by
    have := h.out.1; have := h.out.2.1
    simp only [List.mem_cons, List.mem_nil_iff, or_false] at hp
    subst hp; omega)) hb).mono ?_
  rintro e w' ⟨rfl, rfl⟩
  exact ⟨rfl, (Below.refl _ _).alloc (Nat.le_refl _) _⟩
theorem great_2 (W : World) (g : Nat) (hg : W.heap.size = g) (A A2 : Option Addr) (c c2 n n2 : Nat) (xs ys : List UInt8) (b : Bool) (h : Hid (SlB W W.heap.size A c xs)) (h2 : Hid (SlB W W.heap.size A2 c2 ys)) (hn : Hid (xs.length = n)) (hn2 : Hid (ys.length = n2)) (hb : Hid (great [xs, ys] = b)) :
    Calls Try.prog 9 #[.slice (some ⟨g, 0, none⟩) 2 2] (W.alloc (.cells #[.slice A n c, .slice A2 n2 c2] 22)) fun e w' => e = .returned (.bool b) ∧ Hid (Below W.heap.size W w') := by
  have h1 := hn.out
  have h3 := hn2.out
  subst h1; subst h3; subst hg
  refine (great_w (W.alloc (.cells #[.slice A xs.length c, .slice A2 ys.length c2] 22)) (some ⟨W.heap.size, 0, none⟩) 2 2 [xs, ys] b (hid ((lisV_two h.out h2.out (Nat.le_refl _)).more (by simp))) (hid rfl) (by unfold maxLen; omega) (hid (fun p hp => by
    have := h.out.1; have := h.out.2.1; have := h2.out.1; have := h2.out.2.1
    simp only [List.mem_cons, List.mem_nil_iff, or_false] at hp
    rcases hp with rfl | rfl <;> omega)) hb).mono ?_
  rintro e w' ⟨rfl, rfl⟩
  exact ⟨rfl, (Below.refl _ _).alloc (Nat.le_refl _) _⟩
theorem great_3 (W : World) (g : Nat) (hg : W.heap.size = g) (A A2 A3 : Option Addr) (c c2 c3 n n2 n3 : Nat) (xs ys zs : List UInt8) (b : Bool) (h : Hid (SlB W W.heap.size A c xs)) (h2 : Hid (SlB W W.heap.size A2 c2 ys)) (h3 : Hid (SlB W W.heap.size A3 c3 zs)) (hn : Hid (xs.length = n)) (hn2 : Hid (ys.length = n2)) (hn3 : Hid (zs.length = n3)) (hb : Hid (great [xs, ys, zs] = b)) :
    Calls Try.prog 9 #[.slice (some ⟨g, 0, none⟩) 3 3] (W.alloc (.cells #[.slice A n c, .slice A2 n2 c2, .slice A3 n3 c3] 22)) fun e w' => e = .returned (.bool b) ∧ Hid (Below W.heap.size W w') := by
  have h1 := hn.out
  have h4 := hn2.out
  have h5 := hn3.out
  subst h1; subst h4; subst h5; subst hg
  refine (great_w (W.alloc (.cells #[.slice A xs.length c, .slice A2 ys.length c2, .slice A3 zs.length c3] 22)) (some ⟨W.heap.size, 0, none⟩) 3 3 [xs, ys, zs] b (hid ((lisV_three h.out h2.out h3.out (Nat.le_refl _)).more (by simp))) (hid rfl) (by unfold maxLen; omega) (hid (fun p hp => by
    have := h.out.1; have := h.out.2.1; have := h2.out.1; have := h2.out.2.1; have := h3.out.1; have := h3.out.2.1
    simp only [List.mem_cons, List.mem_nil_iff, or_false] at hp
    rcases hp with rfl | rfl | rfl <;> omega)) hb).mono ?_
  rintro e w' ⟨rfl, rfl⟩
  exact ⟨rfl, (Below.refl _ _).alloc (Nat.le_refl _) _⟩

theorem rput_n (W : World) (B : Nat) (A : Option Addr) (c n m : Nat) (p bs : List UInt8) (er : Int) (hX : Hid (putF p = (er, bs))) (hp : Hid (SlB W B A c p)) (hB : Hid (B ≤ W.heap.size)) (hn : Hid (p.length = n)) (hl : n ≤ maxLen) (hm : Hid (bs.length = m)) :
    Calls Try.prog 11 #[.slice A n c] W fun e w2 => ∃ A1 c1, e = .returned (.tuple #[.slice A1 m c1, .int .i64 er]) ∧ Hid (w2.ownsRow W.heap.size 5 1 (.slice A1 m c1) m (bv bs)) ∧ Hid (Below W.heap.size W w2) := by
  have h1 := hn.out
  subst h1
  refine (rput_any W B A c p hp.out hB.out hl).mono ?_
  rw [hX.out]
  rintro e w2 ⟨A1, c1, rfl, h2, h3⟩
  refine ⟨A1, c1, ?_, ?_, h3⟩
  · rw [hm.out]
  · rw [← hm.out]; exact h2
theorem putF_len (p : List UInt8) : (putF p).2.length ≤ 33796 := by
  unfold putF
  split
  · simp
  · rename_i h
    rw [List.length_append, four_length]
    omega
theorem great_one {p : List UInt8} (h : great [p] = false) : p.length ≤ 200000 := by
  simp [great] at h
  omega
theorem bytes_t (W : World) (A A2 : Option Addr) (c c2 n : Nat) (bs : List UInt8) (h1 : Hid (Lies W W.heap.size A (bv bs))) (h2 : Hid (Lies W W.heap.size A2 (bv bs))) (hn : Hid (bs.length = n)) (hl : n ≤ 1000000) :
    Calls Try.prog 12 #[.slice A n c, .slice A2 n c2] W fun e w' => e = .returned (.bool true) ∧ Hid (Below W.heap.size W w') := by
  refine (bytes_n W _ _ A A2 c c2 n n bs bs true h1 h2 hn hn (by unfold maxLen; omega) (by unfold maxLen; omega) (hid (by simp))).mono ?_
  rintro e w2 ⟨d, rfl, rfl⟩
  exact ⟨rfl, bel_drewN (Below.refl _ _) d⟩
end Go.Proofs.Ytmbnjaahiopanaa
