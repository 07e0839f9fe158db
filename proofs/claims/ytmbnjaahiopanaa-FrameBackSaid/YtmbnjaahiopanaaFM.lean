import Derived.Test.YtmbnjaahiopanaaFL
namespace Go.Proofs.Ytmbnjaahiopanaa
open Go.RowKit

/-- What Feed hands back. -/
structure FedK (W w2 : World) (ps : List (List UInt8)) (left : List UInt8) (A : Option Addr) (m c : Nat) (LA : Option Addr) (k lc : Nat) : Prop where
  lenp : ps.length = k
  lenl : left.length = m
  more : ∃ M cs, W.heap.size ≤ M ∧ M ≤ w2.heap.size ∧ w2.ownsRow M 5 1 (.slice A m c) m (bv left) ∧ w2.ownsRow W.heap.size 22 1 (.slice LA k lc) k cs ∧ PL w2 W.heap.size ps cs ∧ (∀ v ∈ cs, ∀ g, v.ownBlock = some g → g < M)
  bel : Below W.heap.size W w2
theorem FedK.slb {W w2 : World} {ps : List (List UInt8)} {left : List UInt8} {A LA : Option Addr} {m c k lc : Nat} (h : FedK W w2 ps left A m c LA k lc) : SlB w2 w2.heap.size A c left := by
  obtain ⟨M, cs, _, _, h3, _⟩ := h.more
  rw [← h.lenl] at h3
  exact own_slb (n := 0) h3
theorem FedK.lis {W w2 : World} {ps : List (List UInt8)} {left : List UInt8} {A LA : Option Addr} {m c k lc : Nat} (h : FedK W w2 ps left A m c LA k lc) : LisV w2 w2.heap.size LA ps := by
  obtain ⟨M, cs, _, _, _, h4, h5, _⟩ := h.more
  exact h5.lis h4
theorem feed_n (W : World) (B : Nat) (FA A : Option Addr) (fc c fn n k m : Nat) (fb b : List UInt8) (bad bd : Bool) (ps : List (List UInt8)) (left : List UInt8) (er : Int) (hX : Hid (feedX bad (fb ++ b) = (ps, left, er))) (hf : Hid (SlB W B FA fc fb)) (hb : Hid (SlB W B A c b)) (hB : Hid (B ≤ W.heap.size))
    (hfn : Hid (fb.length = fn)) (hn : Hid (b.length = n)) (hl : fn + n ≤ 900000) (hk : Hid (ps.length = k)) (hm : Hid (left.length = m)) (hbd : Hid (decide (er ≠ 0) = bd)) :
    Calls Try.prog 14 #[.agg #[.slice FA fn fc, .bool bad], .slice A n c] W fun e w2 => ∃ A1 c1 LA lc, e = .returned (.tuple #[.agg #[.slice A1 m c1, .bool bd], .slice LA k lc, .int .i64 er]) ∧ Hid (FedK W w2 ps left A1 m c1 LA k lc) := by
  have h1 := hfn.out
  have h2 := hn.out
  subst h1; subst h2
  refine (feed_any W B FA A fc c fb b bad hf.out hb.out hB.out hl).mono ?_
  rw [hX.out]
  rintro e w2 ⟨A1, c1, LA, lc, cs, M, rfl, h1, h2, h3, h4, h5, h6, h7⟩
  refine ⟨A1, c1, LA, lc, ?_, hk.out, hm.out, ⟨M, cs, h1, h2, ?_, ?_, h5, h6⟩, h7⟩
  · rw [hk.out, hm.out, hbd.out]
  · rw [← hm.out]; exact h3
  · rw [← hk.out]; exact h4

theorem lit_slb (W : World) (bs : List UInt8) (fr : Nat × Nat) (g n : Nat) (hg : W.heap.size = g) (hn : bs.length = n) (hm : n ≤ maxLen) : SlB (W.alloc (.cells (bv bs).toArray 5 fr)) (g + 1) (some ⟨g, 0, none⟩) n bs := by
  subst hg; subst hn
  refine ⟨Nat.le_refl _, hm, by simp, ?_⟩
  have h := lit_lies W (bv bs).toArray 5 fr W.heap.size rfl
  simpa using h
theorem slb_nil (w : World) (B : Nat) : SlB w B none 0 [] := ⟨Nat.le_refl _, Nat.zero_le _, fun _ => rfl, Lies.nil_⟩
theorem SlB.lit {w : World} {A : Option Addr} {c : Nat} {bs : List UInt8} (h : SlB w w.heap.size A c bs) (o : Obj) : SlB (w.alloc o) (w.heap.size + 1) A c bs := (h.below ((Below.refl _ _).alloc (Nat.le_refl _) _)).more (Nat.le_succ _)
theorem feed_lit (W : World) (g : Nat) (FA : Option Addr) (fc fn n k m : Nat) (fb b : List UInt8) (cs : Array Value) (bd : Bool) (ps : List (List UInt8)) (left : List UInt8) (er : Int) (hcs : Hid (cs = (bv b).toArray)) (hg : Hid (W.heap.size = g)) (hX : Hid (feedF (fb ++ b) = (ps, left, er))) (hf : Hid (SlB W W.heap.size FA fc fb))
    (hfn : Hid (fb.length = fn)) (hn : Hid (b.length = n)) (hl : fn + n ≤ 900000) (hk : Hid (ps.length = k)) (hm : Hid (left.length = m)) (hbd : Hid (decide (er ≠ 0) = bd)) :
    Calls Try.prog 14 #[.agg #[.slice FA fn fc, .bool false], .slice (some ⟨g, 0, none⟩) n n] (W.alloc (.cells cs 5)) fun e w2 => ∃ A1 c1 LA lc, e = .returned (.tuple #[.agg #[.slice A1 m c1, .bool bd], .slice LA k lc, .int .i64 er]) ∧ Hid (FedK (W.alloc (.cells cs 5)) w2 ps left A1 m c1 LA k lc) := by
  have h1 := hcs.out
  subst h1
  have h2 := hg.out
  subst h2
  exact feed_n (W.alloc (.cells (bv b).toArray 5)) (W.heap.size + 1) FA (some ⟨W.heap.size, 0, none⟩) fc n fn n k m fb b false bd ps left er hX (hid (hf.out.lit _)) (hid (lit_slb W b _ _ n rfl hn.out (by unfold maxLen; omega))) (hid (by simp)) hfn hn hl hk hm hbd

theorem exP : putF [97, 98] = (0, [0, 0, 0, 2, 97, 98]) := by decide
theorem nx0 : nextF [0, 0, 0, 2, 97] = (0, 3) := by decide
theorem nx1 : nextF [0, 0, 0, 2, 97, 98, 0] = (6, 0) := by decide
theorem nx2 : nextF [0] = (0, 3) := by decide
theorem nx3 : nextF [0, 0, 0, 0] = (0, 5) := by decide
theorem exF1 : feedF ([] ++ [0, 0, 0, 2, 97]) = ([], [0, 0, 0, 2, 97], 0) := feedF_short nx0
theorem exF2 : feedF ([0, 0, 0, 2, 97] ++ [98, 0]) = ([[97, 98]], [0], 0) := by
  show feedF [0, 0, 0, 2, 97, 98, 0] = _
  rw [feedF_next nx1]
  show ([97, 98] :: (feedF [0]).1, (feedF [0]).2) = _
  rw [feedF_short nx2]
theorem exF3 : feedF ([] ++ [0, 0, 0, 0]) = ([], [], 5) := feedF_bad nx3

theorem put_n (W : World) (B : Nat) (A : Option Addr) (c n m : Nat) (p bs : List UInt8) (er : Int) (hX : Hid (putF p = (er, bs))) (hp : Hid (SlB W B A c p)) (hB : Hid (B ≤ W.heap.size)) (hn : Hid (p.length = n)) (hl : n ≤ maxLen) (hm : Hid (bs.length = m)) :
    Calls Try.prog 10 #[.slice A n c] W fun e w2 => ∃ A1 c1, e = .returned (.tuple #[.slice A1 m c1, .int .i64 er]) ∧ Hid (w2.ownsRow W.heap.size 5 1 (.slice A1 m c1) m (bv bs)) ∧ Hid (Below W.heap.size W w2) := by
  have h1 := hn.out
  subst h1
  refine (put_any W B A c p hp.out hB.out hl).mono ?_
  rw [hX.out]
  rintro e w2 ⟨A1, c1, rfl, h2, h3⟩
  refine ⟨A1, c1, ?_, ?_, h3⟩
  · rw [hm.out]
  · rw [← hm.out]; exact h2
theorem alive_p (w : World) : Calls Try.prog 10 #[.slice (some ⟨w.heap.size, 0, none⟩) 2 2] (w.alloc (.cells #[.int .u8 97, .int .u8 98] 5 (2, 3))) fun e w2 => ∃ A1 c1, e = .returned (.tuple #[.slice A1 6 c1, .int .i64 0]) ∧ Hid (Lies w2 w2.heap.size A1 (bv [0, 0, 0, 2, 97, 98])) ∧ Hid (Below w.heap.size w w2) := by
  refine (put_n (w.alloc (.cells (bv [97, 98]).toArray 5 (2, 3))) (w.heap.size + 1) (some ⟨w.heap.size, 0, none⟩) 2 2 6 [97, 98] [0, 0, 0, 2, 97, 98] 0 (hid exP) (hid (lit_slb w [97, 98] _ _ 2 rfl rfl (by unfold maxLen; omega))) (hid (by simp)) (hid rfl) (by unfold maxLen; omega) (hid rfl)).mono ?_
  rintro e w2 ⟨A1, c1, rfl, h2, h3⟩
  exact ⟨A1, c1, rfl, Lies.own h2.out, ((Below.refl _ _).alloc (Nat.le_refl _) _).trans (h3.out.mono (by simp))⟩
theorem alive_b (W : World) (fr : Nat × Nat) (g : Nat) (A : Option Addr) (c n : Nat) (bs : List UInt8) (cs : Array Value) (hcs : Hid (cs = (bv bs).toArray)) (hg : Hid (W.heap.size = g)) (hn : Hid (bs.length = n)) (hl : n ≤ maxLen) (h : Hid (Lies W W.heap.size A (bv bs))) :
    Calls Try.prog 12 #[.slice A n c, .slice (some ⟨g, 0, none⟩) n n] (W.alloc (.cells cs 5 fr)) fun e w2 => e = .returned (.bool true) ∧ Hid (Below W.heap.size W w2) := by
  have h1 := hcs.out
  subst h1
  have h2 := hg.out
  subst h2
  refine (bytes_n (W.alloc (.cells (bv bs).toArray 5 fr)) (W.heap.size + 1) (W.heap.size + 1) A (some ⟨W.heap.size, 0, none⟩) c n n n bs bs true (hid ((h.out.alloc (Nat.le_refl _) _).more (Nat.le_succ _))) (hid (lit_slb W bs fr _ n rfl hn.out hl).2.2.2) hn hn hl hl (hid (by simp))).mono ?_
  rintro e w2 ⟨d, rfl, rfl⟩
  exact ⟨rfl, bel_drewN ((Below.refl _ _).alloc (Nat.le_refl _) _) d⟩
end Go.Proofs.Ytmbnjaahiopanaa
