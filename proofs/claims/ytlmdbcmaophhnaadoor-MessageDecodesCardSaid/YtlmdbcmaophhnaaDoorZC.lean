import Derived.Test.YtlmdbcmaophhnaaDoorZB
namespace Go.Proofs.YtlmdbcmaophhnaaDoor
open Go.RowKit

/-- What the document's taking of a field answers. -/
def TakeQ (k : Int) (left : List UInt8) (w : World) (e : Ending) (w' : World) : Prop :=
  ∃ (f : Fd) (n : Nat) (tA lA : Option Addr) (tc lc : Nat), e = .returned (.tuple #[.agg #[.int .i64 k, .int .u32 f.n, .slice tA f.text.length tc, .slice lA f.list.length lc], .int .i64 n, .int .i64 (getF k left).1]) ∧ Below w.heap.size w w' ∧
    ((getF k left).1 = 0 → f = { (getF k left).2.1 with kind := k } ∧ n ≤ left.length ∧ (getF k left).2.2 = left.drop n ∧ w'.ownsRow w.heap.size 5 1 (.slice tA f.text.length tc) f.text.length (bv f.text) ∧ w'.ownsRow w.heap.size 9 1 (.slice lA f.list.length lc) f.list.length (sv f.list))
theorem takeQ_bad {k er : Int} {left : List UInt8} {w w' : World} (h : (getF k left).1 = er) (h0 : er ≠ 0) (m n : Nat) (hb : Below w.heap.size w w') :
    TakeQ k left w (.returned (.tuple #[.agg #[.int .i64 k, .int .u32 m, .slice none 0 0, .slice none 0 0], .int .i64 n, .int .i64 er])) w' :=
  ⟨⟨k, m, [], []⟩, n, none, none, 0, 0, by rw [h]; rfl, hb, fun h1 => absurd (h.symm.trans h1) h0⟩
theorem namesF_spl {left tx rs : List UInt8} (h : textF left = (0, tx, rs)) : (namesF left).1 = (splF tx).1 ∧ ((splF tx).1 = 0 → namesF left = (0, ⟨0, 0, [], (splF tx).2⟩, rs)) := by
  unfold namesF splF
  rw [h]
  simp only [if_true]
  by_cases h0 : tx = []
  · simp [h0, zf]
  · simp only [if_neg h0]
    by_cases h1 : 64 < (spl tx).length
    · simp [h1]
    · simp only [if_neg h1]
      by_cases h2 : (spl tx).all nameOk = true
      · simp [h2]
      · simp [h2]

set_option maxHeartbeats 2000000 in
set_option maxRecDepth 100000 in
theorem rtake1 (w : World) (A : Option Addr) (c : Nat) (left : List UInt8) (hb : Lies w w.heap.size A (bv left)) (hl : left.length ≤ 1000000) :
    Calls Tryd.prog 38 #[.int .i64 1, .slice A left.length c] w (TakeQ 1 left w) := by
  have hbo : ∀ o o2, Below w.heap.size w ((w.alloc o).alloc o2) := fun o o2 => ((Below.refl _ _).alloc (Nat.le_refl _) _).alloc (by simp) _
  have HBO := hid hbo
  clear hbo
  cases left with
  | nil =>
    have HE : Hid ((getF 1 []).1 = 3) := rfl
    have hl0 : ([] : List UInt8).length = 0 := rfl
    rw [hl0]
    clear hb hl hl0
    go_enter Tryd.func38, Tryd.ntmps38
    go_wp2
    refine bodyPost_ret (v := .tuple #[.agg #[.int .i64 1, .int .u32 0, .slice none 0 0, .slice none 0 0], .int .i64 0, .int .i64 3]) (by simp [results, Tryd.results38, go_sem]) rfl ?_
    exact takeQ_bad HE.out (by decide) 0 0 (HBO.out _ _)
  | cons a r =>
    obtain ⟨b, o, rfl, hbb, hcells⟩ := hb (by simp [bv])
    have c0 : w.cell? ⟨b, o, none⟩ = some (.int .u8 a.toNat) := hcells 0 _ rfl
    clear hcells hb
    have ha : a.toNat < 256 := a.toNat_lt
    have hlen : (a :: r).length = r.length + 1 := rfl
    rw [hlen] at hl ⊢
    clear hlen
    have t1 : decide (((r.length : Int) + 1) < 1) = false := by simp; omega
    have t2 : (0 : Int) < (r.length : Int) + 1 := by omega
    go_enter Tryd.func38, Tryd.ntmps38
    go_wp2
    refine bodyPost_ret (v := .tuple #[.agg #[.int .i64 1, .int .u32 a.toNat, .slice none 0 0, .slice none 0 0], .int .i64 1, .int .i64 0]) (by simp [results, Tryd.results38, go_sem]) rfl ?_
    refine ⟨⟨1, a.toNat, [], []⟩, 1, none, none, 0, 0, rfl, HBO.out _ _, fun _ => ⟨?_, by simp, rfl, World.ownsRow_nil _ _ _ _, World.ownsRow_nil _ _ _ _⟩⟩
    rfl

set_option maxHeartbeats 2000000 in
set_option maxRecDepth 100000 in
theorem rtake2 (w : World) (A : Option Addr) (c : Nat) (left : List UInt8) (hb : Lies w w.heap.size A (bv left)) (hl : left.length ≤ 1000000) :
    Calls Tryd.prog 38 #[.int .i64 2, .slice A left.length c] w (TakeQ 2 left w) := by
  have hbo : ∀ o o2, Below w.heap.size w ((w.alloc o).alloc o2) := fun o o2 => ((Below.refl _ _).alloc (Nat.le_refl _) _).alloc (by simp) _
  have HBO := hid hbo
  clear hbo
  cases left with
  | nil =>
    have HE : Hid ((getF 2 []).1 = 3) := rfl
    have hl0 : ([] : List UInt8).length = 0 := rfl
    rw [hl0]
    clear hb hl hl0
    go_enter Tryd.func38, Tryd.ntmps38
    go_wp2
    refine bodyPost_ret (v := .tuple #[.agg #[.int .i64 2, .int .u32 0, .slice none 0 0, .slice none 0 0], .int .i64 0, .int .i64 3]) (by simp [results, Tryd.results38, go_sem]) rfl ?_
    exact takeQ_bad HE.out (by decide) 0 0 (HBO.out _ _)
  | cons a r =>
    obtain ⟨b, o, rfl, hbb, hcells⟩ := hb (by simp [bv])
    have c0 : w.cell? ⟨b, o, none⟩ = some (.int .u8 a.toNat) := hcells 0 _ rfl
    clear hcells hb
    have ha : a.toNat < 256 := a.toNat_lt
    have hlen : (a :: r).length = r.length + 1 := rfl
    rw [hlen] at hl ⊢
    clear hlen
    have t1 : decide (((r.length : Int) + 1) < 1) = false := by simp; omega
    have t2 : (0 : Int) < (r.length : Int) + 1 := by omega
    obtain ⟨m, HM⟩ : ∃ m, Hid (min a.toNat 1 = m) := ⟨_, rfl⟩
    have hm : min (a.toNat : Int) 1 = m := by have := HM.out; omega
    go_enter Tryd.func38, Tryd.ntmps38
    go_wp2
    refine bodyPost_ret (v := .tuple #[.agg #[.int .i64 2, .int .u32 m, .slice none 0 0, .slice none 0 0], .int .i64 1, .int .i64 0]) (by simp [results, Tryd.results38, go_sem]) rfl ?_
    refine ⟨⟨2, m, [], []⟩, 1, none, none, 0, 0, rfl, HBO.out _ _, fun _ => ⟨?_, by simp, rfl, World.ownsRow_nil _ _ _ _, World.ownsRow_nil _ _ _ _⟩⟩
    rw [← HM.out]; rfl

end Go.Proofs.YtlmdbcmaophhnaaDoor
