import Derived.Test.YtmbnjaahiopanaaFJ
namespace Go.Proofs.Ytmbnjaahiopanaa
open Go.RowKit

/-- Parts of bytes that stay whatever is done to lists, each in a cell of a list. -/
def RL (w : World) (M : Nat) (ps : List (List UInt8)) (cs : List Value) : Prop :=
  cs.length = ps.length ∧ ∀ k (h : k < ps.length), ∃ A c, cs[k]? = some (.slice A ps[k].length c) ∧ ST w M A c ps[k]
theorem RL.nil_ (w : World) (M : Nat) : RL w M [] [] := ⟨rfl, fun k h => by simp at h⟩
theorem RL.kept {w w' : World} {M B : Nat} {ps : List (List UInt8)} {cs : List Value} {T : List TypeId} (h : RL w M ps cs) (k : Kept B T w w') (hT : ∀ t ∈ T, t ∈ [54, 22, 39] := by decide) : RL w' M ps cs :=
  ⟨h.1, fun i hi => by obtain ⟨A, c, h1, h2⟩ := h.2 i hi; exact ⟨A, c, h1, h2.kept k hT⟩⟩
theorem RL.snoc {w : World} {M : Nat} {ps : List (List UInt8)} {cs : List Value} {p : List UInt8} {A : Option Addr} {c : Nat} (h : RL w M ps cs) (ho : ST w M A c p) :
    RL w M (ps ++ [p]) (cs ++ [.slice A p.length c]) := by
  refine ⟨by simp [h.1], fun k hk => ?_⟩
  by_cases hlt : k < ps.length
  · obtain ⟨A', c', h1, h2⟩ := h.2 k hlt
    refine ⟨A', c', ?_, ?_⟩
    · rw [List.getElem?_append_left (by rw [h.1]; exact hlt), List.getElem_append_left hlt]; exact h1
    · rw [List.getElem_append_left hlt]; exact h2
  · have hk' : k = ps.length := by simp at hk; omega
    subst hk'
    refine ⟨A, c, ?_, ?_⟩
    · rw [List.getElem_append_right (Nat.le_refl _)]
      rw [List.getElem?_append_right (by rw [h.1]; exact Nat.le_refl _), h.1]
      simp
    · rw [List.getElem_append_right (Nat.le_refl _)]
      simpa using ho
theorem lisV_own {w : World} {base k lc : Nat} {LA : Option Addr} {ps : List (List UInt8)} {cs : List Value} (ho : w.ownsRow base 22 1 (.slice LA k lc) k cs)
    (h : cs.length = ps.length ∧ ∀ k (h : k < ps.length), ∃ A c, cs[k]? = some (.slice A ps[k].length c) ∧ SlB w w.heap.size A c ps[k]) : LisV w w.heap.size LA ps := fun hne => by
  have hcn : cs ≠ [] := by
    intro e
    have := h.1
    rw [e] at this
    exact hne (List.eq_nil_of_length_eq_zero this.symm)
  obtain ⟨b, o, e, hb, hc⟩ := Lies.own ho hcn
  exact ⟨b, o, e, hb, fun k hk => by obtain ⟨A, c, h1, h2⟩ := h.2 k hk; exact ⟨A, c, hc k _ h1, h2⟩⟩
theorem RL.lis {w : World} {base k lc M : Nat} {LA : Option Addr} {ps : List (List UInt8)} {cs : List Value} (h : RL w M ps cs) (ho : w.ownsRow base 22 1 (.slice LA k lc) k cs) (hM : M ≤ w.heap.size) : LisV w w.heap.size LA ps :=
  lisV_own ho ⟨h.1, fun k hk => by obtain ⟨A, c, h1, h2⟩ := h.2 k hk; exact ⟨A, c, h1, h2.now.more hM⟩⟩
theorem PL.lis {w : World} {base base2 k lc : Nat} {LA : Option Addr} {ps : List (List UInt8)} {cs : List Value} (h : PL w base2 ps cs) (ho : w.ownsRow base 22 1 (.slice LA k lc) k cs) : LisV w w.heap.size LA ps :=
  lisV_own ho ⟨h.1, fun k hk => by obtain ⟨A, c, h1, h2⟩ := h.2 k hk; exact ⟨A, c, h1, own_slb (n := 0) h2⟩⟩

def RFedR (w : World) (x : List (List UInt8) × List UInt8 × Int) (e : Ending) (w' : World) : Prop :=
  ∃ A c LA lc, e = .returned (.tuple #[.agg #[.slice A x.2.1.length c, .bool (decide (x.2.2 ≠ 0))], .slice LA x.1.length lc, .int .i64 x.2.2]) ∧
    SlB w' w'.heap.size A c x.2.1 ∧ (∀ a, A = some a → w.heap.size ≤ a.block) ∧ LisV w' w'.heap.size LA x.1 ∧ Below w.heap.size w w'

theorem two_finT {B g : Nat} {t : TypeId} {w0 w : World} {v0 v1 u0 u1 : Value} (hb : Below B w0 w) (hg : B ≤ g) (hx : Box w g t #[v0, v1]) :
    Box ((w.setCell ⟨g, 0, none⟩ u0).setCell ⟨g, 1, none⟩ u1) g t #[u0, u1] ∧ Below B w0 ((w.setCell ⟨g, 0, none⟩ u0).setCell ⟨g, 1, none⟩ u1) ∧ Kept B [t] w ((w.setCell ⟨g, 0, none⟩ u0).setCell ⟨g, 1, none⟩ u1) := by
  have hx1 := hx.store 0 u0
  have hx2 := hx1.store 1 u1
  refine ⟨by simpa using hx2, (hb.setCell hg _).setCell hg _, ((Kept.refl B [t] w).store hx hg (by simp) u0).store hx1 hg (by simp) u1⟩

/-- What the document's Feed lays out at its start. -/
structure Laid2 (w w1 : World) (v0 : Value) (b : Bool) : Prop where
  fr : Box w1 w.heap.size 39 #[v0, .bool b]
  res : Box w1 (w.heap.size + 1) 39 #[.slice none 0 0, .bool false]
  bel : Below w.heap.size w w1
  size : w1.heap.size = w.heap.size + 2
theorem laid2_mk (w : World) (v0 : Value) (b : Bool) : Laid2 w ((w.alloc (.cells #[v0, .bool b] 39)).alloc (.cells #[.slice none 0 0, .bool false] 39)) v0 b := by
  have h1 := Box.new w 39 #[v0, .bool b]
  have h2 := Box.new (w.alloc (.cells #[v0, .bool b] 39)) 39 #[.slice none 0 0, .bool false]
  have e1 : (w.alloc (.cells #[v0, .bool b] 39)).heap.size = w.heap.size + 1 := by simp
  rw [e1] at h2
  refine ⟨?_, h2, ?_, by simp⟩
  · exact box_below h1 ((Below.refl _ _).alloc (Nat.le_refl _) _)
  · exact ((Below.refl _ _).alloc (Nat.le_refl _) _).alloc (by rw [e1]; omega) _

theorem number_n (w : World) (M : Nat) (A : Option Addr) (c n q : Nat) (s : List UInt8) (hq : Hid (num4 s = q)) (h : Hid (ST w M A c s)) (hn : Hid (s.length = n)) (h4 : 4 ≤ n) (hl : n ≤ 1000000) :
    Calls Try.prog 18 #[.slice A n c] w fun e w' => ∃ d, e = .returned (.int .u32 q) ∧ w' = w.drewN d := by
  have h1 := hn.out
  subst h1
  have h2 := hq.out
  subst h2
  refine (number_r w M A c s h.out.now.2.2.2 h4 hl).mono ?_
  rintro e w' ⟨rfl, d, rfl⟩
  exact ⟨d, rfl, rfl⟩
theorem ST.of_own2 {w : World} {base N c : Nat} {A : Option Addr} {s : List UInt8} (hn : s.length = N) (h : w.ownsRow base 5 1 (.slice A N c) N (bv s)) : ST w w.heap.size A c s ∧ ∀ a, A = some a → base ≤ a.block :=
  ⟨ST.of_own hn h, fun a e => by subst e; exact (h.lt a.block rfl).1⟩
theorem rfed_fin {w wr : World} {r n k cl lc M base : Nat} {done : List (List UInt8)} {left : List UInt8} {LA Al : Option Addr} {cs : List Value} {v0 v1 : Value} {er : Int} (hr : w.heap.size ≤ r) (hbw : Below w.heap.size w wr) (hx : Box wr r 39 #[v0, v1])
    (ho : wr.ownsRow base 22 1 (.slice LA k lc) k cs) (hp : RL wr M done cs) (hM : M ≤ wr.heap.size) (hk : done.length = k) (hn : left.length = n) (hst : ST wr M Al cl left)
    (hA : ∀ a, Al = some a → w.heap.size ≤ a.block) :
    RFedR w (done, left, er) (.returned (.tuple #[.agg #[.slice Al n cl, .bool (decide (er ≠ 0))], .slice LA k lc, .int .i64 er])) ((wr.setCell ⟨r, 0, none⟩ (.slice Al n cl)).setCell ⟨r, 1, none⟩ (.bool (decide (er ≠ 0)))) ∧
    Box ((wr.setCell ⟨r, 0, none⟩ (.slice Al n cl)).setCell ⟨r, 1, none⟩ (.bool (decide (er ≠ 0)))) r 39 #[.slice Al n cl, .bool (decide (er ≠ 0))] := by
  subst hk; subst hn
  obtain ⟨hx9, hb9, hk9⟩ := two_finT (u0 := .slice Al left.length cl) (u1 := .bool (decide (er ≠ 0))) hbw hr hx
  exact ⟨⟨Al, cl, LA, lc, rfl, (hst.kept hk9).now.more (Nat.le_trans hM hk9.size), hA, (hp.kept hk9).lis (hk9.own ho (by decide)) (Nat.le_trans hM hk9.size), hb9⟩, hx9⟩
end Go.Proofs.Ytmbnjaahiopanaa
