import Derived.Test.YtdplngplljejhaaDoorMC
namespace Go.Proofs.YtdplngplljejhaaDoor
open Go.RowKit

/-- The cells of fields whose texts nothing turns. -/
def FlatK (w : World) (base : Nat) : List Fd → List Value → Prop
  | [], cs => cs = []
  | f :: fs, cs => ∃ tA tc r, cs = .int .i64 f.kind :: .int .u32 f.n :: .slice tA f.text.length tc :: .slice none 0 0 :: r ∧ f.list = [] ∧ TK w base tA tc f.text ∧ FlatK w base fs r
theorem FlatK.kept {w w' : World} {base : Nat} {T : List TypeId} (k : Kept base T w w') (h5 : 5 ∉ T) : ∀ (fs : List Fd) (cs : List Value), FlatK w base fs cs → FlatK w' base fs cs
  | [], _, h => h
  | _ :: fs, _, ⟨tA, tc, r, e, h0, h1, h3⟩ => ⟨tA, tc, r, e, h0, h1.kept k h5, FlatK.kept k h5 fs r h3⟩
theorem FlatK.snoc {w : World} {base : Nat} {f : Fd} {tA : Option Addr} {tc : Nat} (h1 : TK w base tA tc f.text) (h2 : f.list = []) :
    ∀ (fs : List Fd) (cs : List Value), FlatK w base fs cs → FlatK w base (fs ++ [f]) (cs ++ [.int .i64 f.kind, .int .u32 f.n, .slice tA f.text.length tc, .slice none 0 0])
  | [], _, h => by
    have h : _ = [] := h
    subst h
    exact ⟨tA, tc, [], rfl, h2, h1, rfl⟩
  | _ :: fs, _, ⟨tA', tc', r, e, g0, g1, g3⟩ => ⟨tA', tc', _, by rw [e]; rfl, g0, g1, FlatK.snoc h1 h2 fs r g3⟩
theorem FlatK.length {w : World} {base : Nat} : ∀ (fs : List Fd) (cs : List Value), FlatK w base fs cs → cs.length = fs.length * 4
  | [], _, h => by
    have h : _ = [] := h
    subst h; rfl
  | _ :: fs, _, ⟨tA', tc', r, e, g0, g1, g3⟩ => by
    have := FlatK.length fs r g3
    subst e
    simp only [List.length_cons, this]
    omega
theorem flatK_at {w : World} {base : Nat} : ∀ (fs : List Fd) (cs : List Value), FlatK w base fs cs → ∀ k (h : k < fs.length), ∃ tA tc, cs[k * 4]? = some (.int .i64 fs[k].kind) ∧ cs[k * 4 + 1]? = some (.int .u32 fs[k].n) ∧
    cs[k * 4 + 2]? = some (.slice tA fs[k].text.length tc) ∧ cs[k * 4 + 3]? = some (.slice none 0 0) ∧ fs[k].list = [] ∧ TK w base tA tc fs[k].text
  | [], _, _, k, h => by simp at h
  | f :: fs, _, ⟨tA, tc, r, e, h0, h1, h3⟩, k, h => by
    subst e
    cases k with
    | zero => exact ⟨tA, tc, rfl, rfl, rfl, rfl, h0, h1⟩
    | succ k =>
      obtain ⟨a, b, g0, g1, g2, g3, g4, g5⟩ := flatK_at fs r h3 k (by simpa using h)
      refine ⟨a, b, ?_, ?_, ?_, ?_, g4, g5⟩
      · simpa [Nat.add_mul] using g0
      · simpa [Nat.add_mul, Nat.add_right_comm] using g1
      · simpa [Nat.add_mul, Nat.add_right_comm] using g2
      · simpa [Nat.add_mul, Nat.add_right_comm] using g3

end Go.Proofs.YtdplngplljejhaaDoor
