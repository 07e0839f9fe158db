import Derived.Test.YtoedhblihodgdaaDoorWN
import Derived.Test.YtoedhblihodgdaaDoorWT
namespace Go.Proofs.YtoedhblihodgdaaDoor
open Go.RowKit

/-- A right field of a number's range alone is written in as many bytes as it takes. -/
theorem size_ok {f : Fd} (hk : 1 ≤ f.kind ∧ f.kind ≤ 6) (hf : fault f = 0) (hl : (enc f).length ≤ 33792) : writeF [f] = (0, enc f) := by
  have h : okW [f] := ⟨by simp [kindsB, hk.1, hk.2], by simpa using hf, by simpa [encs] using hl⟩
  rw [writeF_ok h]
  simp [encs]

set_option maxHeartbeats 400000 in
set_option maxRecDepth 100000 in
theorem size_any (w : World) (B : Nat) (v : Value) (f : Fd) (hv : FdV w B v f) (hB : B ≤ w.heap.size) (er : Int) (bs : List UInt8) (hX : Hid (writeF [f] = (er, bs))) :
    Calls Tryd.prog 15 #[v] w fun e w' => e = .returned (.int .i64 bs.length) ∧ Hid (Below w.heap.size w w') := by
  obtain ⟨tA, tc, lA, lc, rfl, h1, h2, h3, h4, h5, h6, h7, h8⟩ := hv
  have hF : Hid (∀ o, FdsV ((w.alloc o).alloc (.cells #[.int .i64 f.kind, .int .u32 f.n, .slice tA f.text.length tc, .slice lA f.list.length lc] 37)) ((w.alloc o).alloc (.cells #[.int .i64 f.kind, .int .u32 f.n, .slice tA f.text.length tc, .slice lA f.list.length lc] 37)).heap.size (some ⟨w.heap.size + 1, 0, none⟩) [f]) := by
    intro o _
    have hc := fun i => lit_cell (w.alloc o) #[.int .i64 f.kind, .int .u32 f.n, .slice tA f.text.length tc, .slice lA f.list.length lc] 37 (0, 0) (w.heap.size + 1) i (by simp)
    have hb : Below B w ((w.alloc o).alloc (.cells #[.int .i64 f.kind, .int .u32 f.n, .slice tA f.text.length tc, .slice lA f.list.length lc] 37)) := ((Below.refl _ _).alloc hB _).alloc (by simp; omega) _
    refine ⟨w.heap.size + 1, 0, rfl, by simp, fun k hk => ?_⟩
    have hk0 : k = 0 := by simpa using hk
    subst hk0
    exact ⟨tA, tc, lA, lc, ⟨tA, tc, lA, lc, rfl, h1, h2, h3, h4, h5, (h6.below hb).more (by simp; omega), (h7.below hb).more (by simp; omega), h8⟩, hc 0, hc 1, hc 2, hc 3⟩
  clear h5 h6 h7 h8 h2
  go_enter Tryd.func15, Tryd.ntmps15
  go_wp2_with (
    go_at_call 11
    (with_reducible refine (write_n _ _ 1 1 [f] _ _ hX rfl (hid (hF.out _)) (Nat.le_refl 1) (by unfold maxLen; omega)).mono ?_)
    rintro e w3 ⟨A3, c3, rfl, HL3, HBx⟩
    have HBy : Hid (Below w.heap.size w w3) := (((Below.refl _ _).alloc (Nat.le_refl _) _).alloc (by simp) _).trans (HBx.out.mono (by simp; omega)))
  go_ret
  exact ⟨rfl, HBy⟩

/-- What a read answered lies as a slice of fields. -/
theorem flat_at {w : World} {base : Nat} : ∀ (fs : List Fd) (cs : List Value), FlatF w base fs cs → ∀ k (h : k < fs.length), ∃ tA tc lA lc, cs[k * 4]? = some (.int .i64 fs[k].kind) ∧ cs[k * 4 + 1]? = some (.int .u32 fs[k].n) ∧
    cs[k * 4 + 2]? = some (.slice tA fs[k].text.length tc) ∧ cs[k * 4 + 3]? = some (.slice lA fs[k].list.length lc) ∧ w.ownsRow base 5 1 (.slice tA fs[k].text.length tc) fs[k].text.length (bv fs[k].text) ∧ w.ownsRow base 9 1 (.slice lA fs[k].list.length lc) fs[k].list.length (sv fs[k].list)
  | [], _, _, k, h => by simp at h
  | f :: fs, _, ⟨tA, tc, lA, lc, r, e, h1, h2, h3⟩, k, h => by
    subst e
    cases k with
    | zero => exact ⟨tA, tc, lA, lc, rfl, rfl, rfl, rfl, h1, h2⟩
    | succ k =>
      obtain ⟨a, b, c, d, g0, g1, g2, g3, g4, g5⟩ := flat_at fs r h3 k (by simpa using h)
      refine ⟨a, b, c, d, ?_, ?_, ?_, ?_, g4, g5⟩
      · simpa [Nat.add_mul] using g0
      · simpa [Nat.add_mul, Nat.add_right_comm] using g1
      · simpa [Nat.add_mul, Nat.add_right_comm] using g2
      · simpa [Nat.add_mul, Nat.add_right_comm] using g3
theorem own_caps {w : World} {base : Nat} {e : TypeId} {size n c : Nat} {A : Option Addr} {xs : List Value} (h : w.ownsRow base e size (.slice A n c) n xs) : n ≤ c ∧ c ≤ maxLen := by
  rcases h.2 with ⟨hv, h0⟩ | ⟨g, cap, cur, hv, _, _, h1, h2, _⟩
  · injection hv with _ _ hc
    subst hc; subst h0
    exact ⟨Nat.le_refl _, Nat.zero_le _⟩
  · injection hv with _ _ hc
    subst hc
    exact ⟨h1, h2⟩
def Wf (f : Fd) : Prop := f.n < 4294967296 ∧ (-9223372036854775808 ≤ f.kind ∧ f.kind ≤ 9223372036854775807) ∧ ∀ s ∈ f.list, s.size ≤ maxLen
theorem flat_fds {w : World} {base c : Nat} {A : Option Addr} {fs : List Fd} {cs : List Value} (ho : w.ownsRow base 37 4 (.slice A fs.length c) fs.length cs) (hf : FlatF w base fs cs) (hw : ∀ f ∈ fs, Wf f) : FdsV w w.heap.size A fs := by
  intro hne
  have hl := hf.length
  have h0 : cs ≠ [] := by
    intro e
    rw [e] at hl
    have : fs.length ≠ 0 := fun h => hne (List.eq_nil_of_length_eq_zero h)
    simp at hl; omega
  obtain ⟨b, o, rfl, hb, hc⟩ := Lies.own ho h0
  refine ⟨b, o, rfl, hb, fun k hk => ?_⟩
  obtain ⟨tA, tc, lA, lc, g0, g1, g2, g3, g4, g5⟩ := flat_at fs cs hf k hk
  obtain ⟨w1, w2, w3⟩ := hw fs[k] (List.getElem_mem hk)
  have t := own_caps g4
  have l := own_caps g5
  refine ⟨tA, tc, lA, lc, ⟨tA, tc, lA, lc, rfl, w1, w2, Nat.le_trans t.1 t.2, Nat.le_trans l.1 l.2, ⟨t.1, l.1⟩, Lies.own g4, Lies.own g5, w3⟩, hc _ _ g0, ?_, ?_, ?_⟩
  · rw [Nat.add_assoc]; exact hc _ _ g1
  · rw [Nat.add_assoc]; exact hc _ _ g2
  · rw [Nat.add_assoc]; exact hc _ _ g3
end Go.Proofs.YtoedhblihodgdaaDoor
