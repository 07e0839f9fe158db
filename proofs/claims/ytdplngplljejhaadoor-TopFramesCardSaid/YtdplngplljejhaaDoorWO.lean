import Derived.Test.YtdplngplljejhaaDoorWE
import Derived.ProofKit
import Derived.OpenShut
import Derived.SliceStrings
import Derived.Deep.Slices
import Derived.Deep.Fields
namespace Go.Proofs.YtdplngplljejhaaDoor
open Go.ChangeShapes Go.WideShapes Go.ChangeAt Go.RowKit Go.Deep

theorem cells5 : Tryd.prog.cellsOf 5 = 1 := by kernel_rfl
theorem cells9 : Tryd.prog.cellsOf 9 = 1 := by kernel_rfl
theorem cells3 : Tryd.prog.cellsOf 3 = 1 := by kernel_rfl
theorem cells37 : Tryd.prog.cellsOf 80 = 4 := by kernel_rfl
theorem cells34 : Tryd.prog.cellsOf 24 = 1 := by kernel_rfl
theorem cells26 : Tryd.prog.cellsOf 22 = 1 := by kernel_rfl
theorem cells35 : Tryd.prog.cellsOf 78 = 1 := by kernel_rfl
section
variable {H : Type} {enc : TypeId × Value → H} {w : World} {base : Nat} {spare : Nat → Bool} {held : Bool}

/-- A slice of bytes among what came in. -/
theorem bytes_open {fuel : Nat} {cs : List Value} {x : DataW H × List MemPlace} (h : DataW.trod enc Tryd.prog w base spare held fuel 22 cs = some x) :
    ∃ A c bs, cs = [.slice A bs.length c] ∧ bs.length ≤ c ∧ c ≤ maxLen ∧ (A = none → c = 0) ∧ Lies w w.heap.size A (bv bs) := by
  rcases open_ints Tryd.underlying22 Tryd.underlying5 cells5 h with ⟨rfl, _⟩ | ⟨a, len, cap, zs, rfl, _, hl, hm, hz, _, hcell, hwz⟩
  · exact ⟨none, 0, [], rfl, Nat.le_refl _, Nat.zero_le _, fun _ => rfl, Lies.nil_⟩
  · have hzl : len ≤ zs.length := by rw [hz]; split <;> omega
    refine ⟨some a, cap, (zs.take len).map fun z => UInt8.ofNat z.toNat, ?_, ?_, hm, by simp, ?_⟩
    · simp [Nat.min_eq_left hzl]
    · simp [Nat.min_eq_left hzl]; exact hl
    · intro hne
      have h0 : 0 < zs.length := by
        rcases Nat.eq_zero_or_pos zs.length with h | h
        · exfalso; apply hne; simp [bv, List.eq_nil_of_length_eq_zero h]
        · exact h
      have hb : a.block < w.heap.size := by
        have := World.block_lt_of_cell? w _ (hcell 0 h0)
        simpa [Addr.add] using this
      refine Lies.of_add hb (fun j u hu => ?_) hne
      have hj : j < len ∧ j < zs.length := by
        have := (List.getElem?_eq_some_iff.1 hu).1
        simp [bv] at this; omega
      rw [hcell j hj.2]
      have hw := hwz (zs[j]'hj.2) (List.getElem_mem _)
      have hr : 0 ≤ zs[j]'hj.2 ∧ zs[j]'hj.2 ≤ 255 := bounds_u8 hw
      simp only [bv, List.map_map, List.getElem?_map, List.getElem?_take, hj.1, if_true, List.getElem?_eq_getElem hj.2, Option.map_some, Function.comp] at hu
      rw [← hu]
      simp only [List.getD, List.getElem?_eq_getElem hj.2, Option.getD_some]
      congr 2
      simp
      omega

/-- A slice of texts among what came in. -/
theorem strs_open {fuel : Nat} {cs : List Value} {x : DataW H × List MemPlace} (h : DataW.trod enc Tryd.prog w base spare held fuel 78 cs = some x) :
    ∃ A c ss, cs = [.slice A ss.length c] ∧ ss.length ≤ c ∧ c ≤ maxLen ∧ (A = none → c = 0) ∧ Lies w w.heap.size A (sv ss) ∧ ∀ s ∈ ss, s.size ≤ maxLen := by
  rcases open_strings Tryd.underlying78 Tryd.underlying9 cells9 h with ⟨rfl, _⟩ | ⟨a, len, cap, ss, rfl, _, hl, hm, hz, _, hcell, hws⟩
  · exact ⟨none, 0, [], rfl, Nat.le_refl _, Nat.zero_le _, fun _ => rfl, Lies.nil_, fun s h => by cases h⟩
  · have hzl : len ≤ ss.length := by rw [hz]; split <;> omega
    refine ⟨some a, cap, ss.take len, ?_, ?_, hm, by simp, ?_, fun s hs => hws s (List.mem_of_mem_take hs)⟩
    · simp [Nat.min_eq_left hzl]
    · simp [Nat.min_eq_left hzl]; exact hl
    · intro hne
      have h0 : 0 < ss.length := by
        rcases Nat.eq_zero_or_pos ss.length with h | h
        · exfalso; apply hne; simp [sv, List.eq_nil_of_length_eq_zero h]
        · exact h
      have hb : a.block < w.heap.size := by
        have := World.block_lt_of_cell? w _ (hcell 0 h0)
        simpa [Addr.add] using this
      refine Lies.of_add hb (fun j u hu => ?_) hne
      have hj : j < len ∧ j < ss.length := by
        have := (List.getElem?_eq_some_iff.1 hu).1
        simp [sv] at this; omega
      rw [hcell j hj.2]
      simp only [sv, List.getElem?_map, List.getElem?_take, hj.1, if_true, List.getElem?_eq_getElem hj.2, Option.map_some] at hu
      rw [← hu]
      simp [List.getD, List.getElem?_eq_getElem hj.2]

set_option maxRecDepth 100000 in
/-- A field that came in: its four cells. -/
theorem fd_open {fuel : Nat} {cs : List Value} {x : DataW H × List MemPlace} (h : DataW.trod enc Tryd.prog w base spare held fuel 80 cs = some x) :
    ∃ (f : Fd) (tA lA : Option Addr) (tc lc : Nat), cs = [.int .i64 f.kind, .int .u32 f.n, .slice tA f.text.length tc, .slice lA f.list.length lc] ∧
      FdV w w.heap.size (.agg #[.int .i64 f.kind, .int .u32 f.n, .slice tA f.text.length tc, .slice lA f.list.length lc]) f := by
  obtain ⟨xs, n, _, _, hlen, hxl, hf⟩ := DataW.trod_struct Tryd.underlying80 h
  rw [cells37] at hlen
  match cs, hlen with
  | [v0, v1, v2, v3], _ =>
    have h0 : DataW.trod enc Tryd.prog w base spare held n 3 (([v0, v1, v2, v3].drop 0).take (Tryd.prog.cellsOf 3)) = xs[0]? := hf 0 _ rfl
    have h1 : DataW.trod enc Tryd.prog w base spare held n 24 (([v0, v1, v2, v3].drop 1).take (Tryd.prog.cellsOf 24)) = xs[1]? := hf 1 _ rfl
    have h2 : DataW.trod enc Tryd.prog w base spare held n 22 (([v0, v1, v2, v3].drop 2).take (Tryd.prog.cellsOf 22)) = xs[2]? := hf 2 _ rfl
    have h3 : DataW.trod enc Tryd.prog w base spare held n 78 (([v0, v1, v2, v3].drop 3).take (Tryd.prog.cellsOf 78)) = xs[3]? := hf 3 _ rfl
    rw [cells3] at h0
    rw [cells34] at h1
    rw [cells26] at h2
    rw [cells35] at h3
    match xs, hxl with
    | [y0, y1, y2, y3], _ =>
      have h0 : DataW.trod enc Tryd.prog w base spare held n 3 [v0] = some y0 := h0
      have h1 : DataW.trod enc Tryd.prog w base spare held n 24 [v1] = some y1 := h1
      have h2 : DataW.trod enc Tryd.prog w base spare held n 22 [v2] = some y2 := h2
      have h3 : DataW.trod enc Tryd.prog w base spare held n 78 [v3] = some y3 := h3
      obtain ⟨k, e0, _, wk⟩ := DataW.trod_int Tryd.underlying3 h0
      obtain ⟨m, e1, _, wm⟩ := DataW.trod_int Tryd.underlying24 h1
      obtain ⟨tA, tc, bs, e2, g1, g2, _, g3⟩ := bytes_open h2
      obtain ⟨lA, lc, ss, e3, g4, g5, _, g6, g7⟩ := strs_open h3
      simp only [List.cons.injEq, and_true] at e0 e1 e2 e3
      have hk := bounds_i64 wk
      have hm := bounds_u32 wm
      obtain ⟨m', rfl⟩ := Int.eq_ofNat_of_zero_le hm.1
      subst e0; subst e1; subst e2; subst e3
      refine ⟨⟨k, m', bs, ss⟩, tA, lA, tc, lc, rfl, tA, tc, lA, lc, rfl, ?_, hk, Nat.le_trans g1 g2, Nat.le_trans g4 g5, ⟨g1, g4⟩, g3, g6, g7⟩
      have := hm.2
      show m' < 4294967296
      omega

set_option maxRecDepth 100000 in
/-- A slice of fields that came in. -/
theorem fds_open {v : Value} {d : DataW H} {p : List MemPlace} (h : DataW.Trod enc Tryd.prog w base (fun _ => true) held 63 v d p) (hv : Value.okWide Tryd.prog w .any 0 63 v ∨ ∃ a n c, v = .slice a n c) :
    ∃ A c l, v = .slice A l.length c ∧ l.length ≤ c ∧ c ≤ maxLen ∧ (A = none → c = 0 ∧ l = []) ∧ FdsV w w.heap.size A l := by
  obtain ⟨fuel, hf⟩ := h
  obtain ⟨A0, n0, c0, rfl⟩ : ∃ a n c, v = .slice a n c := by
    rcases hv with hv | hv
    · exact okWide_slice Tryd.underlying63 hv
    · exact hv
  rcases open_slice Tryd.underlying63 hf with ⟨hcs, _⟩ | ⟨a, len, cap, m, n, D, Pl, hcs, _, hl, hm, hmm, _, hi⟩
  · simp only [Value.cells, List.cons.injEq, and_true] at hcs
    injection hcs with e1 e2 e3
    subst e1; subst e2; subst e3
    exact ⟨none, 0, [], rfl, Nat.le_refl _, Nat.zero_le _, fun _ => ⟨rfl, rfl⟩, fun h => absurd rfl h⟩
  · have hcs' : Value.slice A0 n0 c0 = .slice (some a) len cap := by simpa [Value.cells] using hcs
    injection hcs' with e1 e2 e3
    subst e1; subst e2; subst e3
    simp only [if_true] at hmm
    subst hmm
    have each : ∀ i, i < n0 → ∃ (f : Fd) (tA lA : Option Addr) (tc lc : Nat), FdV w w.heap.size (.agg #[.int .i64 f.kind, .int .u32 f.n, .slice tA f.text.length tc, .slice lA f.list.length lc]) f ∧
        w.cell? (a.add (i * 4)) = some (.int .i64 f.kind) ∧ w.cell? ((a.add (i * 4)).add 1) = some (.int .u32 f.n) ∧ w.cell? ((a.add (i * 4)).add 2) = some (.slice tA f.text.length tc) ∧ w.cell? ((a.add (i * 4)).add 3) = some (.slice lA f.list.length lc) := by
      intro i hin
      obtain ⟨cs', hc, ht⟩ := hi i (by omega)
      rw [cells37] at hc
      obtain ⟨_, _, hat⟩ := World.cells?_some hc
      obtain ⟨f, tA, lA, tc, lc, rfl, hfd⟩ := fd_open ht
      refine ⟨f, tA, lA, tc, lc, hfd, ?_, hat 1 (by omega), hat 2 (by omega), hat 3 (by omega)⟩
      have := hat 0 (by omega)
      rwa [show (a.add (i * 4)).add 0 = a.add (i * 4) from by simp [Addr.add]] at this
    have pick : ∀ m, m ≤ n0 → ∃ l : List Fd, l.length = m ∧ ∀ i (h : i < l.length), ∃ (tA lA : Option Addr) (tc lc : Nat), FdV w w.heap.size (.agg #[.int .i64 l[i].kind, .int .u32 l[i].n, .slice tA l[i].text.length tc, .slice lA l[i].list.length lc]) l[i] ∧
        w.cell? (a.add (i * 4)) = some (.int .i64 l[i].kind) ∧ w.cell? ((a.add (i * 4)).add 1) = some (.int .u32 l[i].n) ∧ w.cell? ((a.add (i * 4)).add 2) = some (.slice tA l[i].text.length tc) ∧ w.cell? ((a.add (i * 4)).add 3) = some (.slice lA l[i].list.length lc) := by
      intro m
      induction m with
      | zero => exact fun _ => ⟨[], rfl, fun i h => by simp at h⟩
      | succ m ih =>
        intro hm'
        obtain ⟨l, hll, hl'⟩ := ih (by omega)
        obtain ⟨f, hf'⟩ := each m (by omega)
        refine ⟨l ++ [f], by simp [hll], fun i hil => ?_⟩
        by_cases him : i < l.length
        · rw [List.getElem_append_left him]
          exact hl' i him
        · have hil' : i = m := by simp at hil; omega
          subst hil'
          rw [List.getElem_append_right (by omega)]
          simpa [hll] using hf'
    obtain ⟨l, hll, hl'⟩ := pick n0 (Nat.le_refl _)
    subst hll
    refine ⟨some a, _, l, rfl, hl, hm, by simp, fun hne => ?_⟩
    have h0 : 0 < l.length := List.length_pos_iff.2 hne
    obtain ⟨b, o, s⟩ := a
    obtain ⟨_, _, _, _, _, hc0, _⟩ := hl' 0 h0
    have hs : s = none := by simpa [Addr.add] using World.cell?_spot hc0
    subst hs
    have hb : b < w.heap.size := by
      have := World.block_lt_of_cell? w _ hc0
      simpa [Addr.add] using this
    refine ⟨b, o, rfl, hb, fun k hk => ?_⟩
    obtain ⟨tA, lA, tc, lc, q0, q1, q2, q3, q4⟩ := hl' k hk
    simp only [Addr.add_lit] at q1 q2 q3 q4
    exact ⟨tA, tc, lA, lc, q0, q1, q2, q3, q4⟩
end
end Go.Proofs.YtdplngplljejhaaDoor
