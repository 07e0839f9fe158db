import Derived.Test.YtdplngplljejhaaDoorQR
import Derived.Test.YtdplngplljejhaaDoorFI
import Derived.Test.YtdplngplljejhaaDoorMO
import Derived.Deep.MidRow
import Derived.Deep.RegionHeld3
import Derived.Deep.WholeRow
namespace Go.Proofs.YtdplngplljejhaaDoor
open Go.RowKit

section
open Go.ChangeShapes Go.WideShapes Go.ChangeAt Go.RowKit Go.Deep

theorem m_cells40 : Tryd.prog.cellsOf 40 = 10 := by kernel_rfl
theorem m_cells3 : Tryd.prog.cellsOf 3 = 1 := by kernel_rfl
theorem m_cells24 : Tryd.prog.cellsOf 24 = 1 := by kernel_rfl
theorem m_cells9 : Tryd.prog.cellsOf 9 = 1 := by kernel_rfl
theorem m_cells4 : Tryd.prog.cellsOf 4 = 1 := by kernel_rfl
theorem m_cells22 : Tryd.prog.cellsOf 22 = 1 := by kernel_rfl
section
variable {H : Type} {enc : TypeId × Value → H} {w : World} {base : Nat} {spare : Nat → Bool} {held : Bool}
set_option maxRecDepth 100000 in
/-- A message among what came in. -/
theorem msg_cells {fuel : Nat} {cs : List Value} {x : DataW H × List MemPlace} (hcs : cs.length = 10) (h : DataW.trod enc Tryd.prog w base spare held fuel 40 cs = some x) :
    ∃ A c, ∃ m : Mg, cs = (m.cells A c).toList ∧ m.Ok ∧ SlB w w.heap.size A c m.data := by
  obtain ⟨xs, n, _, _, hlen, hxl, hff⟩ := DataW.trod_struct Tryd.underlying40 h
  match cs, hcs with
  | [v0, v1, v2, v3, v4, v5, v6, v7, v8, v9], _ =>
    have h0 : DataW.trod enc Tryd.prog w base spare held n 3 (([v0, v1, v2, v3, v4, v5, v6, v7, v8, v9].drop 0).take (Tryd.prog.cellsOf 3)) = xs[0]? := hff 0 _ rfl
    rw [m_cells3] at h0
    have h1 : DataW.trod enc Tryd.prog w base spare held n 24 (([v0, v1, v2, v3, v4, v5, v6, v7, v8, v9].drop 1).take (Tryd.prog.cellsOf 24)) = xs[1]? := hff 1 _ rfl
    rw [m_cells24] at h1
    have h2 : DataW.trod enc Tryd.prog w base spare held n 24 (([v0, v1, v2, v3, v4, v5, v6, v7, v8, v9].drop 2).take (Tryd.prog.cellsOf 24)) = xs[2]? := hff 2 _ rfl
    rw [m_cells24] at h2
    have h3 : DataW.trod enc Tryd.prog w base spare held n 24 (([v0, v1, v2, v3, v4, v5, v6, v7, v8, v9].drop 3).take (Tryd.prog.cellsOf 24)) = xs[3]? := hff 3 _ rfl
    rw [m_cells24] at h3
    have h4 : DataW.trod enc Tryd.prog w base spare held n 24 (([v0, v1, v2, v3, v4, v5, v6, v7, v8, v9].drop 4).take (Tryd.prog.cellsOf 24)) = xs[4]? := hff 4 _ rfl
    rw [m_cells24] at h4
    have h5 : DataW.trod enc Tryd.prog w base spare held n 24 (([v0, v1, v2, v3, v4, v5, v6, v7, v8, v9].drop 5).take (Tryd.prog.cellsOf 24)) = xs[5]? := hff 5 _ rfl
    rw [m_cells24] at h5
    have h6 : DataW.trod enc Tryd.prog w base spare held n 9 (([v0, v1, v2, v3, v4, v5, v6, v7, v8, v9].drop 6).take (Tryd.prog.cellsOf 9)) = xs[6]? := hff 6 _ rfl
    rw [m_cells9] at h6
    have h7 : DataW.trod enc Tryd.prog w base spare held n 9 (([v0, v1, v2, v3, v4, v5, v6, v7, v8, v9].drop 7).take (Tryd.prog.cellsOf 9)) = xs[7]? := hff 7 _ rfl
    rw [m_cells9] at h7
    have h8 : DataW.trod enc Tryd.prog w base spare held n 4 (([v0, v1, v2, v3, v4, v5, v6, v7, v8, v9].drop 8).take (Tryd.prog.cellsOf 4)) = xs[8]? := hff 8 _ rfl
    rw [m_cells4] at h8
    have h9 : DataW.trod enc Tryd.prog w base spare held n 22 (([v0, v1, v2, v3, v4, v5, v6, v7, v8, v9].drop 9).take (Tryd.prog.cellsOf 22)) = xs[9]? := hff 9 _ rfl
    rw [m_cells22] at h9
    match xs, hxl with
    | [y0, y1, y2, y3, y4, y5, y6, y7, y8, y9], _ =>
      have h0 : DataW.trod enc Tryd.prog w base spare held n 3 [v0] = some y0 := h0
      have h1 : DataW.trod enc Tryd.prog w base spare held n 24 [v1] = some y1 := h1
      have h2 : DataW.trod enc Tryd.prog w base spare held n 24 [v2] = some y2 := h2
      have h3 : DataW.trod enc Tryd.prog w base spare held n 24 [v3] = some y3 := h3
      have h4 : DataW.trod enc Tryd.prog w base spare held n 24 [v4] = some y4 := h4
      have h5 : DataW.trod enc Tryd.prog w base spare held n 24 [v5] = some y5 := h5
      have h6 : DataW.trod enc Tryd.prog w base spare held n 9 [v6] = some y6 := h6
      have h7 : DataW.trod enc Tryd.prog w base spare held n 9 [v7] = some y7 := h7
      have h8 : DataW.trod enc Tryd.prog w base spare held n 4 [v8] = some y8 := h8
      have h9 : DataW.trod enc Tryd.prog w base spare held n 22 [v9] = some y9 := h9
      obtain ⟨kd, e0, _, w0⟩ := DataW.trod_int Tryd.underlying3 h0
      have b0 := bounds_i64 w0
      obtain ⟨n1, e1, _, w1⟩ := DataW.trod_int Tryd.underlying24 h1
      have b1 := bounds_u32 w1
      obtain ⟨n1, rfl⟩ := Int.eq_ofNat_of_zero_le b1.1
      obtain ⟨n2, e2, _, w2⟩ := DataW.trod_int Tryd.underlying24 h2
      have b2 := bounds_u32 w2
      obtain ⟨n2, rfl⟩ := Int.eq_ofNat_of_zero_le b2.1
      obtain ⟨n3, e3, _, w3⟩ := DataW.trod_int Tryd.underlying24 h3
      have b3 := bounds_u32 w3
      obtain ⟨n3, rfl⟩ := Int.eq_ofNat_of_zero_le b3.1
      obtain ⟨n4, e4, _, w4⟩ := DataW.trod_int Tryd.underlying24 h4
      have b4 := bounds_u32 w4
      obtain ⟨n4, rfl⟩ := Int.eq_ofNat_of_zero_le b4.1
      obtain ⟨n5, e5, _, w5⟩ := DataW.trod_int Tryd.underlying24 h5
      have b5 := bounds_u32 w5
      obtain ⟨n5, rfl⟩ := Int.eq_ofNat_of_zero_le b5.1
      obtain ⟨nm, e6, _, s6⟩ := DataW.trod_string Tryd.underlying9 h6
      obtain ⟨lg, e7, _, s7⟩ := DataW.trod_string Tryd.underlying9 h7
      obtain ⟨wt, e8, _⟩ := DataW.trod_bool Tryd.underlying4 h8
      obtain ⟨A, c, bs, e9, g1, g2, g3, g4⟩ := bytes_open h9
      simp only [List.cons.injEq, and_true] at e0 e1 e2 e3 e4 e5 e6 e7 e8 e9
      subst e0; subst e1; subst e2; subst e3; subst e4; subst e5; subst e6; subst e7; subst e8; subst e9
      have c1 := b1.2
      have c2 := b2.2
      have c3 := b3.2
      have c4 := b4.2
      have c5 := b5.2
      refine ⟨A, c, ⟨kd, n1, n2, n3, n4, n5, nm, lg, wt, bs⟩, rfl, ⟨b0, ?_, ?_, ?_, ?_, ?_, s6, s7⟩, g1, g2, g3, g4⟩
      · show n1 < 4294967296; omega
      · show n2 < 4294967296; omega
      · show n3 < 4294967296; omega
      · show n4 < 4294967296; omega
      · show n5 < 4294967296; omega
end
/-- A slice of messages. -/
def MsgsV (w : World) (B : Nat) (A : Option Addr) (ms : List Mg) : Prop := ms ≠ [] → ∃ b o, A = some ⟨b, o, none⟩ ∧ b < B ∧ ∀ k (h : k < ms.length), ∃ A' c', w.rangeAt b (o + k * 10) (ms[k].cells A' c').toList ∧ SlB w B A' c' ms[k].data
theorem MsgsV.below {w w' : World} {B : Nat} {A : Option Addr} {ms : List Mg} (h : MsgsV w B A ms) (hb : Below B w w') : MsgsV w' B A ms := fun hn => by
  obtain ⟨b, o, e, hlt, hc⟩ := h hn
  exact ⟨b, o, e, hlt, fun k hk => by
    obtain ⟨A', c', h1, h2⟩ := hc k hk
    exact ⟨A', c', fun j v hj => (hb.cell (p := ⟨b, o + k * 10 + j, none⟩) hlt).trans (h1 j v hj), h2.below hb⟩⟩
section
variable {H : Type} {enc : TypeId × Value → H} {w : World} {base : Nat} {held : Bool}
set_option maxRecDepth 100000 in
/-- A slice of messages that came in. -/
theorem msgs_open {v : Value} {d : DataW H} {p : List MemPlace} (h : DataW.Trod enc Tryd.prog w base (fun _ => true) held 37 v d p) (hv : ∃ a n c, v = .slice a n c) :
    ∃ A c l, v = .slice A l.length c ∧ l.length ≤ c ∧ c ≤ maxLen ∧ MsgsV w w.heap.size A l ∧ ∀ m ∈ l, m.Ok := by
  obtain ⟨fuel, hf⟩ := h
  obtain ⟨A0, n0, c0, rfl⟩ := hv
  rcases open_slice Tryd.underlying37 hf with ⟨hcs, _⟩ | ⟨a, len, cap, m, n, D, Pl, hcs, _, hl, hm, hmm, _, hi⟩
  · simp only [Value.cells, List.cons.injEq, and_true] at hcs
    injection hcs with e1 e2 e3
    subst e1; subst e2; subst e3
    exact ⟨none, 0, [], rfl, Nat.le_refl _, Nat.zero_le _, fun h => absurd rfl h, fun m hm => by cases hm⟩
  · have hcs' : Value.slice A0 n0 c0 = .slice (some a) len cap := by simpa [Value.cells] using hcs
    injection hcs' with e1 e2 e3
    subst e1; subst e2; subst e3
    simp only [if_true] at hmm
    subst hmm
    have each : ∀ i, i < n0 → ∃ (f : Mg) (A' : Option Addr) (c' : Nat), (∀ j v, (f.cells A' c').toList[j]? = some v → w.cell? ((a.add (i * 10)).add j) = some v) ∧ f.Ok ∧ SlB w w.heap.size A' c' f.data := by
      intro i hin
      obtain ⟨cs', hc, ht⟩ := hi i (by omega)
      rw [m_cells40] at hc
      obtain ⟨_, hlen, hat⟩ := World.cells?_some hc
      obtain ⟨A', c', f, rfl, hok, hs⟩ := msg_cells hlen ht
      exact ⟨f, A', c', fun j v hj => by
        have hj10 : j < 10 := (List.getElem?_eq_some_iff.1 hj).1
        rw [hat j hj10]
        exact hj, hok, hs⟩
    have pick : ∀ m, m ≤ n0 → ∃ l : List Mg, l.length = m ∧ ∀ i (h : i < l.length), ∃ (A' : Option Addr) (c' : Nat), (∀ j v, (l[i].cells A' c').toList[j]? = some v → w.cell? ((a.add (i * 10)).add j) = some v) ∧ l[i].Ok ∧ SlB w w.heap.size A' c' l[i].data := by
      intro m
      induction m with
      | zero => exact fun _ => ⟨[], rfl, fun i h => by simp at h⟩
      | succ m ih =>
        intro hm'
        obtain ⟨l, hll, hl'⟩ := ih (by omega)
        obtain ⟨f, hf'⟩ := each m (by omega)
        refine ⟨l ++ [f], by simp [hll], fun i hil => ?_⟩
        by_cases him : i < l.length
        · rw [List.getElem_append_left him]
          exact hl' i him
        · have hil' : i = m := by simp at hil; omega
          subst hil'
          rw [List.getElem_append_right (by omega)]
          simpa [hll] using hf'
    obtain ⟨l, hll, hl'⟩ := pick n0 (Nat.le_refl _)
    subst hll
    refine ⟨some a, _, l, rfl, hl, hm, fun hne => ?_, fun m hm => ?_⟩
    · have h0 : 0 < l.length := List.length_pos_iff.2 hne
      obtain ⟨b, o, s⟩ := a
      obtain ⟨A0, c0, hc0, _⟩ := hl' 0 h0
      have h00 := hc0 0 _ rfl
      have hs : s = none := by simpa [Addr.add] using World.cell?_spot h00
      subst hs
      refine ⟨b, o, rfl, by simpa [Addr.add] using World.block_lt_of_cell? w _ h00, fun k hk => ?_⟩
      obtain ⟨A', c', h1, _, h2⟩ := hl' k hk
      exact ⟨A', c', fun j v hj => by
        have := h1 j v hj
        rwa [Addr.add_lit, Addr.add_lit] at this, h2⟩
    · obtain ⟨i, hi2, rfl⟩ := List.mem_iff_getElem.1 hm
      exact (hl' i hi2).choose_spec.choose_spec.2.1
end
end

theorem Tryd.size40 : (Tryd.prog.info? 40).map (·.size) = some 10 := by kernel_rfl
theorem Tryd.info40 : (Tryd.prog.info? 40).map (fun i => (i.zero, i.size, i.bytes)) = some (some (.agg #[.int .i64 0, .int .u32 0, .int .u32 0, .int .u32 0, .int .u32 0, .int .u32 0, .string ⟨#[]⟩, .string ⟨#[]⟩, .bool false, .slice none 0 0]), 10, 96) := by kernel_rfl
theorem mcells_size (m : Mg) (A : Option Addr) (c : Nat) : (m.cells A c).size = 10 := rfl
theorem mcells_len (m : Mg) (A : Option Addr) (c : Nat) : (m.cells A c).toList.length = 10 := rfl
theorem mcells_one (m : Mg) (A : Option Addr) (c : Nat) : (m.cells A c).all (·.oneCell') = true := by
  simp [Mg.cells, Value.oneCell']
section
variable {ops : Array Oper} {rest : List Oper} {o : Oper} {a : Act} {w : World} {Q : Exit → Act → World → Prop}
/-- A whole message is loaded, out of a variable or a list. -/
theorem ldM (hw : Region.wanted o (yielded ops a.tmps) = true) (x : Operand) (ho : o.op = .load 40 x) (g off : Nat) (hx : a.eval x = .pointer (some ⟨g, off, none⟩)) (m : Mg) (A : Option Addr) (c : Nat) (hr : w.rangeAt g off (m.cells A c).toList)
    (h : wpList Tryd.prog ops Q rest (a.put o.dst (.agg (m.cells A c))) w) : wpList Tryd.prog ops Q (o :: rest) a w :=
  BigFrame.wpList_want hw fun _ hK => by
    unfold Oper.wp execOp
    simp only [ho, hx, Instr.loadAt, Instr.sureAddr, Sem.run_bind, Sem.run_pure, Result.andThen_ok, run_loadVar_mid (P := Tryd.prog) w g off 40 (m.cells A c).toList _ hr Tryd.underlying40 rfl (by rw [mcells_len]; exact Tryd.size40)]
    exact hK _ _ (by simpa using h)
/-- A new variable takes a whole message. -/
theorem snM (hw : Region.wanted o (yielded ops a.tmps) = true) (x y : Operand) (ho : o.op = .store 40 x y) (w0 : World) (cs : Array Value) (hs : cs.size = 10) (hw0 : w = w0.alloc (.cells cs 40)) (hx : a.eval x = .pointer (some ⟨w0.heap.size, 0, none⟩)) (m : Mg) (A : Option Addr) (c : Nat) (hy : a.eval y = .agg (m.cells A c))
    (h : ∀ w', Hid (Box w' w0.heap.size 40 (m.cells A c)) → Hid (Below w0.heap.size w0 w') → wpList Tryd.prog ops Q rest (a.put o.dst undef) w') : wpList Tryd.prog ops Q (o :: rest) a w := by
  subst hw0
  refine BigFrame.wpList_want hw fun _ hK => wp_store_row 40 x y ho w0.heap.size (m.cells A c) hx hy 40 cs (Box.new w0 40 cs) (by rw [mcells_size]; exact Tryd.size40) (by rw [hs, mcells_size]) (mcells_one m A c) (hK _ _ (h _ (hid (setRow_heap _ _ cs (m.cells A c) 40 _ (heap_alloc_new w0 _))) (hid ?_)))
  exact ((Below.refl _ w0).alloc (Nat.le_refl _) _).trans ⟨rfl, rfl, rfl, Nat.le_of_eq (size_setRow _ _ _).symm, fun b hb => setRow_other _ _ b _ (by omega)⟩
end
theorem box_range {w : World} {g : Nat} {cs : Array Value} (h : Box w g 40 cs) : w.rangeAt g 0 cs.toList := fun j v hj => by
  rw [h.cell (0 + j), Nat.zero_add]
  simpa using hj
/-- Ten cells from a pointer on. -/
def rngM (w : World) (v : Value) : Option (List Value) := match v with
  | .pointer (some ⟨g, o, none⟩) => (List.range 10).mapM fun j => w.cell? ⟨g, o + j, none⟩
  | _ => none
def isM (w : World) (v : Value) : Bool := (rngM w v).isSome
def csM (w : World) (v : Value) : Array Value := ((rngM w v).getD []).toArray
theorem rngM_at {w : World} {v : Value} (h : isM w v = true) : ∃ g o l, v = .pointer (some ⟨g, o, none⟩) ∧ w.rangeAt g o l ∧ l.length = 10 ∧ csM w v = l.toArray := by
  unfold isM at h
  obtain ⟨l, hl⟩ := Option.isSome_iff_exists.1 h
  have hl' := hl
  unfold rngM at hl
  split at hl
  · rename_i g o
    refine ⟨g, o, l, rfl, ?_, ?_, by simp [csM, hl']⟩
    · intro j v hj
      have hlen := mapM_some_length hl
      have hjl : j < 10 := by
        have := (List.getElem?_eq_some_iff.1 hj).1
        simp at hlen
        omega
      have := mapM_some_get hl j j (by simp [hjl])
      rw [this, hj]
    · have := mapM_some_length hl
      simpa using this
  · cases hl
theorem isM_of {w : World} {g o : Nat} {m : Mg} {A : Option Addr} {c : Nat} (h : w.rangeAt g o (m.cells A c).toList) : isM w (.pointer (some ⟨g, o, none⟩)) = true ∧ csM w (.pointer (some ⟨g, o, none⟩)) = m.cells A c := by
  have e : rngM w (.pointer (some ⟨g, o, none⟩)) = some (m.cells A c).toList := by
    show ((List.range 10).mapM fun j => w.cell? ⟨g, o + j, none⟩) = some (m.cells A c).toList
    have : ∀ (n : Nat) (l : List Value) (f : Nat → Option Value), l.length = n → (∀ j v, l[j]? = some v → f j = some v) → (List.range n).mapM f = some l := by
      intro n
      induction n with
      | zero => intro l f hl _; have : l = [] := List.eq_nil_of_length_eq_zero hl; subst this; simp
      | succ n ih =>
        intro l f hl hf
        obtain ⟨l', v, rfl⟩ : ∃ l' v, l = l' ++ [v] := by
          rcases List.eq_nil_or_concat l with h | ⟨l', v, h⟩
          · subst h; simp at hl
          · exact ⟨l', v, by simpa using h⟩
        have hl' : l'.length = n := by simpa using hl
        rw [List.range_succ, List.mapM_append, ih l' f hl' (fun j u hj => hf j u (by rw [List.getElem?_append_left ((List.getElem?_eq_some_iff.1 hj).1)]; exact hj))]
        have := hf n v (by rw [List.getElem?_append_right (by omega), hl']; simp)
        simp [this]
    exact this 10 _ _ (mcells_len m A c) h
  exact ⟨by simp [isM, e], by simp [csM, e]⟩
section
variable {dst : Option Tmp} {x : Operand} {ty : TypeId} {pos : String} {after : Array Edge} {gd : Option (Nat × Bool)}
theorem ex_ldM {ev : Operand → Value} {w : World} (h : isM w (ev x) = true) :
    (execOp ev { dst, op := .load 40 x, type := ty, pos, after, guard := gd }).run Tryd.prog w = .ok (.value (.agg (csM w (ev x)))) w := by
  obtain ⟨g, o, l, hx, hr, hl, hc⟩ := rngM_at h
  unfold execOp
  rw [hc]
  simp only [hx, Instr.loadAt, Instr.sureAddr, Sem.run_bind, Sem.run_pure, Result.andThen_ok, run_loadVar_mid (P := Tryd.prog) w g o 40 l _ hr Tryd.underlying40 rfl (by rw [hl]; exact Tryd.size40)]
end
/-- A slice of messages without its first. -/
theorem MsgsV.tail {w : World} {B : Nat} {b o c : Nat} {m : Mg} {ms : List Mg} (h : MsgsV w B (some ⟨b, o, none⟩) (m :: ms)) (hc : ms.length + 1 ≤ c) : MsgsV w B (some (if c = 1 then (⟨b, o, none⟩ : Addr) else ⟨b, o + 10, none⟩)) ms := fun hne => by
  obtain ⟨b', o', e, hb, hk⟩ := h (by simp)
  injection e with e
  injection e with e1 e2 e3
  subst e1 e2
  have h1 : c ≠ 1 := by
    rintro rfl
    exact hne (List.eq_nil_of_length_eq_zero (by omega))
  rw [if_neg h1]
  refine ⟨b, o + 10, rfl, hb, fun k hk2 => ?_⟩
  obtain ⟨A', c', r1, r2⟩ := hk (k + 1) (by simp; omega)
  refine ⟨A', c', fun j v hj => ?_, by simpa using r2⟩
  have := r1 j v (by simpa using hj)
  rw [← this]
  congr 2
  omega

end Go.Proofs.YtdplngplljejhaaDoor
