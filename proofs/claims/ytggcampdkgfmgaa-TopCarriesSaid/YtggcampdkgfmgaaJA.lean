import Derived.WalkKit
import Derived.WalkSpells
import Derived.WalkLawsBesides
import Derived.Lib.AppendStr
import Derived.Deep.RegionLaw
import Derived.Test.YtggcampdkgfmgaaRows
import Derived.BigQuiet
import Derived.Deep.QuietTactic
import Derived.Lib.AppendZeros
import Derived.RangeFuncNested
import Derived.RangeFuncBound
import Derived.RangeFuncCalls
import Derived.RangeFuncLeaves
import Derived.RangeFuncBox
import Derived.Shelf.Abstract
import Derived.Shelf.RegionOpen
import Derived.OwnWalkIn
import Derived.TacticsInMore
import Derived.LoopNIn
import Derived.LoopIn
import Derived.Maps.AppendAt
import Derived.Deep.WholeRow
import Derived.DeepKeys
import Derived.Deep.RegionHeld3
import Derived.Deep.DrawnRows
import Derived.ProofKit
import Derived.OpenShut
import Derived.SliceStrings
import Derived.Deep.Slices
import Derived.Deep.Fields
import Derived.Deep.DeepHandedRow
import Derived.Lib.LaidTab
import Derived.SizedLaws
namespace Go.Proofs.Ytggcampdkgfmgaa
open Go.RowKit

theorem hid {p : Prop} (h : p) : Hid p := h
/-- The cells of a slice's array, as a list; nothing is asked of the address of no cells. -/
def Lies (w : World) (B : Nat) (A : Option Addr) (cs : List Value) : Prop :=
  cs ≠ [] → ∃ b o, A = some ⟨b, o, none⟩ ∧ b < B ∧ ∀ j u, cs[j]? = some u → w.cell? ⟨b, o + j, none⟩ = some u

section
variable {w w' : World} {B B' : Nat} {A : Option Addr} {cs : List Value}
theorem Lies.nil_ : Lies w B A [] := fun h => absurd rfl h
theorem Lies.keep (h : Lies w B A cs) (hk : ∀ p : Addr, p.block < B → w'.cell? p = w.cell? p) : Lies w' B A cs := fun hn => by
  obtain ⟨b, o, e, hb, hc⟩ := h hn
  exact ⟨b, o, e, hb, fun j u hu => (hk _ hb).trans (hc j u hu)⟩
theorem Lies.more (h : Lies w B A cs) (hB : B ≤ B') : Lies w B' A cs := fun hn => by
  obtain ⟨b, o, e, hb, hc⟩ := h hn
  exact ⟨b, o, e, by omega, hc⟩
theorem Lies.below (h : Lies w B A cs) (hb : Below B w w') : Lies w' B A cs := h.keep fun _ hp => hb.cell hp
theorem Lies.of_add {a : Addr} (hb : a.block < B) (h : ∀ j u, cs[j]? = some u → w.cell? (a.add j) = some u) : Lies w B (some a) cs := fun hn => by
  obtain ⟨b, o, s⟩ := a
  have h0 : cs[0]? = some (cs.head hn) := by cases cs with | nil => exact absurd rfl hn | cons x r => rfl
  have hs : s = none := by simpa [Addr.add] using World.cell?_spot (h 0 _ h0)
  subst hs
  exact ⟨b, o, rfl, hb, fun j u hu => by rw [← Addr.add_lit]; exact h j u hu⟩
theorem Lies.own {base : Nat} {e : TypeId} {size n c : Nat} {xs : List Value} (h : w.ownsRow base e size (.slice A n c) n xs) : Lies w w.heap.size A xs := by
  intro hn
  rcases h.2 with ⟨hv, h0⟩ | ⟨g, cap, cur, hv, hb, hh, _⟩
  · subst h0
    have := h.1
    simp at this
    exact absurd this hn
  · have hA : A = some ⟨g, 0, none⟩ := by injection hv
    subst hA
    exact ⟨g, 0, rfl, (Array.getElem?_eq_some_iff.1 hh).1, fun j u hu => by rw [← Addr.add_lit]; exact h.cells (g := g) rfl j u hu⟩
end

/-- One block, whole: its cells, none of them frozen. -/
def Box (w : World) (g : Nat) (t : TypeId) (cs : Array Value) : Prop := w.heap[g]? = some (.cells cs t (0, 0))
section
variable {w w' : World} {g : Nat} {t : TypeId} {cs : Array Value}
theorem Box.lt (h : Box w g t cs) : g < w.heap.size := by
  unfold Box at h
  exact (Array.getElem?_eq_some_iff.1 h).1
theorem Box.cell (h : Box w g t cs) (i : Nat) : w.cell? ⟨g, i, none⟩ = cs[i]? := cell_of_row w g i cs t (0, 0) h
theorem Box.frozen (h : Box w g t cs) (i : Nat) : w.frozen? ⟨g, i, none⟩ = false := by
  unfold Box at h
  simp [World.frozen?, h]
theorem Box.new (w : World) (t : TypeId) (cs : Array Value) : Box (w.alloc (.cells cs t)) w.heap.size t cs := heap_alloc_new w _
theorem Box.store (h : Box w g t cs) (i : Nat) (u : Value) : Box (w.setCell ⟨g, i, none⟩ u) g t (cs.setIfInBounds i u) := by
  unfold Box at h ⊢
  simp [World.setCell, Array.getElem?_modify, h]
theorem Box.same (h : Box w g t cs) (hh : w'.heap[g]? = w.heap[g]?) : Box w' g t cs := hh.trans h
end

theorem lies_lit (w : World) (cs : Array Value) (t : TypeId) : Lies (w.alloc (.cells cs t)) (w.heap.size + 1) (some ⟨w.heap.size, 0, none⟩) cs.toList := fun _ =>
  ⟨_, _, rfl, by simp, fun j u hu => by
    have h := (Box.new w t cs).cell j
    rw [Nat.zero_add, h]
    simpa using hu⟩
/-- What a call may have turned: blocks from B on whose elements have one of the types T. All else that there was is as it was. -/
structure Kept (B : Nat) (T : List TypeId) (w w' : World) : Prop where
  os : w'.os = w.os
  tape : w'.tape = w.tape
  output : w'.output = w.output
  size : w.heap.size ≤ w'.heap.size
  block : ∀ b, b < w.heap.size → (b < B ∨ ∀ cs t fr, w.heap[b]? = some (.cells cs t fr) → t ∉ T) → w'.heap[b]? = w.heap[b]?

section
variable {B : Nat} {T : List TypeId} {a w w' : World}
theorem Kept.refl (B : Nat) (T : List TypeId) (w : World) : Kept B T w w := ⟨rfl, rfl, rfl, Nat.le_refl _, fun _ _ _ => rfl⟩
theorem Kept.trans (h : Kept B T a w) (k : Kept B T w w') : Kept B T a w' := by
  refine ⟨k.os.trans h.os, k.tape.trans h.tape, k.output.trans h.output, Nat.le_trans h.size k.size, fun b hb hc => ?_⟩
  have h1 := h.block b hb hc
  rw [k.block b (Nat.lt_of_lt_of_le hb h.size) (by rw [h1]; exact hc), h1]
theorem Kept.of_below (h : Below w.heap.size w w') (B : Nat) (T : List TypeId) : Kept B T w w' := ⟨h.os, h.tape, h.output, h.size, fun b hb _ => h.block b hb⟩
theorem Kept.below (h : Kept B T w w') (hB : B ≤ w.heap.size) : Below B w w' := ⟨h.os, h.tape, h.output, h.size, fun b hb => h.block b (by omega) (.inl hb)⟩
theorem Kept.alloc (h : Kept B T a w) (o : Obj) : Kept B T a (w.alloc o) := h.trans ⟨rfl, rfl, rfl, by simp, fun b hb _ => Below.heap_alloc _ _ _ hb⟩
theorem Kept.drew (h : Kept B T a w) : Kept B T a w.drew := ⟨h.os, h.tape, h.output, h.size, h.block⟩
theorem Kept.drewN (h : Kept B T a w) (n : Nat) : Kept B T a (w.drewN n) := ⟨h.os, h.tape, h.output, h.size, h.block⟩
theorem Kept.store (h : Kept B T a w) {g i : Nat} {t : TypeId} {cs : Array Value} (hx : Box w g t cs) (hB : B ≤ g) (ht : t ∈ T) (u : Value) : Kept B T a (w.setCell ⟨g, i, none⟩ u) :=
  h.trans ⟨rfl, rfl, rfl, by simp [World.setCell], fun b _ hc => Below.heap_setCell _ _ _ _ (by
    rintro rfl
    rcases hc with hc | hc
    · omega
    · exact hc _ _ _ hx ht)⟩
theorem Kept.grown (h : Kept B T a w) {row : Option Nat} (hg : w.grownBy w' row) (hr : ∀ k, row = some k → B ≤ k ∧ ∃ t cs, t ∈ T ∧ Box w k t cs) : Kept B T a w' :=
  h.trans ⟨hg.os, hg.tape, hg.output, hg.size, fun b hb hc => hg.block b hb (by
    intro e
    obtain ⟨h1, t, cs, h2, h3⟩ := hr b e.symm
    rcases hc with hc | hc
    · omega
    · exact hc _ _ _ h3 h2)⟩
theorem Kept.mono {B' : Nat} {T' : List TypeId} (h : Kept B T w w') (hB : B' ≤ B) (hT : ∀ t ∈ T, t ∈ T') : Kept B' T' w w' :=
  ⟨h.os, h.tape, h.output, h.size, fun b hb hc => h.block b hb (hc.imp (fun x => by omega) fun k cs t fr e ht => k cs t fr e (hT t ht))⟩
theorem Kept.box (h : Kept B T w w') {g : Nat} {t : TypeId} {cs : Array Value} (hx : Box w g t cs) (ht : t ∉ T) : Box w' g t cs :=
  hx.same (h.block g hx.lt (.inr fun cs' t' fr e => by rw [hx] at e; injection e with e; injection e with _ e; subst e; exact ht))
theorem own_box {base : Nat} {e : TypeId} {size n : Nat} {v : Value} {xs : List Value} (h : w.ownsRow base e size v n xs) : ∀ k, v.ownBlock = some k → base ≤ k ∧ ∃ cs, Box w k e cs := by
  intro k hk
  refine ⟨(h.lt k hk).1, ?_⟩
  rcases h.2 with ⟨rfl, _⟩ | ⟨g, cap, cur, rfl, _, hg, _⟩
  · simp [Value.ownBlock] at hk
  · simp [Value.ownBlock] at hk
    subst hk
    exact ⟨cur, hg⟩
theorem box_ne {g g' : Nat} {t t' : TypeId} {cs cs' : Array Value} (h : Box w g t cs) (h' : Box w g' t' cs') (hne : t ≠ t') : g ≠ g' := by
  rintro rfl
  unfold Box at h h'
  rw [h] at h'
  injection h' with h'
  injection h' with _ ht
  exact hne ht
theorem own_ne {base : Nat} {e t : TypeId} {size n g : Nat} {v : Value} {xs : List Value} {cs : Array Value} (h : w.ownsRow base e size v n xs) (hx : Box w g t cs) (hne : e ≠ t) : v.ownBlock ≠ some g := by
  intro he
  obtain ⟨_, cs', h'⟩ := own_box h g he
  exact box_ne h' hx hne rfl
/-- A row that the call owns stays, whatever is done to blocks of other types. -/
theorem Kept.own {base : Nat} {e : TypeId} {size n : Nat} {v : Value} {xs : List Value} (k : Kept B T w w') (h : w.ownsRow base e size v n xs) (ht : e ∉ T) : w'.ownsRow base e size v n xs := by
  refine ⟨h.1, ?_⟩
  rcases h.2 with hn | ⟨g, cap, cur, rfl, hb, hgg, rest⟩
  · exact .inl hn
  · exact .inr ⟨g, cap, cur, rfl, hb, k.box hgg ht, rest⟩
end

def bv (l : List UInt8) : List Value := l.map fun c => Value.int .u8 (c.toNat : Int)
def sv (l : List ByteArray) : List Value := l.map Value.string
theorem bv_append (a b : List UInt8) : bv (a ++ b) = bv a ++ bv b := by simp [bv]
theorem bv_length (a : List UInt8) : (bv a).length = a.length := by simp [bv]
theorem bv_one (a : List UInt8) : ∀ u ∈ bv a, u.oneCell' = true := by
  intro u hu
  simp only [bv, List.mem_map] at hu
  obtain ⟨c, _, rfl⟩ := hu
  rfl

section
variable {P : Program} (w : World)
/-- append of a slice, nil or not, to a row of the call's own: what comes of it, its shape written out. -/
theorem run_app (base : Nat) (t ty e : TypeId) (i : TypeInfo) (z : Value) (size bytes : Nat) (ht : P.underlying t = some (.slice e)) (hi : P.info? e = some i) (hz : i.zero = some z)
    (hsize : i.size = size) (hby : i.bytes = bytes) (hzs : z.cells.size = size) (hsz : 0 < size)
    (A : Option Addr) (n c : Nat) (xs : List Value) (hown : w.ownsRow base e size (.slice A n c) n xs)
    (B : Nat) (A2 : Option Addr) (m c2 : Nat) (news : List Value) (hl : news.length = m * size) (hr : Lies w B A2 news) (h1 : ∀ u ∈ news, u.oneCell' = true)
    (h63 : n + m ≤ maxLen) (hbytes : (n + m) * bytes ≤ 140737488355328) (hbase : base ≤ w.heap.size) :
    ∃ A' c' w', (Builtin.append_ #[t, t] ty #[.slice A n c, .slice A2 m c2]).run P w = .ok (.slice A' (n + m) c') w' ∧ w'.ownsRow base e size (.slice A' (n + m) c') (n + m) (xs ++ news) ∧
      w.grownBy w' (Value.slice A n c).ownBlock := by
  by_cases hm : m = 0
  · subst hm
    have hn : news = [] := List.eq_nil_of_length_eq_zero (by simpa using hl)
    subst hn
    refine ⟨A, c, w, ?_, by simpa using hown, ⟨rfl, rfl, rfl, Nat.le_refl _, fun _ _ _ => rfl⟩⟩
    rcases hown.2 with ⟨hv, h0⟩ | ⟨g, cap, cur, hv, _, _, hnc, _⟩
    · subst h0
      injection hv with hA hn hc
      subst hA; subst hc
      cases A2 <;> simp [Builtin.append_, run_underlying ht, sizeOf, typeInfo, hi, Builtin.lenOf, Builtin.firstCells, loadCells, loadCellsFrom]
    · injection hv with hA hn hc
      subst hA; subst hc
      cases A2 <;> simp [Builtin.append_, run_underlying ht, sizeOf, typeInfo, hi, Builtin.lenOf, Builtin.firstCells, loadCells, loadCellsFrom, storeCells, hnc]
  · have hne : news ≠ [] := by
      intro e
      have h2 : 0 < m * size := Nat.mul_pos (by omega) hsz
      rw [← hl, e] at h2
      simp at h2
    obtain ⟨b, o, rfl, _, hc⟩ := hr hne
    obtain ⟨v', w', hrun, h2, h3, h4⟩ := run_append_own (P := P) w base t ty e i z size bytes ht hi hz hsize hby hzs hsz (.slice A n c) n xs hown ⟨b, o, none⟩ m c2 news hl (fun j u hu => by rw [Addr.add_lit]; exact hc j u hu) h1 h63 hbytes hbase
    rcases h2.2 with ⟨_, h0⟩ | ⟨g, cap, cur, hv, _⟩
    · omega
    · subst hv
      exact ⟨_, _, w', hrun, h2, h3⟩

theorem wp_app {o : Oper} {a : Act} {K : Act → World → Prop} {Q : Exit → Act → World → Prop} (s x : Operand) (t : TypeId)
    (ho : o.op = .call { callee := .builtin .append, args := #[s, x], argTypes := #[t, t] })
    (base : Nat) (e : TypeId) (i : TypeInfo) (z : Value) (size bytes : Nat) (ht : P.underlying t = some (.slice e)) (hi : P.info? e = some i) (hz : i.zero = some z)
    (hsize : i.size = size) (hby : i.bytes = bytes) (hzs : z.cells.size = size) (hsz : 0 < size)
    (A : Option Addr) (n c : Nat) (xs : List Value) (hs : a.eval s = .slice A n c) (hown : w.ownsRow base e size (.slice A n c) n xs)
    (B : Nat) (A2 : Option Addr) (m c2 : Nat) (news : List Value) (hx : a.eval x = .slice A2 m c2) (hl : news.length = m * size) (hr : Lies w B A2 news) (h1 : ∀ u ∈ news, u.oneCell' = true)
    (h63 : n + m ≤ maxLen) (hbytes : (n + m) * bytes ≤ 140737488355328) (hbase : base ≤ w.heap.size)
    (h : ∀ A' c' w', w'.ownsRow base e size (.slice A' (n + m) c') (n + m) (xs ++ news) → w.grownBy w' (Value.slice A n c).ownBlock → K (a.put o.dst (.slice A' (n + m) c')) w') : o.wp P a w K Q := by
  obtain ⟨A', c', w', hrun, h2, h3⟩ := run_app (P := P) w base t o.type e i z size bytes ht hi hz hsize hby hzs hsz A n c xs hown B A2 m c2 news hl hr h1 h63 hbytes hbase
  unfold Oper.wp execOp
  simp only [ho, resolve, invoke, builtin, Sem.run_bind, Sem.run_pure, Result.andThen_ok, List.map_toArray, List.map_cons, List.map_nil, hs, hx, hrun]
  exact h A' c' w' h2 h3

theorem wpList_app {ops : Array Oper} {rest : List Oper} {o : Oper} {a : Act} {Q : Exit → Act → World → Prop} (hgd : o.guard = none) (s x : Operand) (t : TypeId)
    (ho : o.op = .call { callee := .builtin .append, args := #[s, x], argTypes := #[t, t] })
    (base : Nat) (e : TypeId) (i : TypeInfo) (z : Value) (size bytes : Nat) (ht : P.underlying t = some (.slice e)) (hi : P.info? e = some i) (hz : i.zero = some z)
    (hsize : i.size = size) (hby : i.bytes = bytes) (hzs : z.cells.size = size) (hsz : 0 < size)
    (A : Option Addr) (n c : Nat) (xs : List Value) (hs : a.eval s = .slice A n c) (hown : w.ownsRow base e size (.slice A n c) n xs)
    (B : Nat) (A2 : Option Addr) (m c2 : Nat) (news : List Value) (hx : a.eval x = .slice A2 m c2) (hl : news.length = m * size) (hr : Lies w B A2 news) (h1 : ∀ u ∈ news, u.oneCell' = true)
    (h63 : n + m ≤ maxLen) (hbytes : (n + m) * bytes ≤ 140737488355328) (hbase : base ≤ w.heap.size)
    (h : ∀ A' c' w', w'.ownsRow base e size (.slice A' (n + m) c') (n + m) (xs ++ news) → w.grownBy w' (Value.slice A n c).ownBlock → wpList P ops Q rest (a.put o.dst (.slice A' (n + m) c')) w') : wpList P ops Q (o :: rest) a w :=
  wpList_plain hgd fun _ hK => wp_app w s x t ho base e i z size bytes ht hi hz hsize hby hzs hsz A n c xs hs hown B A2 m c2 news hx hl hr h1 h63 hbytes hbase fun A' c' w' h2 h3 => hK _ _ (h A' c' w' h2 h3)

theorem step_app {ops : Array Oper} {o : Oper} {a : Act} {K : Act → World → Prop} {Q : Exit → Act → World → Prop} {E : Prop} (hgd : o.guard = none) (s x : Operand) (t : TypeId)
    (ho : o.op = .call { callee := .builtin .append, args := #[s, x], argTypes := #[t, t] })
    (base : Nat) (e : TypeId) (i : TypeInfo) (z : Value) (size bytes : Nat) (ht : P.underlying t = some (.slice e)) (hi : P.info? e = some i) (hz : i.zero = some z)
    (hsize : i.size = size) (hby : i.bytes = bytes) (hzs : z.cells.size = size) (hsz : 0 < size)
    (A : Option Addr) (n c : Nat) (xs : List Value) (hs : a.eval s = .slice A n c) (hown : w.ownsRow base e size (.slice A n c) n xs)
    (B : Nat) (A2 : Option Addr) (m c2 : Nat) (news : List Value) (hx : a.eval x = .slice A2 m c2) (hl : news.length = m * size) (hr : Lies w B A2 news) (h1 : ∀ u ∈ news, u.oneCell' = true)
    (h63 : n + m ≤ maxLen) (hbytes : (n + m) * bytes ≤ 140737488355328) (hbase : base ≤ w.heap.size)
    (h : ∀ A' c' w', w'.ownsRow base e size (.slice A' (n + m) c') (n + m) (xs ++ news) → w.grownBy w' (Value.slice A n c).ownBlock → K (a.put o.dst (.slice A' (n + m) c')) w') :
    if Region.wanted o (yielded ops a.tmps) = true then Oper.wp P o a w K Q else E := by
  have hw : Region.wanted o (yielded ops a.tmps) = true := by simp [Region.wanted, hgd]
  rw [if_pos hw]
  exact wp_app w s x t ho base e i z size bytes ht hi hz hsize hby hzs hsz A n c xs hs hown B A2 m c2 news hx hl hr h1 h63 hbytes hbase h
end

section
variable {P : Program} (w : World)
/-- append of a string's bytes to a row of bytes of the call's own. -/
theorem wp_app_str {o : Oper} {a : Act} {K : Act → World → Prop} {Q : Exit → Act → World → Prop} (s x : Operand) (t u : TypeId)
    (ho : o.op = .call { callee := .builtin .append, args := #[s, x], argTypes := #[t, u] })
    (base : Nat) (e : TypeId) (i : TypeInfo) (ht : P.underlying t = some (.slice e)) (hu : P.underlying u = some .string) (hi : P.info? e = some i) (hz : i.zero = some (.int .u8 0))
    (hsize : i.size = 1) (hby : i.bytes = 1)
    (A : Option Addr) (n c : Nat) (xs : List Value) (hs : a.eval s = .slice A n c) (hown : w.ownsRow base e 1 (.slice A n c) n xs)
    (str : ByteArray) (hx : a.eval x = .string str)
    (h63 : n + str.size ≤ maxLen) (hbytes : n + str.size ≤ 140737488355328) (hbase : base ≤ w.heap.size)
    (h : ∀ A' c' w', w'.ownsRow base e 1 (.slice A' (n + str.size) c') (n + str.size) (xs ++ bv str.data.toList) → w.grownBy w' (Value.slice A n c).ownBlock → K (a.put o.dst (.slice A' (n + str.size) c')) w') : o.wp P a w K Q := by
  obtain ⟨v', w', hrun, h2, h3, h4⟩ := Lib.run_append_own_string (P := P) w base t u o.type e i ht hu hi hz hsize hby (.slice A n c) n xs hown str h63 hbytes hbase
  obtain ⟨A', c', rfl⟩ : ∃ A' c', v' = .slice A' (n + str.size) c' := by
    rcases h2.2 with ⟨hv, h0⟩ | ⟨g, cap, cur, hv, _⟩
    · exact ⟨none, 0, by rw [hv, h0]⟩
    · exact ⟨_, _, hv⟩
  unfold Oper.wp execOp
  simp only [ho, resolve, invoke, builtin, Sem.run_bind, Sem.run_pure, Result.andThen_ok, List.map_toArray, List.map_cons, List.map_nil, hs, hx, hrun]
  exact h A' c' w' h2 h3

theorem wpList_app_str {ops : Array Oper} {rest : List Oper} {o : Oper} {a : Act} {Q : Exit → Act → World → Prop} (hgd : o.guard = none) (s x : Operand) (t u : TypeId)
    (ho : o.op = .call { callee := .builtin .append, args := #[s, x], argTypes := #[t, u] })
    (base : Nat) (e : TypeId) (i : TypeInfo) (ht : P.underlying t = some (.slice e)) (hu : P.underlying u = some .string) (hi : P.info? e = some i) (hz : i.zero = some (.int .u8 0))
    (hsize : i.size = 1) (hby : i.bytes = 1)
    (A : Option Addr) (n c : Nat) (xs : List Value) (hs : a.eval s = .slice A n c) (hown : w.ownsRow base e 1 (.slice A n c) n xs)
    (str : ByteArray) (hx : a.eval x = .string str)
    (h63 : n + str.size ≤ maxLen) (hbytes : n + str.size ≤ 140737488355328) (hbase : base ≤ w.heap.size)
    (h : ∀ A' c' w', w'.ownsRow base e 1 (.slice A' (n + str.size) c') (n + str.size) (xs ++ bv str.data.toList) → w.grownBy w' (Value.slice A n c).ownBlock → wpList P ops Q rest (a.put o.dst (.slice A' (n + str.size) c')) w') : wpList P ops Q (o :: rest) a w :=
  wpList_plain hgd fun _ hK => wp_app_str w s x t u ho base e i ht hu hi hz hsize hby A n c xs hs hown str hx h63 hbytes hbase fun A' c' w' h2 h3 => hK _ _ (h A' c' w' h2 h3)
end
end Go.Proofs.Ytggcampdkgfmgaa
namespace Go.Proofs.Ytggcampdkgfmgaa
open Go.RowKit

theorem ret_bool {a b : Bool} (h : a = b) : Ending.returned (.bool a) = .returned (.bool b) := by rw [h]
theorem take_snoc {α : Type} (l : List α) (k : Nat) (h : k < l.length) : l.take (k + 1) = l.take k ++ [l[k]] := by
  rw [List.take_succ_eq_append_getElem h]
theorem own_caps {w : World} {base : Nat} {e : TypeId} {size n c : Nat} {A : Option Addr} {xs : List Value} (h : w.ownsRow base e size (.slice A n c) n xs) : n ≤ c ∧ c ≤ maxLen := by
  rcases h.2 with ⟨hv, h0⟩ | ⟨g, cap, cur, hv, _, _, h1, h2, _⟩
  · injection hv with _ _ hc
    subst hc; subst h0
    exact ⟨Nat.le_refl _, Nat.zero_le _⟩
  · injection hv with _ _ hc
    subst hc
    exact ⟨h1, h2⟩
theorem own_mono {w : World} {b b' : Nat} {e : TypeId} {size n : Nat} {v : Value} {xs : List Value} (h : w.ownsRow b e size v n xs) (hb : b' ≤ b) : w.ownsRow b' e size v n xs :=
  ⟨h.1, h.2.imp id fun ⟨g, cap, cur, h1, h2, h3⟩ => ⟨g, cap, cur, h1, Nat.le_trans hb h2, h3⟩⟩
theorem lit_cell (W : World) (cs : Array Value) (t : TypeId) (fr : Nat × Nat) (g i : Nat) (hg : g = W.heap.size) : (W.alloc (.cells cs t fr)).cell? ⟨g, i, none⟩ = cs[i]? := by
  subst hg
  exact cell_of_row _ _ i cs t fr (heap_alloc_new W _)
theorem lit_lies (W : World) (cs : Array Value) (t : TypeId) (fr : Nat × Nat) (g : Nat) (hg : g = W.heap.size) : Lies (W.alloc (.cells cs t fr)) (g + 1) (some ⟨g, 0, none⟩) cs.toList := fun _ =>
  ⟨g, 0, rfl, by simp, fun j u hu => by rw [Nat.zero_add, lit_cell W cs t fr g j hg]; simpa using hu⟩
theorem Lies.alloc {w : World} {B : Nat} {A : Option Addr} {cs : List Value} (h : Lies w B A cs) (hB : B ≤ w.heap.size) (o : Obj) : Lies (w.alloc o) B A cs := h.below ((Below.refl _ _).alloc hB o)
theorem bel_drewN {B : Nat} {a w : World} (h : Below B a w) (n : Nat) : Below B a (w.drewN n) := ⟨h.os, h.tape, h.output, h.size, h.block⟩
theorem bel_trans {a b c : World} (h : Hid (Below a.heap.size a b)) (k : Hid (Below b.heap.size b c)) : Hid (Below a.heap.size a c) := h.out.trans (k.out.mono h.out.size)
theorem lies_bel {w w2 : World} {A : Option Addr} {cs : List Value} (h : Hid (Lies w w.heap.size A cs)) (hb : Hid (Below w.heap.size w w2)) : Hid (Lies w2 w2.heap.size A cs) := (h.out.below hb.out).more hb.out.size
/-- A slice of bytes that lies below block B. -/
def SlB (w : World) (B : Nat) (A : Option Addr) (c : Nat) (bs : List UInt8) : Prop :=
  bs.length ≤ c ∧ c ≤ maxLen ∧ (A = none → c = 0) ∧ Lies w B A (bv bs)
theorem SlB.below {w w' : World} {B : Nat} {A : Option Addr} {c : Nat} {bs : List UInt8} (h : SlB w B A c bs) (hb : Below B w w') : SlB w' B A c bs :=
  ⟨h.1, h.2.1, h.2.2.1, h.2.2.2.below hb⟩
theorem SlB.take {w : World} {B : Nat} {A : Option Addr} {c : Nat} {bs : List UInt8} (h : SlB w B A c bs) (n : Nat) : SlB w B A c (bs.take n) := by
  obtain ⟨h1, h2, h3, h4⟩ := h
  refine ⟨by rw [List.length_take]; omega, h2, h3, fun hn => ?_⟩
  have hne : bv bs ≠ [] := by
    intro e
    have : bs = [] := by simpa [bv] using e
    subst this; simp [bv] at hn
  obtain ⟨b, o, rfl, hb, hc⟩ := h4 hne
  refine ⟨b, o, rfl, hb, fun j u hu => hc j u ?_⟩
  simp only [bv, List.map_take] at hu ⊢
  rw [List.getElem?_take] at hu
  split at hu
  · exact hu
  · cases hu
theorem SlB.drop {w : World} {B : Nat} {a : Addr} {c : Nat} {bs : List UInt8} (h : SlB w B (some a) c bs) (n : Nat) (hn : n ≤ bs.length) : SlB w B (some (if c = n then a else a.add n)) (c - n) (bs.drop n) := by
  obtain ⟨h1, h2, h3, h4⟩ := h
  refine ⟨by rw [List.length_drop]; omega, by omega, by simp, fun hne => ?_⟩
  have hlt : n < bs.length := by
    have : (bv (bs.drop n)).length ≠ 0 := fun e => hne (List.eq_nil_of_length_eq_zero e)
    simp [bv] at this; omega
  obtain ⟨b, o, e, hb, hc⟩ := h4 (by intro e; have := congrArg List.length e; simp [bv] at this; subst this; simp at hlt)
  injection e with e
  subst e
  rw [if_neg (by omega)]
  refine ⟨b, o + n, by rw [Addr.add_lit], hb, fun j u hu => ?_⟩
  rw [Nat.add_assoc]
  apply hc
  simp only [bv, List.map_drop, List.getElem?_drop] at hu ⊢
  exact hu
def num4 (l : List UInt8) : Nat := (l.getD 0 0).toNat * 16777216 + (l.getD 1 0).toNat * 65536 + (l.getD 2 0).toNat * 256 + (l.getD 3 0).toNat
theorem or4 (a b c d : UInt8) : bits .or .u32 (bits .or .u32 (bits .or .u32 ((a.toNat : Int) % 4294967296 * 16777216 % 4294967296) ((b.toNat : Int) % 4294967296 * 65536 % 4294967296)) ((c.toNat : Int) % 4294967296 * 256 % 4294967296)) ((d.toNat : Int) % 4294967296)
    = ((a.toNat * 16777216 + b.toNat * 65536 + c.toNat * 256 + d.toNat : Nat) : Int) := by
  have h0 := a.toNat_lt
  have h1 := b.toNat_lt
  have h2 := c.toNat_lt
  have h3 := d.toNat_lt
  have w32 : ∀ n : Int, 0 ≤ n → n < 2 ^ 32 → IntKind.u32.wrap n = n := fun n h₀ h₁ => by rw [IntKind.wrap_u32']; omega
  rw [bits_join .u32 32 (by decide) w32 24 ((a.toNat : Int) % 4294967296 * 16777216 % 4294967296) _ (by omega) (by omega) (by omega) (by omega) (by omega) (by omega)]
  rw [bits_join .u32 32 (by decide) w32 16 (_ + _) _ (by omega) (by omega) (by omega) (by omega) (by omega) (by omega)]
  rw [bits_join .u32 32 (by decide) w32 8 (_ + _) _ (by omega) (by omega) (by omega) (by omega) (by omega) (by omega)]
  omega
theorem ret2_u32 {x : Int} {n : Nat} (h : x = n) : Ending.returned (.tuple #[.int .u32 x, .int .i64 0]) = .returned (.tuple #[.int .u32 n, .int .i64 0]) := by rw [h]
def four (n : Nat) : List UInt8 := [UInt8.ofNat (n / 16777216), UInt8.ofNat (n / 65536), UInt8.ofNat (n / 256), UInt8.ofNat n]
theorem four_v (n : Nat) (h : n < 4294967296) : bv (four n) = [.int .u8 ((n : Int) / 16777216), .int .u8 ((n : Int) / 65536 % 256), .int .u8 ((n : Int) / 256 % 256), .int .u8 ((n : Int) % 256)] := by
  simp [bv, four]; omega
theorem slb_at {w w2 : World} {A : Option Addr} {c : Nat} {bs : List UInt8} (h : Hid (SlB w w.heap.size A c bs)) (hb : Hid (Below w.heap.size w w2)) : Hid (SlB w2 w2.heap.size A c bs) :=
  ⟨h.out.1, h.out.2.1, h.out.2.2.1, (lies_bel (A := A) h.out.2.2.2 hb).out⟩
theorem own_slb {w : World} {base _n c : Nat} {A : Option Addr} {bs : List UInt8} (h : w.ownsRow base 5 1 (.slice A bs.length c) bs.length (bv bs)) : SlB w w.heap.size A c bs := by
  have hc := own_caps h
  refine ⟨hc.1, hc.2, ?_, Lies.own h⟩
  rintro rfl
  rcases h.2 with ⟨hv, _⟩ | ⟨g, cap, cur, hv, _⟩
  · injection hv
  · injection hv with hv
    cases hv
theorem app_bel {w wr w' : World} {e : TypeId} {n c : Nat} {A : Option Addr} {xs : List Value} (hbw : Below w.heap.size w wr) (hro : wr.ownsRow w.heap.size e 1 (.slice A n c) n xs) (hg : wr.grownBy w' (Value.slice A n c).ownBlock) : Below w.heap.size w w' :=
  hbw.trans (((Kept.refl w.heap.size [e] wr).grown hg (fun k hk => by obtain ⟨a, cs, b⟩ := own_box hro k hk; exact ⟨a, e, cs, by simp, b⟩)).below hbw.size)
theorem own_keep {w w' : World} {base : Nat} {e : TypeId} {size n : Nat} {v : Value} {xs : List Value} (h : w.ownsRow base e size v n xs) (hb : Below w.heap.size w w') : w'.ownsRow base e size v n xs :=
  (Kept.of_below hb 0 []).own h (by simp)
theorem lit_own {w : World} {base : Nat} {e : TypeId} {size g : Nat} (hb : base ≤ w.heap.size) (hg : g = w.heap.size) : (w.alloc (.cells #[] e)).ownsRow base e size (.slice (some ⟨g, 0, none⟩) 0 0) 0 [] := by
  subst hg
  exact World.ownsRow_lit w #[] 0 hb (Nat.zero_le _) (by simp)
/-- An append to an empty literal has turned nothing that was there. -/
theorem lit_grown {w w' : World} {e : TypeId} {g : Nat} (hg : g = w.heap.size) (h : (w.alloc (.cells #[] e)).grownBy w' (Value.slice (some ⟨g, 0, none⟩) 0 0).ownBlock) : Below w.heap.size w w' := by
  subst hg
  refine ⟨h.os, h.tape, h.output, Nat.le_trans (by simp) h.size, fun b hb => ?_⟩
  rw [h.block b (by simp; omega) (by simp [Value.ownBlock]; omega)]
  exact Below.heap_alloc _ _ _ hb
theorem box_below {w w' : World} {g : Nat} {t : TypeId} {cs : Array Value} (h : Box w g t cs) (hb : Below w.heap.size w w') : Box w' g t cs := h.same (hb.block _ h.lt)
theorem box_st {w : World} {g : Nat} {t : TypeId} {cs : Array Value} (h : Box w g t cs) (i : Nat) (u : Value) (o : Obj) : Box ((w.setCell ⟨g, i, none⟩ u).alloc o) g t (cs.setIfInBounds i u) :=
  box_below (h.store i u) ((Below.refl _ _).alloc (Nat.le_refl _) _)
theorem kept_st {w : World} {g : Nat} {t : TypeId} {cs : Array Value} (h : Box w g t cs) (B i : Nat) (hB : B ≤ g) (u : Value) (o : Obj) : Kept B [t] w ((w.setCell ⟨g, i, none⟩ u).alloc o) :=
  ((Kept.refl B [t] w).store h hB (by simp) u).alloc o
theorem Lies.drewN {w : World} {B : Nat} {A : Option Addr} {cs : List Value} (h : Lies w B A cs) (n : Nat) : Lies (w.drewN n) B A cs := h
/-- Nothing but draws. -/
def Quiet (w w' : World) : Prop := ∃ n, w' = w.drewN n
theorem Quiet.refl (w : World) : Quiet w w := ⟨0, rfl⟩
theorem quiet2 (w : World) (a b : Nat) : Quiet w ((w.drewN a).drewN b) := ⟨a + b, World.drewN_drewN w a b⟩
theorem list_ne {α : Type} {a b : List α} (k : Nat) (ha : k < a.length) (hb : k < b.length) (h : a[k] ≠ b[k]) : a ≠ b := by
  rintro rfl
  exact h rfl
theorem ret_u32 {x : Int} {n : Nat} (h : x = n) : Ending.returned (.int .u32 x) = .returned (.int .u32 n) := by rw [h]
def AllU8 (xs : List Value) : Prop := ∀ j (h : j < xs.length), ∃ z : Int, xs[j] = .int .u8 z
theorem allu8_bv (bs : List UInt8) : AllU8 (bv bs) := fun j h => ⟨((bs[j]'(by simpa [bv] using h)).toNat : Int), by simp [bv]⟩
theorem allu8_set {xs : List Value} (h : AllU8 xs) (k : Nat) (z : Int) : AllU8 (xs.set k (.int .u8 z)) := fun j hj => by
  rw [List.getElem_set]
  split
  · exact ⟨_, rfl⟩
  · exact h j (by simpa using hj)
theorem Try.info5 : (Try.prog.info? 5).map (fun i => (i.zero, i.size, i.bytes)) = some (some (.int .u8 0), 1, 1) := by kernel_rfl
theorem Try.info22 : (Try.prog.info? 27).map (fun i => (i.zero, i.size, i.bytes)) = some (some (.slice none 0 0), 1, 24) := by kernel_rfl
set_option maxHeartbeats 1000000 in
set_option maxRecDepth 100000 in
theorem bytes_any (w : World) (B B2 : Nat) (A A2 : Option Addr) (c c2 : Nat) (xs ys : List UInt8) (hx : Lies w B A (bv xs)) (hy : Lies w B2 A2 (bv ys)) (hl : xs.length ≤ maxLen) (hl2 : ys.length ≤ maxLen) :
    Calls Try.prog 9 #[.slice A xs.length c, .slice A2 ys.length c2] w fun e w' => e = .returned (.bool (decide (xs = ys))) ∧ Quiet w w' := by
  unfold maxLen at hl hl2
  have HX := hid hx
  have HY := hid hy
  clear hx hy
  by_cases hlen : xs.length = ys.length
  · have ht : ((xs.length : Int) == ys.length) = true := by simp [hlen]
    have ht2 : ((xs.length : Int) != ys.length) = false := by simp [hlen]
    have HL := hid hlen
    clear hlen
    go_enter Try.func9, Try.ntmps9
    go_wp2
    go_loopw [13] (fun i wr => ∃ k d : Nat, k ≤ xs.length ∧ i = .int .i64 k ∧ wr = w.drewN d ∧ Hid (xs.take k = ys.take k)) (fun i _ => xs.length - (intOf i).toNat)
    case atStart => exact ⟨0, 0, Nat.zero_le _, rfl, rfl, rfl⟩
    case round =>
      obtain ⟨k, d, hk, rfl, rfl, HT⟩ := hrel
      by_cases hlt : k < xs.length
      · have hlt2 : k < ys.length := by have := HL.out; omega
        obtain ⟨b, o, rfl, _, hc1⟩ := HX.out (by intro e; have := congrArg List.length e; simp [bv] at this; subst this; simp at hlt)
        obtain ⟨b2, o2, rfl, _, hc2⟩ := HY.out (by intro e; have := congrArg List.length e; simp [bv] at this; subst this; simp at hlt2)
        have c1 : w.cell? ⟨b, o + k, none⟩ = some (.int .u8 xs[k].toNat) := hc1 k _ (by simp [bv, hlt])
        have c2 : w.cell? ⟨b2, o2 + k, none⟩ = some (.int .u8 ys[k].toNat) := hc2 k _ (by simp [bv, hlt2])
        clear hc1 hc2
        have hi1 : (k : Int) < xs.length := by omega
        have hi2 : (k : Int) < ys.length := by omega
        by_cases he : xs[k] = ys[k]
        · have t1 : ((xs[k].toNat : Int) == ys[k].toNat) = true := by simp [he]
          have t2 : ((xs[k].toNat : Int) != ys[k].toNat) = false := by simp [he]
          have HS : Hid (xs.take (k + 1) = ys.take (k + 1)) := by
            show _ = _
            rw [take_snoc _ _ hlt, take_snoc _ _ hlt2, HT.out, he]
          clear he
          go_wp2
          go_quiet (fail)
          go_wp2
          go_roundw
          case rel => exact ⟨k + 1, _, by omega, by go_num, rfl, HS.out⟩
          case measure => simp [intOf]; omega
        · have hne : xs[k].toNat ≠ ys[k].toNat := fun h => he (UInt8.toNat_inj.1 h)
          have t1 : ((xs[k].toNat : Int) == ys[k].toNat) = false := by simp; omega
          have t2 : ((xs[k].toNat : Int) != ys[k].toNat) = true := by simp; omega
          have hF : Hid (decide (xs = ys) = false) := by
            show _ = _
            simp
            exact list_ne k hlt hlt2 he
          clear he hne
          go_wp2
          go_quiet (fail)
          go_wp2
          go_ret
          rw [hF.out]
          exact ⟨rfl, quiet2 _ _ _⟩
      · have hF : Hid (decide (xs = ys) = true) := by
          show _ = _
          have h := HT.out
          rw [List.take_of_length_le (by omega), List.take_of_length_le (by have := HL.out; omega)] at h
          simp [h]
        go_wp2
        go_ret
        rw [hF.out]
        exact ⟨rfl, _, rfl⟩
  · have hF : Hid (decide (xs = ys) = false) := by
      show _ = _
      simp
      intro e
      exact hlen (by rw [e])
    have ht : ((xs.length : Int) == ys.length) = false := by simp; omega
    have ht2 : ((xs.length : Int) != ys.length) = true := by simp; omega
    clear hlen
    go_enter Try.func9, Try.ntmps9
    go_wp2
    go_ret
    rw [hF.out]
    exact ⟨rfl, Quiet.refl _⟩
end Go.Proofs.Ytggcampdkgfmgaa
namespace Go.Proofs.Ytggcampdkgfmgaa
open Go.RowKit

/-- Is an opcode a flag? -/
def flagB (op : Int) : Bool := (decide (30 ≤ op) && decide (op ≤ 42)) || (decide (50 ≤ op) && decide (op ≤ 62)) || (decide (70 ≤ op) && decide (op ≤ 75)) || (decide (90 ≤ op) && decide (op ≤ 93))
/-- Where its bit stands. -/
def kb (op : Int) : Nat := (op - 30).toNat
theorem flag_rng {op : Int} (h : flagB op = true) : 30 ≤ op ∧ op ≤ 93 := by
  simp [flagB] at h
  omega
theorem kb_lt {op : Int} (h : flagB op = true) : kb op < 64 := by
  have := flag_rng h
  unfold kb
  omega
theorem kb_inj {a b : Int} (ha : flagB a = true) (hb : flagB b = true) (h : kb a = kb b) : a = b := by
  have := flag_rng ha
  have := flag_rng hb
  unfold kb at h
  omega
def top : Nat := 18446744073709551615
/-- A number's flags with one on, or off. -/
def setN (f : Nat) (op : Int) (on : Bool) : Nat := if flagB op = true then (if on = true then f ||| 2 ^ kb op else f &&& (top - 2 ^ kb op)) else f
def hasN (f : Nat) (op : Int) : Bool := flagB op && f.testBit (kb op)
theorem pow_lt {k : Nat} (h : k < 64) : 2 ^ k < 18446744073709551616 := by
  have : 2 ^ k < 2 ^ 64 := Nat.pow_lt_pow_right (by decide) h
  simpa using this
theorem testBit_not {k i : Nat} (hk : k < 64) : (top - 2 ^ k).testBit i = (decide (i < 64) && !decide (k = i)) := by
  have h := Nat.testBit_two_pow_sub_succ (x := 2 ^ k) (n := 64) (by simpa using pow_lt hk) i
  have e : 2 ^ 64 - (2 ^ k + 1) = top - 2 ^ k := by unfold top; omega
  rw [e] at h
  rw [h, Nat.testBit_two_pow]
theorem big_bit {f i : Nat} (hf : f < 18446744073709551616) (hi : 64 ≤ i) : f.testBit i = false := by
  apply Nat.testBit_lt_two_pow
  have : 2 ^ 64 ≤ 2 ^ i := Nat.pow_le_pow_right (by decide) hi
  have e : (2 : Nat) ^ 64 = 18446744073709551616 := by decide
  omega
theorem setN_bit {f : Nat} (hf : f < 18446744073709551616) (op : Int) (on : Bool) (i : Nat) : (setN f op on).testBit i = if flagB op = true ∧ kb op = i then on else f.testBit i := by
  unfold setN
  by_cases hg : flagB op = true
  · have hk := kb_lt hg
    cases on
    · simp only [hg, if_true, Bool.false_eq_true, if_false, true_and, Nat.testBit_and, testBit_not hk]
      by_cases he : kb op = i
      · simp [he]
      · by_cases hi : i < 64
        · simp [he, hi]
        · simp [he, hi, big_bit hf (Nat.le_of_not_lt hi)]
    · simp only [hg, if_true, true_and, Nat.testBit_or, Nat.testBit_two_pow]
      by_cases he : kb op = i
      · simp [he]
      · simp [he]
  · simp [hg]
theorem setN_lt {f : Nat} (hf : f < 18446744073709551616) (op : Int) (on : Bool) : setN f op on < 18446744073709551616 := by
  unfold setN
  by_cases hg : flagB op = true
  · have hk := kb_lt hg
    cases on
    · simp only [hg, if_true, Bool.false_eq_true, if_false]
      exact Nat.lt_of_le_of_lt Nat.and_le_left hf
    · simp only [hg, if_true]
      have := Nat.or_lt_two_pow (n := 64) (by simpa using hf) (by simpa using pow_lt hk)
      simpa using this
  · simpa [hg] using hf
theorem bits_eq {a b : Nat} (ha : a < 18446744073709551616) (hb : b < 18446744073709551616) (h : ∀ i, i < 64 → a.testBit i = b.testBit i) : a = b := by
  apply Nat.eq_of_testBit_eq
  intro i
  by_cases hi : i < 64
  · exact h i hi
  · rw [big_bit ha (Nat.le_of_not_lt hi), big_bit hb (Nat.le_of_not_lt hi)]
theorem setN_has {f : Nat} (hf : f < 18446744073709551616) (op : Int) (on : Bool) (p : Int) : hasN (setN f op on) p = if flagB op = true ∧ op = p then on else hasN f p := by
  unfold hasN
  by_cases hp : flagB p = true
  · rw [setN_bit hf]
    by_cases hg : flagB op = true
    · by_cases he : op = p
      · subst he; simp [hg]
      · have : kb op ≠ kb p := fun e => he (kb_inj hg hp e)
        simp [hp, he, this]
    · simp [hp, hg]
  · by_cases hg : flagB op = true
    · have he : op ≠ p := by rintro rfl; exact hp hg
      simp [hp, he]
    · simp [hp, hg]
/-- What the document's Set does: the bit's number is added, or taken away. -/
theorem add_bit {f k : Nat} (hk : k < 64) (hf : f < 18446744073709551616) (h : f.testBit k = false) : f + 2 ^ k = f ||| 2 ^ k := by
  have h0 : BitVec.ofNat 64 f &&& BitVec.ofNat 64 (2 ^ k) = 0#64 := by
    apply BitVec.eq_of_getLsbD_eq
    intro i hi
    simp only [BitVec.getLsbD_and, BitVec.getLsbD_ofNat, Nat.testBit_two_pow]
    by_cases he : k = i
    · subst he; simp [h]
    · simp [he]
  have h1 := BitVec.add_eq_or_of_and_eq_zero _ _ h0
  have h2 := congrArg BitVec.toNat h1
  have hp := pow_lt hk
  simp only [BitVec.toNat_add, BitVec.toNat_or, BitVec.toNat_ofNat] at h2
  have e : (2 : Nat) ^ 64 = 18446744073709551616 := by decide
  rw [e, Nat.mod_eq_of_lt hf, Nat.mod_eq_of_lt hp] at h2
  have hor : f ||| 2 ^ k < 18446744073709551616 := by
    have := Nat.or_lt_two_pow (n := 64) (by simpa using hf) (by simpa using hp)
    simpa using this
  have hlt : f + 2 ^ k < 18446744073709551616 := by
    by_cases hlt : f + 2 ^ k < 18446744073709551616
    · exact hlt
    · exfalso
      have hle : f ||| 2 ^ k ≥ f := Nat.left_le_or
      have : (f + 2 ^ k) % 18446744073709551616 = f + 2 ^ k - 18446744073709551616 := by omega
      omega
  rw [Nat.mod_eq_of_lt hlt] at h2
  exact h2
theorem sub_bit {f k : Nat} (hk : k < 64) (hf : f < 18446744073709551616) (h : f.testBit k = true) : f - 2 ^ k = f &&& (top - 2 ^ k) ∧ 2 ^ k ≤ f := by
  have hlt : f &&& (top - 2 ^ k) < 18446744073709551616 := Nat.lt_of_le_of_lt Nat.and_le_left hf
  have hb : (f &&& (top - 2 ^ k)).testBit k = false := by
    rw [Nat.testBit_and, testBit_not hk]; simp
  have h1 := add_bit hk hlt hb
  have h2 : (f &&& (top - 2 ^ k)) ||| 2 ^ k = f := by
    have hor : (f &&& (top - 2 ^ k)) ||| 2 ^ k < 18446744073709551616 := by
      have := Nat.or_lt_two_pow (n := 64) (by simpa using hlt) (by simpa using pow_lt hk)
      simpa using this
    refine bits_eq hor hf fun i hi => ?_
    simp only [Nat.testBit_or, Nat.testBit_and, testBit_not hk, Nat.testBit_two_pow]
    by_cases he : k = i
    · subst he; simp [h]
    · simp [he, hi]
  rw [h2] at h1
  omega
theorem setN_add {f : Nat} {op : Int} (hf : f < 18446744073709551616) (hg : flagB op = true) (h : hasN f op = false) : f + 2 ^ kb op = setN f op true ∧ f + 2 ^ kb op < 18446744073709551616 := by
  have h' : f.testBit (kb op) = false := by simpa [hasN, hg] using h
  have e : setN f op true = f + 2 ^ kb op := by simp [setN, hg, add_bit (kb_lt hg) hf h']
  exact ⟨e.symm, e ▸ setN_lt hf op true⟩
theorem setN_sub {f : Nat} {op : Int} (hf : f < 18446744073709551616) (hg : flagB op = true) (h : hasN f op = true) : f - 2 ^ kb op = setN f op false ∧ 2 ^ kb op ≤ f := by
  have h' : f.testBit (kb op) = true := by simpa [hasN, hg] using h
  have e := sub_bit (kb_lt hg) hf h'
  exact ⟨by simp [setN, hg, e.1], e.2⟩
theorem setN_same {f : Nat} {op : Int} {on : Bool} (hf : f < 18446744073709551616) (h : hasN f op = on) : setN f op on = f := by
  refine bits_eq (setN_lt hf op on) hf fun i hi => ?_
  rw [setN_bit hf]
  split
  · rename_i hh
    obtain ⟨hg, rfl⟩ := hh
    simpa [hasN, hg] using h.symm
  · rfl
theorem setN_no {f : Nat} {op : Int} {on : Bool} (hg : flagB op = false) : setN f op on = f := by simp [setN, hg]
/-- Has, as the program asks it, and as the document does. -/
theorem has_and (f : Nat) (k : Nat) : (f &&& 2 ^ k = 0) ↔ f.testBit k = false := by
  constructor
  · intro h
    have h1 := congrArg (fun x => x.testBit k) h
    simpa [Nat.testBit_and, Nat.testBit_two_pow] using h1
  · intro h
    apply Nat.eq_of_testBit_eq
    intro i
    rw [Nat.testBit_and, Nat.testBit_two_pow, Nat.zero_testBit]
    by_cases he : k = i
    · subst he; simp [h]
    · simp [he]
theorem has_div (f k : Nat) : (f / 2 ^ k % 2 = 1) ↔ f.testBit k = true := by
  rw [Nat.testBit_eq_decide_div_mod_eq]; simp
/-- The flags, as the iterator yields them. -/
def flagsL : List Int := [30, 31, 32, 33, 34, 35, 36, 37, 38, 39, 40, 41, 42, 50, 51, 52, 53, 54, 55, 56, 57, 58, 59, 60, 61, 62, 70, 71, 72, 73, 74, 75, 90, 91, 92, 93]
theorem mem_flags (op : Int) : op ∈ flagsL ↔ flagB op = true := by
  constructor
  · intro h
    have : ∀ x ∈ flagsL, flagB x = true := by decide
    exact this op h
  · intro h
    simp [flagB] at h
    simp [flagsL]
    omega
def maskL (l : List Int) : Nat := l.foldl (fun a op => a ||| 2 ^ kb op) 0
theorem maskL_snoc (l : List Int) (op : Int) : maskL (l ++ [op]) = maskL l ||| 2 ^ kb op := by simp [maskL]
def mask : Nat := maskL flagsL
theorem mask_bit (i : Nat) (hi : i < 64) : mask.testBit i = flagB ((i : Int) + 30) := by
  have : ∀ j : Fin 64, mask.testBit j.1 = flagB ((j.1 : Int) + 30) := by decide
  exact this ⟨i, hi⟩
theorem maskL_lt (l : List Int) (h : ∀ x ∈ l, flagB x = true) : maskL l < 18446744073709551616 := by
  have : ∀ (l : List Int) (a : Nat), a < 18446744073709551616 → (∀ x ∈ l, flagB x = true) → l.foldl (fun a op => a ||| 2 ^ kb op) a < 18446744073709551616 := by
    intro l
    induction l with
    | nil => intro a ha _; exact ha
    | cons x l ih =>
      intro a ha hl
      refine ih _ ?_ (fun y hy => hl y (by simp [hy]))
      have := Nat.or_lt_two_pow (n := 64) (by simpa using ha) (by simpa using pow_lt (kb_lt (hl x (by simp))))
      simpa using this
  exact this l 0 (by decide) h
theorem mask_lt : mask < 18446744073709551616 := maskL_lt flagsL fun x hx => (mem_flags x).1 hx
/-- What is left of flags when those below an opcode are off. -/
def restN (f : Nat) : Nat → Nat
  | 0 => f
  | n + 1 => setN (restN f n) (30 + n) false
theorem restN_lt {f : Nat} (hf : f < 18446744073709551616) : ∀ n, restN f n < 18446744073709551616
  | 0 => hf
  | n + 1 => setN_lt (restN_lt hf n) _ _
theorem restN_bit {f : Nat} (hf : f < 18446744073709551616) (i : Nat) (hi : i < 64) : ∀ n, (restN f n).testBit i = (f.testBit i && !(flagB ((i : Int) + 30) && decide (i < n)))
  | 0 => by simp [restN]
  | n + 1 => by
    show (setN (restN f n) (30 + n) false).testBit i = _
    rw [setN_bit (restN_lt hf n), restN_bit hf i hi n]
    by_cases he : i = n
    · subst he
      have e : (i : Int) + 30 = 30 + i := by omega
      by_cases hg : flagB (30 + (i : Int)) = true
      · have : kb (30 + (i : Int)) = i := by unfold kb; omega
        simp [hg, this, e]
      · simp [hg, e]
    · have h1 : ¬ (flagB (30 + (n : Int)) = true ∧ kb (30 + (n : Int)) = i) := fun h => by
        have := h.2
        unfold kb at this
        omega
      have h2 : decide (i < n + 1) = decide (i < n) := by
        apply decide_eq_decide.2; omega
      simp only [h1, if_false, h2]
theorem right_eq {f : Nat} (hf : f < 18446744073709551616) : (f &&& (top - mask) = 0) ↔ restN f 64 = 0 := by
  have hm := mask_lt
  have htm : ∀ i, i < 64 → (top - mask).testBit i = !flagB ((i : Int) + 30) := by
    intro i hi
    have h := Nat.testBit_two_pow_sub_succ (x := mask) (n := 64) (by simpa using hm) i
    have e : 2 ^ 64 - (mask + 1) = top - mask := by unfold top; omega
    rw [e] at h
    rw [h, mask_bit i hi]
    simp [hi]
  have key : f &&& (top - mask) = restN f 64 := by
    refine bits_eq (Nat.lt_of_le_of_lt Nat.and_le_left hf) (restN_lt hf 64) fun i hi => ?_
    rw [Nat.testBit_and, htm i hi, restN_bit hf i hi]
    simp [hi]
  rw [key]
/-- No other bits are on. -/
def okF (f : Nat) : Prop := f &&& (top - mask) = 0
instance (f : Nat) : Decidable (okF f) := inferInstanceAs (Decidable (_ = _))
theorem okF_iff {f : Nat} (hf : f < 18446744073709551616) : okF f ↔ ∀ i, i < 64 → f.testBit i = true → flagB ((i : Int) + 30) = true := by
  unfold okF
  rw [right_eq hf]
  constructor
  · intro h i hi hb
    have h1 := restN_bit hf i hi 64
    rw [h] at h1
    simp [hb, hi] at h1
    exact h1
  · intro h
    refine bits_eq (restN_lt hf 64) (by decide) fun i hi => ?_
    rw [restN_bit hf i hi]
    cases hb : f.testBit i
    · simp
    · simp [h i hi hb, hi]
theorem okF_set {f : Nat} (hf : f < 18446744073709551616) (op : Int) (on : Bool) : okF (setN f op on) ↔ okF f := by
  rw [okF_iff (setN_lt hf op on), okF_iff hf]
  have hk : ∀ i, i < 64 → flagB op = true ∧ kb op = i → flagB ((i : Int) + 30) = true := by
    rintro i hi ⟨hg, rfl⟩
    have := flag_rng hg
    have e : ((kb op : Nat) : Int) + 30 = op := by unfold kb; omega
    rw [e]; exact hg
  constructor
  · intro h i hi hb
    by_cases hh : flagB op = true ∧ kb op = i
    · exact hk i hi hh
    · exact h i hi (by rw [setN_bit hf, if_neg hh]; exact hb)
  · intro h i hi hb
    by_cases hh : flagB op = true ∧ kb op = i
    · exact hk i hi hh
    · rw [setN_bit hf, if_neg hh] at hb
      exact h i hi hb
end Go.Proofs.Ytggcampdkgfmgaa
namespace Go.Proofs.Ytggcampdkgfmgaa
open Go.RowKit Go.Shelf
attribute [local go_sem] Oper.semAt_some

/-- What a round keeps: the blocks of the iterator's own variable. -/
def Span (W W' : World) : Prop := ∀ (b : Nat) (cs : Array Value), W.heap[b]? = some (.cells cs 113 (0, 0)) → W'.heap[b]? = some (.cells cs 113 (0, 0))
theorem span_t {A B C : World} (h : Span A B) (k : Span B C) : Span A C := fun b cs hb => k b cs (h b cs hb)
theorem span_b {w : World} (W : World) (l : Nat) (o o' : Obj) (_ : w.heap.size ≤ l) (h : W.heap[l]? = some o) (hc : o.isCells = false) (_ : o.isWalk = false) : Span W (W.putObj l o') := fun b cs hb => by
  have : b ≠ l := by
    rintro rfl
    rw [h] at hb
    injection hb with hb
    subst hb
    cases hc
  rw [World.putObj_heap_other this]
  exact hb
theorem span_refl (W : World) : Span W W := fun _ _ h => h
theorem span_below {W W' : World} (h : Below W.heap.size W W') : Span W W' := fun b _cs hb => (h.block b (Array.getElem?_eq_some_iff.1 hb).1).trans hb
theorem run_part_agg {P : Program} (w : World) (e : TypeId) (d : TypeDesc) (sz : Nat) (cs : Array Value) (off : Nat) (hu : P.underlying e = some d) (hd : (match d with | .struct _ | .array _ _ => true | _ => false) = true) (hi : (P.info? e).map (·.size) = some sz) :
    (part e cs off).run P w = .ok (.agg (cs.extract off (off + sz))) w := by
  cases hq : P.info? e with
  | none => simp [hq] at hi
  | some i =>
    have hs : i.size = sz := by simpa [hq] using hi
    have hagg : (isAgg e).run P w = .ok true w := by
      unfold isAgg
      rw [Sem.run_bind, run_underlying hu w]
      cases d <;> simp_all
    simp [part, Sem.run_bind, hagg, sizeOf, typeInfo, hq, hs]
theorem run_index_agg {P : Program} (w : World) (t e : TypeId) (len : Nat) (d : TypeDesc) (sz : Nat) (cs : Array Value) (k : IntKind) (i : Nat) (ht : P.underlying t = some (.array len e)) (hu : P.underlying e = some d) (hd : (match d with | .struct _ | .array _ _ => true | _ => false) = true) (hi : (P.info? e).map (·.size) = some sz) (hlt : i < len) :
    (Instr.index t (.agg cs) (.int k (i : Int))).run P w = .ok (.agg (cs.extract (i * sz) (i * sz + sz))) w := by
  have hsz : (sizeOf e).run P w = .ok sz w := by
    cases hq : P.info? e with
    | none => simp [hq] at hi
    | some i0 => simp [sizeOf, typeInfo, hq] at hi ⊢; exact hi
  have h2 : ((i : Int) < len) := by omega
  simp [Instr.index, asIntOf, run_underlying ht, hsz, run_part_agg w e d sz cs _ hu hd hi]
  intro h
  omega
theorem Try.size52 : (Try.prog.info? 113).map (·.size) = some 2 := by kernel_rfl
theorem span_kept {W W' : World} {B : Nat} {T : List TypeId} (h : Kept B T W W') (hT : 113 ∉ T) : Span W W' := fun _b _cs hb => h.box (t := 113) hb hT

abbrev Fl := { x : Int // flagB x = true }
/-- The flags, each with the proof that it is one. -/
def flagsF : List Fl := flagsL.pmap Subtype.mk fun x hx => (mem_flags x).1 hx
theorem flagsF_len : flagsF.length = 36 := by simp [flagsF, flagsL]
theorem flagsF_val : flagsF.map (·.1) = flagsL := by simp [flagsF, List.map_pmap]
theorem flagsF_at {m : Nat} {x : Int} (h : flagsL[m]? = some x) (hx : flagB x = true) : flagsF[m]? = some ⟨x, hx⟩ := by simp [flagsF, List.getElem?_pmap, h]
theorem flags_at_flag {m : Nat} {x : Int} (h : flagsL[m]? = some x) : flagB x = true := (mem_flags x).1 (List.mem_of_getElem? h)
theorem flags_take (m : Nat) (x : Fl) (h : flagsF[m]? = some x) : flagsF.take m ++ [x] = flagsF.take (m + 1) := by
  rw [List.take_add_one, h]
  rfl
theorem flags_pre (m : Nat) : flagsF.take m <+: flagsF := List.take_prefix m flagsF
theorem flags_at0 (j : Nat) (h : j < 13) : flagsL[0 + j]? = some (30 + (j : Int)) := by
  have : ∀ k : Fin 13, flagsL[0 + k.1]? = some (30 + (k.1 : Int)) := by decide
  exact this ⟨j, h⟩
theorem flags_at1 (j : Nat) (h : j < 13) : flagsL[13 + j]? = some (50 + (j : Int)) := by
  have : ∀ k : Fin 13, flagsL[13 + k.1]? = some (50 + (k.1 : Int)) := by decide
  exact this ⟨j, h⟩
theorem flags_at2 (j : Nat) (h : j < 6) : flagsL[26 + j]? = some (70 + (j : Int)) := by
  have : ∀ k : Fin 6, flagsL[26 + k.1]? = some (70 + (k.1 : Int)) := by decide
  exact this ⟨j, h⟩
theorem flags_at3 (j : Nat) (h : j < 4) : flagsL[32 + j]? = some (90 + (j : Int)) := by
  have : ∀ k : Fin 4, flagsL[32 + k.1]? = some (90 + (k.1 : Int)) := by decide
  exact this ⟨j, h⟩

set_option maxRecDepth 100000 in
set_option maxHeartbeats 4000000 in
/-- The iterator yields the flags, in order. -/
theorem flags_stops (F : Fence) (n : Nat) (h39 : F.fn 59) (hro : F.round = none) (hn : 1 ≤ n) (w : World) :
    SeqStopsK F n Try.prog 59 #[] (fun x : Fl => #[Value.int .i64 x.1]) Span (fun ys => ys = flagsF) (fun pre => pre <+: flagsF) 36 w := fun l J Jx W _ hJ _ hY h0 => by
  refine callsIn_of_wp Try.func59 rfl h39 ?_ hro
  simp only [Try.ntmps59, List.size_toArray, List.length_cons, List.length_nil, Nat.reduceAdd, Nat.reduceSub, Array.replicate_succ, Array.replicate_zero, List.push_toArray, List.append_toArray, List.nil_append, List.cons_append]
  gi_wp2
  gi_loopw [10] (fun i wr => ∃ k : Nat, k ≤ 4 ∧ i = .int .i64 k ∧ J (flagsF.take ([0, 13, 26, 32, 36].getD k 0)) wr) (fun i _ => 4 - (intOf i).toNat)
  case atStart => exact ⟨0, by omega, rfl, h0⟩
  case round =>
    obtain ⟨k, hk, rfl, hJs⟩ := hrel
    by_cases hlt : k < 4
    · rcases (by omega : k = 0 ∨ k = 1 ∨ k = 2 ∨ k = 3) with h | h | h | h
      · have hJ0 : J (flagsF.take 0) wr := by rw [h] at hJs; exact hJs
        have hkc : (k : Int) = 0 := by omega
        rw [hkc]
        clear hJs hkc h hk hlt
        have hix : ∀ W : World, (Instr.index 114 (.agg #[.int .i64 30, .int .i64 42, .int .i64 50, .int .i64 62, .int .i64 70, .int .i64 75, .int .i64 90, .int .i64 93]) (.int .i64 0)).run Try.prog W = .ok (.agg #[.int .i64 30, .int .i64 42]) W := fun W => run_index_agg W 114 113 4 _ 2 _ .i64 0 Try.underlying114 Try.underlying113 rfl Try.size52 (by decide)
        gi_wp2
        have hB0 : (wr.alloc (.cells #[.int .i64 30, .int .i64 42] 113)).heap[wr.heap.size]? = some (.cells #[.int .i64 30, .int .i64 42] 113 (0, 0)) := heap_alloc_new _ _
        obtain ⟨p, hp⟩ : ∃ p, p = wr.heap.size := ⟨_, rfl⟩
        rw [← hp] at hB0 ⊢
        have hJ1 : J (flagsF.take 0) (wr.alloc (.cells #[.int .i64 30, .int .i64 42] 113)) := hJ _ _ _ none hJ0 (World.grownBy_alloc wr _ none) (by simp)
        generalize wr.alloc (.cells #[.int .i64 30, .int .i64 42] 113) = w1 at hB0 hJ1 ⊢
        clear hp hJ0
        gi_loopw [4] (fun o wr2 => ∃ j : Nat, j ≤ 13 ∧ o = .int .i64 (30 + (j : Int)) ∧ J (flagsF.take (0 + j)) wr2 ∧ wr2.heap[p]? = some (.cells #[.int .i64 30, .int .i64 42] 113 (0, 0))) (fun o _ => 43 - (intOf o).toNat)
        case atStart => exact ⟨0, by omega, rfl, hJ1, hB0⟩
        case round =>
          clear hJ1 hB0
          obtain ⟨j, hj, rfl, hJ2, hB2⟩ := hrel
          have c1 : wr.cell? ⟨p, 1, none⟩ = some (.int .i64 42) := cell_of_row _ _ 1 _ _ _ hB2
          by_cases hjl : j < 13
          · obtain ⟨fn, tmps, assign, body, hy, hR⟩ := hY (flagsF.take (0 + j)) ⟨30 + (j : Int), flags_at_flag (flags_at0 j hjl)⟩ wr hJ2 (by rw [List.length_take, flagsF_len]; omega)
            dsimp only at hy
            gi_wp2
            refine hR.mono ?_
            rintro e W3 (⟨rfl, hJ3, hk3⟩ | ⟨rfl, hJx3⟩)
            · rw [flags_take _ _ (flagsF_at (flags_at0 j hjl) _)] at hJ3
              have hB3 := hk3 _ _ hB2
              gi_wp2
              go_roundw
              case rel => exact ⟨j + 1, by omega, by go_num, hJ3, hB3⟩
              case measure => simp [intOf]; omega
            · gi_wp2
              refine bodyPost_ret (results_none rfl _ _ _) rfl ?_
              rw [flags_take _ _ (flagsF_at (flags_at0 j hjl) _)] at hJx3
              exact ⟨⟨_, rfl⟩, .inr ⟨_, flags_pre _, hJx3⟩⟩
          · obtain rfl : j = 13 := by omega
            gi_wp2
            go_roundw
            case rel => exact ⟨1, by omega, by go_num, hJ2⟩
            case measure => simp [intOf]
      · have hJ0 : J (flagsF.take 13) wr := by rw [h] at hJs; exact hJs
        have hkc : (k : Int) = 1 := by omega
        rw [hkc]
        clear hJs hkc h hk hlt
        have hix : ∀ W : World, (Instr.index 114 (.agg #[.int .i64 30, .int .i64 42, .int .i64 50, .int .i64 62, .int .i64 70, .int .i64 75, .int .i64 90, .int .i64 93]) (.int .i64 1)).run Try.prog W = .ok (.agg #[.int .i64 50, .int .i64 62]) W := fun W => run_index_agg W 114 113 4 _ 2 _ .i64 1 Try.underlying114 Try.underlying113 rfl Try.size52 (by decide)
        gi_wp2
        have hB0 : (wr.alloc (.cells #[.int .i64 50, .int .i64 62] 113)).heap[wr.heap.size]? = some (.cells #[.int .i64 50, .int .i64 62] 113 (0, 0)) := heap_alloc_new _ _
        obtain ⟨p, hp⟩ : ∃ p, p = wr.heap.size := ⟨_, rfl⟩
        rw [← hp] at hB0 ⊢
        have hJ1 : J (flagsF.take 13) (wr.alloc (.cells #[.int .i64 50, .int .i64 62] 113)) := hJ _ _ _ none hJ0 (World.grownBy_alloc wr _ none) (by simp)
        generalize wr.alloc (.cells #[.int .i64 50, .int .i64 62] 113) = w1 at hB0 hJ1 ⊢
        clear hp hJ0
        gi_loopw [4] (fun o wr2 => ∃ j : Nat, j ≤ 13 ∧ o = .int .i64 (50 + (j : Int)) ∧ J (flagsF.take (13 + j)) wr2 ∧ wr2.heap[p]? = some (.cells #[.int .i64 50, .int .i64 62] 113 (0, 0))) (fun o _ => 63 - (intOf o).toNat)
        case atStart => exact ⟨0, by omega, rfl, hJ1, hB0⟩
        case round =>
          clear hJ1 hB0
          obtain ⟨j, hj, rfl, hJ2, hB2⟩ := hrel
          have c1 : wr.cell? ⟨p, 1, none⟩ = some (.int .i64 62) := cell_of_row _ _ 1 _ _ _ hB2
          by_cases hjl : j < 13
          · obtain ⟨fn, tmps, assign, body, hy, hR⟩ := hY (flagsF.take (13 + j)) ⟨50 + (j : Int), flags_at_flag (flags_at1 j hjl)⟩ wr hJ2 (by rw [List.length_take, flagsF_len]; omega)
            dsimp only at hy
            gi_wp2
            refine hR.mono ?_
            rintro e W3 (⟨rfl, hJ3, hk3⟩ | ⟨rfl, hJx3⟩)
            · rw [flags_take _ _ (flagsF_at (flags_at1 j hjl) _)] at hJ3
              have hB3 := hk3 _ _ hB2
              gi_wp2
              go_roundw
              case rel => exact ⟨j + 1, by omega, by go_num, hJ3, hB3⟩
              case measure => simp [intOf]; omega
            · gi_wp2
              refine bodyPost_ret (results_none rfl _ _ _) rfl ?_
              rw [flags_take _ _ (flagsF_at (flags_at1 j hjl) _)] at hJx3
              exact ⟨⟨_, rfl⟩, .inr ⟨_, flags_pre _, hJx3⟩⟩
          · obtain rfl : j = 13 := by omega
            gi_wp2
            go_roundw
            case rel => exact ⟨2, by omega, by go_num, hJ2⟩
            case measure => simp [intOf]
      · have hJ0 : J (flagsF.take 26) wr := by rw [h] at hJs; exact hJs
        have hkc : (k : Int) = 2 := by omega
        rw [hkc]
        clear hJs hkc h hk hlt
        have hix : ∀ W : World, (Instr.index 114 (.agg #[.int .i64 30, .int .i64 42, .int .i64 50, .int .i64 62, .int .i64 70, .int .i64 75, .int .i64 90, .int .i64 93]) (.int .i64 2)).run Try.prog W = .ok (.agg #[.int .i64 70, .int .i64 75]) W := fun W => run_index_agg W 114 113 4 _ 2 _ .i64 2 Try.underlying114 Try.underlying113 rfl Try.size52 (by decide)
        gi_wp2
        have hB0 : (wr.alloc (.cells #[.int .i64 70, .int .i64 75] 113)).heap[wr.heap.size]? = some (.cells #[.int .i64 70, .int .i64 75] 113 (0, 0)) := heap_alloc_new _ _
        obtain ⟨p, hp⟩ : ∃ p, p = wr.heap.size := ⟨_, rfl⟩
        rw [← hp] at hB0 ⊢
        have hJ1 : J (flagsF.take 26) (wr.alloc (.cells #[.int .i64 70, .int .i64 75] 113)) := hJ _ _ _ none hJ0 (World.grownBy_alloc wr _ none) (by simp)
        generalize wr.alloc (.cells #[.int .i64 70, .int .i64 75] 113) = w1 at hB0 hJ1 ⊢
        clear hp hJ0
        gi_loopw [4] (fun o wr2 => ∃ j : Nat, j ≤ 6 ∧ o = .int .i64 (70 + (j : Int)) ∧ J (flagsF.take (26 + j)) wr2 ∧ wr2.heap[p]? = some (.cells #[.int .i64 70, .int .i64 75] 113 (0, 0))) (fun o _ => 76 - (intOf o).toNat)
        case atStart => exact ⟨0, by omega, rfl, hJ1, hB0⟩
        case round =>
          clear hJ1 hB0
          obtain ⟨j, hj, rfl, hJ2, hB2⟩ := hrel
          have c1 : wr.cell? ⟨p, 1, none⟩ = some (.int .i64 75) := cell_of_row _ _ 1 _ _ _ hB2
          by_cases hjl : j < 6
          · obtain ⟨fn, tmps, assign, body, hy, hR⟩ := hY (flagsF.take (26 + j)) ⟨70 + (j : Int), flags_at_flag (flags_at2 j hjl)⟩ wr hJ2 (by rw [List.length_take, flagsF_len]; omega)
            dsimp only at hy
            gi_wp2
            refine hR.mono ?_
            rintro e W3 (⟨rfl, hJ3, hk3⟩ | ⟨rfl, hJx3⟩)
            · rw [flags_take _ _ (flagsF_at (flags_at2 j hjl) _)] at hJ3
              have hB3 := hk3 _ _ hB2
              gi_wp2
              go_roundw
              case rel => exact ⟨j + 1, by omega, by go_num, hJ3, hB3⟩
              case measure => simp [intOf]; omega
            · gi_wp2
              refine bodyPost_ret (results_none rfl _ _ _) rfl ?_
              rw [flags_take _ _ (flagsF_at (flags_at2 j hjl) _)] at hJx3
              exact ⟨⟨_, rfl⟩, .inr ⟨_, flags_pre _, hJx3⟩⟩
          · obtain rfl : j = 6 := by omega
            gi_wp2
            go_roundw
            case rel => exact ⟨3, by omega, by go_num, hJ2⟩
            case measure => simp [intOf]
      · have hJ0 : J (flagsF.take 32) wr := by rw [h] at hJs; exact hJs
        have hkc : (k : Int) = 3 := by omega
        rw [hkc]
        clear hJs hkc h hk hlt
        have hix : ∀ W : World, (Instr.index 114 (.agg #[.int .i64 30, .int .i64 42, .int .i64 50, .int .i64 62, .int .i64 70, .int .i64 75, .int .i64 90, .int .i64 93]) (.int .i64 3)).run Try.prog W = .ok (.agg #[.int .i64 90, .int .i64 93]) W := fun W => run_index_agg W 114 113 4 _ 2 _ .i64 3 Try.underlying114 Try.underlying113 rfl Try.size52 (by decide)
        gi_wp2
        have hB0 : (wr.alloc (.cells #[.int .i64 90, .int .i64 93] 113)).heap[wr.heap.size]? = some (.cells #[.int .i64 90, .int .i64 93] 113 (0, 0)) := heap_alloc_new _ _
        obtain ⟨p, hp⟩ : ∃ p, p = wr.heap.size := ⟨_, rfl⟩
        rw [← hp] at hB0 ⊢
        have hJ1 : J (flagsF.take 32) (wr.alloc (.cells #[.int .i64 90, .int .i64 93] 113)) := hJ _ _ _ none hJ0 (World.grownBy_alloc wr _ none) (by simp)
        generalize wr.alloc (.cells #[.int .i64 90, .int .i64 93] 113) = w1 at hB0 hJ1 ⊢
        clear hp hJ0
        gi_loopw [4] (fun o wr2 => ∃ j : Nat, j ≤ 4 ∧ o = .int .i64 (90 + (j : Int)) ∧ J (flagsF.take (32 + j)) wr2 ∧ wr2.heap[p]? = some (.cells #[.int .i64 90, .int .i64 93] 113 (0, 0))) (fun o _ => 94 - (intOf o).toNat)
        case atStart => exact ⟨0, by omega, rfl, hJ1, hB0⟩
        case round =>
          clear hJ1 hB0
          obtain ⟨j, hj, rfl, hJ2, hB2⟩ := hrel
          have c1 : wr.cell? ⟨p, 1, none⟩ = some (.int .i64 93) := cell_of_row _ _ 1 _ _ _ hB2
          by_cases hjl : j < 4
          · obtain ⟨fn, tmps, assign, body, hy, hR⟩ := hY (flagsF.take (32 + j)) ⟨90 + (j : Int), flags_at_flag (flags_at3 j hjl)⟩ wr hJ2 (by rw [List.length_take, flagsF_len]; omega)
            dsimp only at hy
            gi_wp2
            refine hR.mono ?_
            rintro e W3 (⟨rfl, hJ3, hk3⟩ | ⟨rfl, hJx3⟩)
            · rw [flags_take _ _ (flagsF_at (flags_at3 j hjl) _)] at hJ3
              have hB3 := hk3 _ _ hB2
              gi_wp2
              go_roundw
              case rel => exact ⟨j + 1, by omega, by go_num, hJ3, hB3⟩
              case measure => simp [intOf]; omega
            · gi_wp2
              refine bodyPost_ret (results_none rfl _ _ _) rfl ?_
              rw [flags_take _ _ (flagsF_at (flags_at3 j hjl) _)] at hJx3
              exact ⟨⟨_, rfl⟩, .inr ⟨_, flags_pre _, hJx3⟩⟩
          · obtain rfl : j = 4 := by omega
            gi_wp2
            go_roundw
            case rel => exact ⟨4, by omega, by go_num, hJ2⟩
            case measure => simp [intOf]
    · obtain rfl : k = 4 := by omega
      gi_wp2
      go_end0
      exact ⟨⟨_, rfl⟩, .inl ⟨_, rfl, hJs⟩⟩
end Go.Proofs.Ytggcampdkgfmgaa
namespace Go.Proofs.Ytggcampdkgfmgaa
open Go.RowKit Go.Shelf
attribute [local go_sem] Oper.semAt_some

theorem cellNew (W : World) (v : Value) (t : TypeId) : (W.alloc (.cells #[v] t)).cell? ⟨W.heap.size, 0, none⟩ = some v ∧ (W.alloc (.cells #[v] t)).frozen? ⟨W.heap.size, 0, none⟩ = false :=
  ⟨(Boxed.new W t v).cell, (Boxed.new W t v).frozen⟩
theorem cellOld {W : World} {a : Addr} {v : Value} (o : Obj) (h : W.cell? a = some v) : (W.alloc o).cell? a = some v := cell_kept h (World.grownBy_alloc W o none) (fun r e => by cases e)

set_option maxRecDepth 100000 in
set_option maxHeartbeats 2000000 in
theorem isFlag_in (w : World) (op : Int) :
    CallsIn Fence.wide 3 Try.prog 53 #[.int .i64 op] w fun e W' => e = .returned (.bool (flagB op)) ∧ Below w.heap.size w W' := by
  have h28 : Fence.wide.fn 53 := trivial
  have h39 : Fence.wide.fn 59 := trivial
  have hro : Fence.wide.round = none := rfl
  have h1 : 1 ≤ 3 := by omega
  refine callsIn_of_wp_marks Try.func53 rfl h28 ?_ hro
  simp only [Try.ntmps53, List.size_toArray, List.length_cons, List.length_nil, Nat.reduceAdd, Nat.reduceSub, Array.replicate_succ, Array.replicate_zero, List.push_toArray, List.append_toArray, List.nil_append, List.cons_append]
  gi_wp2
  have c0 := cellNew w (.int .i64 op) 3
  have c1 := cellNew (w.alloc (.cells #[.int .i64 op] 3)) (.bool false) 4
  simp only [World.size_alloc] at c1
  have hB0 : Below w.heap.size w ((w.alloc (.cells #[.int .i64 op] 3)).alloc (.cells #[.bool false] 4)) := ((Below.refl _ w).alloc (Nat.le_refl _) _).alloc (by simp) _
  refine wpIn_rangeFunc_ownF hro h1 (gf := 59) (lb := #[]) rfl h39 (enters_of Try.func59 (by kernel_rfl) rfl)
    (flags_stops Fence.wide 2 h39 hro (by omega) _) span_t span_b (Below.refl _ _) (fun _ => rfl)
    (fun pre W => ((∀ y ∈ pre, y.1 ≠ op) ∧ W.cell? ⟨w.heap.size, 0, none⟩ = some (.int .i64 op) ∧ W.cell? ⟨w.heap.size + 1, 0, none⟩ = some (.bool false) ∧ W.frozen? ⟨w.heap.size + 1, 0, none⟩ = false) ∧ Below w.heap.size w W)
    (fun c pre W => (c = .ret ∧ op ∈ pre.map (·.1) ∧ W.cell? ⟨w.heap.size + 1, 0, none⟩ = some (.bool true)) ∧ Below w.heap.size w W)
    (OwnFrom.and (Own.from (fun s A B row hs hg hr => ⟨hs.1, cell_kept hs.2.1 hg hr, cell_kept hs.2.2.1 hg hr, (frozen_kept hs.2.2.1 hg hr).trans hs.2.2.2⟩) _) (ownFrom_below (Nat.le_refl _) (by simp; omega)))
    (fun c => OwnFrom.and (Own.from (fun s A B row hs hg hr => ⟨hs.1, hs.2.1, cell_kept hs.2.2 hg hr⟩) _) (ownFrom_below (Nat.le_refl _) (by simp; omega)))
    ⟨⟨by simp, cellOld _ c0.1, c1.1, c1.2⟩, hB0⟩
    (fun x => { tmps := #[.int .i64 op, .pointer (some ⟨w.heap.size, 0, none⟩), .pointer (some ⟨w.heap.size + 1, 0, none⟩), .int .i64 x.1, .int .i64 x.1, undef, undef, undef], defers := [] }) ?assign ?body ?done ?stop
  case assign =>
    intro l x W K hK
    gi_wp2
    exact hK
  case body =>
    rintro l pre x W ⟨⟨hp, hcw, hcr, hfr⟩, hB⟩ _
    gi_wp2
    · rename_i hx
      obtain rfl : x.1 = op := eq_of_beq hx
      exact ⟨KeepsOthers.setCell _ _ _, ⟨rfl, by simp, World.cell?_setCell_same' _ _ _ (by rw [hcr]; rfl)⟩, hB.setCell (p := ⟨w.heap.size + 1, 0, none⟩) (by simp) _⟩
    · rename_i hx
      exact ⟨KeepsOthers.refl _, span_refl _, ⟨fun y hy => (List.mem_append.1 hy).elim (hp y) (fun e e' => by simp at e; subst e; subst e'; simp at hx), hcw, hcr, hfr⟩, hB⟩
  case done =>
    rintro D ys W hD rfl ⟨⟨hne, _, hcr, hfr⟩, hB⟩ hK
    gi_wp2
    have hK' := (KeepsOthers.setCell W ⟨w.heap.size + 1, 0, none⟩ (.bool false)).same D _ hK rfl
    refine ⟨by simp, .inl ⟨_, _, rfl, run_takeDeferred hK', ?_⟩⟩
    have hc5 := cell_kept (World.cell?_setCell_same' W ⟨w.heap.size + 1, 0, none⟩ (.bool false) (by rw [hcr]; rfl)) (grownBy_putObj' _ D (.deferred none)) (fun r e => by cases e; exact ⟨_, hK', rfl⟩)
    have hno : flagB op = false := by
      cases hf : flagB op
      · rfl
      · exact absurd rfl (hne ⟨op, hf⟩ (by
          have h9 : op ∈ flagsF.map (·.1) := by rw [flagsF_val]; exact (mem_flags op).2 hf
          obtain ⟨y, hy, rfl⟩ := List.mem_map.1 h9
          exact hy))
    refine ⟨.bool false, ?_, by rw [hno], (hB.setCell (p := ⟨w.heap.size + 1, 0, none⟩) (by simp) _).trans (belowK_b (w := w) (Nat.le_refl _) _ D _ _ (by simp at hD; omega) hK' rfl rfl)⟩
    simp [results, go_sem, hc5]
  case stop =>
    rintro D c pre W hD hpre ⟨⟨rfl, hin, hcr⟩, hB⟩ hK
    gi_wp2
    refine ⟨by simp, .inl ⟨_, _, rfl, run_takeDeferred hK, ?_⟩⟩
    have hc5 := cell_kept hcr (grownBy_putObj' _ D (.deferred none)) (fun r e => by cases e; exact ⟨_, hK, rfl⟩)
    refine ⟨.bool true, ?_, by rw [(show flagB op = true from by obtain ⟨y, _, rfl⟩ := List.mem_map.1 hin; exact y.2)], hB.trans (belowK_b (w := w) (Nat.le_refl _) W D _ _ (by simp at hD; omega) hK rfl rfl)⟩
    simp [results, go_sem, hc5]
theorem isFlag_any (w : World) (op : Int) : Calls Try.prog 53 #[.int .i64 op] w fun e W' => e = .returned (.bool (flagB op)) ∧ Hid (Below w.heap.size w W') := callsIn_wide.1 (isFlag_in w op)

/-- A flag's bit, as a number. -/
def bitV (op : Int) : Int := ((2 ^ kb op : Nat) : Int)
theorem bitV_rng {op : Int} (h : flagB op = true) : 0 < bitV op ∧ bitV op < 18446744073709551616 := by
  have h1 := pow_lt (kb_lt h)
  have h2 : 0 < 2 ^ kb op := Nat.pos_of_ne_zero (by simp)
  unfold bitV
  omega
theorem wrap_bit {op : Int} (h : flagB op = true) : IntKind.u64.wrap ((2 : Int) ^ (op - 30).toNat) = bitV op := by
  have h1 := bitV_rng h
  have e : ((2 : Int) ^ (op - 30).toNat) = bitV op := by simp [bitV, kb]
  rw [e, IntKind.wrap_u64]
  generalize bitV op = z at h1 ⊢
  omega
set_option maxRecDepth 100000 in
set_option maxHeartbeats 1000000 in
/-- The program's bit: a shift. -/
theorem bit_any (w : World) (op : Int) (hg : flagB op = true) : Calls Try.prog 54 #[.int .i64 op] w fun e w' => e = .returned (.int .u64 (bitV op)) ∧ w' = w := by
  have hr := flag_rng hg
  obtain ⟨h1, h2⟩ := hr
  go_enter Try.func54, Try.ntmps54
  go_wp2
  go_ret
  rw [wrap_bit hg]
  exact ⟨rfl, rfl⟩
end Go.Proofs.Ytggcampdkgfmgaa
namespace Go.Proofs.Ytggcampdkgfmgaa
open Go.RowKit

/-- A terminal's setting. -/
structure Tm where
  c : List UInt8
  f : Nat
  i : Nat
  o : Nat
  m : Int
  s : Int
def i64ok (x : Int) : Prop := -9223372036854775808 ≤ x ∧ x ≤ 9223372036854775807
structure Tm.Ok (t : Tm) : Prop where
  len : t.c.length = 19
  f : t.f < 18446744073709551616
  i : t.i < 4294967296
  o : t.o < 4294967296
  m : i64ok t.m
  s : i64ok t.s
/-- Its cells. -/
def Tm.cl (t : Tm) : List Value := bv t.c ++ [.int .u64 (t.f : Int), .int .u32 (t.i : Int), .int .u32 (t.o : Int), .int .i64 t.m, .int .i64 t.s]
def Tm.cs (t : Tm) : Array Value := t.cl.toArray
section
variable {t : Tm}
theorem cl_len (h : t.c.length = 19) : t.cl.length = 24 := by simp [Tm.cl, bv, h]
theorem cs_size (h : t.c.length = 19) : t.cs.size = 24 := by simp [Tm.cs, cl_len h]
theorem cs_char (h : t.c.length = 19) (k : Nat) (hk : k < 19) : t.cs[k]? = some (.int .u8 ((t.c[k]'(by omega)).toNat : Int)) := by
  have h1 : k < (bv t.c).length := by simp [bv, h, hk]
  simp only [Tm.cs, Tm.cl, List.getElem?_toArray]
  rw [List.getElem?_append_left h1]
  simp [bv, h, hk]
theorem cs_at (h : t.c.length = 19) (k : Nat) : t.cs[19 + k]? = [Value.int .u64 (t.f : Int), .int .u32 (t.i : Int), .int .u32 (t.o : Int), .int .i64 t.m, .int .i64 t.s][k]? := by
  have h1 : (bv t.c).length = 19 := by simp [bv, h]
  simp only [Tm.cs, Tm.cl, List.getElem?_toArray]
  rw [List.getElem?_append_right (by omega), h1]
  congr 1
  omega
theorem cs_f (h : t.c.length = 19) : t.cs[19]? = some (.int .u64 (t.f : Int)) := cs_at h 0
theorem cs_i (h : t.c.length = 19) : t.cs[20]? = some (.int .u32 (t.i : Int)) := cs_at h 1
theorem cs_o (h : t.c.length = 19) : t.cs[21]? = some (.int .u32 (t.o : Int)) := cs_at h 2
theorem cs_m (h : t.c.length = 19) : t.cs[22]? = some (.int .i64 t.m) := cs_at h 3
theorem cs_s (h : t.c.length = 19) : t.cs[23]? = some (.int .i64 t.s) := cs_at h 4
theorem cs_one (t : Tm) : t.cs.all (·.oneCell') = true := by
  refine all_oneCell fun v hv => ?_
  simp only [Tm.cs, Tm.cl, List.mem_toArray, List.mem_append] at hv
  rcases hv with hv | hv
  · exact bv_one _ v hv
  · simp at hv
    rcases hv with rfl | rfl | rfl | rfl | rfl <;> rfl
where all_oneCell {cs : Array Value} (h : ∀ v ∈ cs, v.oneCell' = true) : cs.all (·.oneCell') = true := Array.all_eq_true_iff_forall_mem.2 h
theorem cs_setf (h : t.c.length = 19) (n : Nat) : t.cs.setIfInBounds 19 (.int .u64 (n : Int)) = ({ t with f := n } : Tm).cs := by
  have h1 : (bv t.c).length = 19 := by simp [bv, h]
  simp only [Tm.cs, Tm.cl, List.setIfInBounds_toArray]
  rw [List.set_append_right _ _ (by omega), h1]
  rfl
theorem cs_seti (h : t.c.length = 19) (n : Nat) : t.cs.setIfInBounds 20 (.int .u32 (n : Int)) = ({ t with i := n } : Tm).cs := by
  have h1 : (bv t.c).length = 19 := by simp [bv, h]
  simp only [Tm.cs, Tm.cl, List.setIfInBounds_toArray]
  rw [List.set_append_right _ _ (by omega), h1]
  rfl
theorem cs_seto (h : t.c.length = 19) (n : Nat) : t.cs.setIfInBounds 21 (.int .u32 (n : Int)) = ({ t with o := n } : Tm).cs := by
  have h1 : (bv t.c).length = 19 := by simp [bv, h]
  simp only [Tm.cs, Tm.cl, List.setIfInBounds_toArray]
  rw [List.set_append_right _ _ (by omega), h1]
  rfl
theorem cs_setc (h : t.c.length = 19) (k : Nat) (hk : k < 19) (b : UInt8) : t.cs.setIfInBounds k (.int .u8 (b.toNat : Int)) = ({ t with c := t.c.set k b } : Tm).cs := by
  have h1 : (bv t.c).length = 19 := by simp [bv, h]
  simp only [Tm.cs, Tm.cl, List.setIfInBounds_toArray]
  rw [List.set_append_left _ _ (by omega)]
  simp [bv, List.map_set]
end
/-- The setting of nothing. -/
def Tm.zero : Tm := ⟨List.replicate 19 0, 0, 0, 0, 0, 0⟩
theorem zero_ok : Tm.zero.Ok := ⟨rfl, by decide, by decide, by decide, ⟨by decide, by decide⟩, ⟨by decide, by decide⟩⟩
def eqT (t u : Tm) : Bool := decide (t.c = u.c) && decide (t.f = u.f) && decide (t.i = u.i) && decide (t.o = u.o) && decide (t.m = u.m) && decide (t.s = u.s)
theorem eqT_iff (t u : Tm) : eqT t u = true ↔ t = u := by
  cases t; cases u
  simp [eqT, and_assoc]
theorem eqT_self (t : Tm) : eqT t t = true := (eqT_iff t t).2 rfl

theorem run_part_cell {P : Program} (w : World) (e : TypeId) (k : IntKind) (cs : Array Value) (off : Nat) (v : Value) (hu : P.underlying e = some (.int k)) (hc : cs[off]? = some v) :
    (part e cs off).run P w = .ok v w := by
  have hagg : (isAgg e).run P w = .ok false w := by
    unfold isAgg
    rw [Sem.run_bind, run_underlying hu w]
    rfl
  simp [part, Sem.run_bind, hagg, hc]
theorem run_items (w : World) (d : Nat) (a b : List UInt8) : ∀ is : List Nat, (∀ i ∈ is, i < a.length ∧ i < b.length) →
    ∃ r : Bool, (Op.eqItems (d + 1) 5 1 (bv a).toArray (bv b).toArray is).run Try.prog w = .ok r w ∧ (r = true ↔ ∀ i ∈ is, a[i]? = b[i]?)
  | [], _ => ⟨true, by simp [Op.eqItems], by simp⟩
  | i :: is, h => by
    obtain ⟨r, hr, hiff⟩ := run_items w d a b is fun j hj => h j (by simp [hj])
    obtain ⟨h1, h2⟩ := h i (by simp)
    have p1 : (part 5 (bv a).toArray (i * 1)).run Try.prog w = .ok (.int .u8 (a[i].toNat : Int)) w := run_part_cell w 5 .u8 _ _ _ Try.underlying5 (by simp [bv, h1])
    have p2 : (part 5 (bv b).toArray (i * 1)).run Try.prog w = .ok (.int .u8 (b[i].toNat : Int)) w := run_part_cell w 5 .u8 _ _ _ Try.underlying5 (by simp [bv, h2])
    have p3 := run_equalIn_int (P := Try.prog) w d 5 .u8 .u8 (a[i].toNat : Int) (b[i].toNat : Int) Try.underlying5
    simp only [Op.eqItems, Sem.run_bind, p1, p2, p3, Result.andThen_ok]
    by_cases he : a[i] = b[i]
    · refine ⟨r, by simp [he, hr], ?_⟩
      rw [hiff]
      simp [List.getElem?_eq_getElem h1, List.getElem?_eq_getElem h2, he]
    · have hne : ((a[i].toNat : Int) == (b[i].toNat : Int)) = false := by
        simp
        intro e
        exact he (UInt8.toNat_inj.1 (by omega))
      refine ⟨false, by simp [hne], ?_⟩
      simp [List.getElem?_eq_getElem h1, List.getElem?_eq_getElem h2, he]
set_option maxRecDepth 100000 in
theorem run_chars (w : World) (d : Nat) (a b : List UInt8) (ha : a.length = 19) (hb : b.length = 19) :
    (Op.equalIn (d + 1 + 1) 22 (.agg (bv a).toArray) (.agg (bv b).toArray)).run Try.prog w = .ok (decide (a = b)) w := by
  obtain ⟨i5, hi5, h5⟩ : ∃ i, Try.prog.info? 5 = some i ∧ i.size = 1 := by
    have h := Try.info5
    cases hq : Try.prog.info? 5 with
    | none => simp [hq] at h
    | some i => simp [hq] at h; exact ⟨i, rfl, h.2.1⟩
  have hc : Try.prog.cellsOf 5 = 1 := by kernel_rfl
  rw [run_equalIn_array w (d + 1) _ _ Try.underlying22 hi5, hc]
  obtain ⟨r, hr, hiff⟩ := run_items w d a b (List.range 19) (fun i hi => by simp at hi; omega)
  rw [hr]
  congr 1
  have e : (∀ i ∈ List.range 19, a[i]? = b[i]?) ↔ a = b := by
    constructor
    · intro h
      apply List.ext_getElem?
      intro i
      by_cases hi : i < 19
      · exact h i (by simp [hi])
      · rw [List.getElem?_eq_none (by omega), List.getElem?_eq_none (by omega)]
    · rintro rfl i _
      rfl
  rw [e] at hiff
  cases r
  · symm; simpa using hiff
  · symm; simpa using hiff
theorem Try.size22 : (Try.prog.info? 22).map (·.size) = some 19 := by kernel_rfl
theorem Try.size26 : (Try.prog.info? 26).map (·.size) = some 24 := by kernel_rfl
theorem Try.fields26 : (Try.prog.fieldsOf 26).toList.map (fun f => (decide (f.name ≠ "_"), f.type, f.offset)) = [(true, 22, 0), (true, 23, 19), (true, 24, 20), (true, 24, 21), (true, 3, 22), (true, 3, 23)] := by kernel_rfl
theorem fields_eq (d : Nat) (xs ys : Array Value) : ∀ (fs gs : List Field), fs.map (fun f => (decide (f.name ≠ "_"), f.type, f.offset)) = gs.map (fun f => (decide (f.name ≠ "_"), f.type, f.offset)) → Op.eqFields d xs ys fs = Op.eqFields d xs ys gs
  | [], [], _ => rfl
  | [], _ :: _, h => by simp at h
  | _ :: _, [], h => by simp at h
  | f :: fs, g :: gs, h => by
    simp only [List.map_cons, List.cons.injEq, Prod.mk.injEq] at h
    obtain ⟨⟨h1, h2, h3⟩, h4⟩ := h
    have h5 : (f.name ≠ "_") = (g.name ≠ "_") := propext (decide_eq_decide.1 h1)
    simp only [Op.eqFields, h5, h2, h3, fields_eq d xs ys fs gs h4]
/-- Six fields that a name each has. -/
def six : List Field := [⟨"a", 22, 0, false, "", "", 0⟩, ⟨"a", 23, 19, false, "", "", 0⟩, ⟨"a", 24, 20, false, "", "", 0⟩, ⟨"a", 24, 21, false, "", "", 0⟩, ⟨"a", 3, 22, false, "", "", 0⟩, ⟨"a", 3, 23, false, "", "", 0⟩]
theorem step_field {P : Program} {w : World} {d : Nat} {xs ys : Array Value} {f : Field} {fs : List Field} {a b : Value} {r r' : Bool} (hn : f.name ≠ "_") (pa : (part f.type xs f.offset).run P w = .ok a w) (pb : (part f.type ys f.offset).run P w = .ok b w)
    (he : (Op.equalIn d f.type a b).run P w = .ok r w) (hr : (Op.eqFields d xs ys fs).run P w = .ok r' w) : (Op.eqFields d xs ys (f :: fs)).run P w = .ok (r && r') w := by
  rw [Op.eqFields, if_pos hn]
  simp only [Sem.run_bind, pa, pb, he, Result.andThen_ok]
  cases r
  · rfl
  · exact hr
theorem no_fields {P : Program} {w : World} {d : Nat} {xs ys : Array Value} : (Op.eqFields d xs ys []).run P w = .ok true w := by simp [Op.eqFields]
theorem cs_chars {t : Tm} (h : t.c.length = 19) : t.cs.extract 0 (0 + 19) = (bv t.c).toArray := by
  have h1 : (bv t.c).length = 19 := by simp [bv, h]
  simp only [Tm.cs, Tm.cl, List.extract_toArray, List.extract_eq_take_drop, List.drop_zero]
  rw [List.take_append_of_le_length (by omega), List.take_of_length_le (by omega)]
theorem beq_nat (a b : Nat) : (((a : Int) == (b : Int)) : Bool) = decide (a = b) := by
  by_cases h : a = b
  · subst h; simp
  · have : ¬ (a : Int) = b := by omega
    simp [h, this]
theorem run_eq26d (w : World) (d : Nat) (t u : Tm) (ht : t.c.length = 19) (hu : u.c.length = 19) : (Op.equalIn (d + 1 + 1 + 1) 26 (.agg t.cs) (.agg u.cs)).run Try.prog w = .ok (eqT t u) w := by
  have hst : Try.prog.stoodInHeld 26 = false := by kernel_rfl
  have hfo : Try.prog.underlying 26 = some (.struct (Try.prog.fieldsOf 26)) := by simp [Program.fieldsOf, Try.underlying26]
  rw [run_equalIn_struct w (d + 1 + 1) 26 _ _ hfo hst, fields_eq (d + 1 + 1) _ _ _ six (by rw [Try.fields26]; rfl)]
  have a0 : (part 22 t.cs 0).run Try.prog w = .ok (.agg (bv t.c).toArray) w := by rw [run_part_agg w 22 _ 19 _ 0 Try.underlying22 rfl Try.size22, cs_chars ht]
  have b0 : (part 22 u.cs 0).run Try.prog w = .ok (.agg (bv u.c).toArray) w := by rw [run_part_agg w 22 _ 19 _ 0 Try.underlying22 rfl Try.size22, cs_chars hu]
  have a1 := run_part_cell w 23 .u64 t.cs 19 _ Try.underlying23 (cs_f ht)
  have b1 := run_part_cell w 23 .u64 u.cs 19 _ Try.underlying23 (cs_f hu)
  have a2 := run_part_cell w 24 .u32 t.cs 20 _ Try.underlying24 (cs_i ht)
  have b2 := run_part_cell w 24 .u32 u.cs 20 _ Try.underlying24 (cs_i hu)
  have a3 := run_part_cell w 24 .u32 t.cs 21 _ Try.underlying24 (cs_o ht)
  have b3 := run_part_cell w 24 .u32 u.cs 21 _ Try.underlying24 (cs_o hu)
  have a4 := run_part_cell w 3 .i64 t.cs 22 _ Try.underlying3 (cs_m ht)
  have b4 := run_part_cell w 3 .i64 u.cs 22 _ Try.underlying3 (cs_m hu)
  have a5 := run_part_cell w 3 .i64 t.cs 23 _ Try.underlying3 (cs_s ht)
  have b5 := run_part_cell w 3 .i64 u.cs 23 _ Try.underlying3 (cs_s hu)
  have e0 := run_chars w d t.c u.c ht hu
  have e1 := run_equalIn_int (P := Try.prog) w (d + 1) 23 .u64 .u64 (t.f : Int) u.f Try.underlying23
  have e2 := run_equalIn_int (P := Try.prog) w (d + 1) 24 .u32 .u32 (t.i : Int) u.i Try.underlying24
  have e3 := run_equalIn_int (P := Try.prog) w (d + 1) 24 .u32 .u32 (t.o : Int) u.o Try.underlying24
  have e4 := run_equalIn_int (P := Try.prog) w (d + 1) 3 .i64 .i64 t.m u.m Try.underlying3
  have e5 := run_equalIn_int (P := Try.prog) w (d + 1) 3 .i64 .i64 t.s u.s Try.underlying3
  have nm : ("a" : String) ≠ "_" := by decide
  have hh := step_field (f := ⟨"a", 22, 0, false, "", "", 0⟩) nm a0 b0 e0 (step_field (f := ⟨"a", 23, 19, false, "", "", 0⟩) nm a1 b1 e1 (step_field (f := ⟨"a", 24, 20, false, "", "", 0⟩) nm a2 b2 e2 (step_field (f := ⟨"a", 24, 21, false, "", "", 0⟩) nm a3 b3 e3 (step_field (f := ⟨"a", 3, 22, false, "", "", 0⟩) nm a4 b4 e4 (step_field (f := ⟨"a", 3, 23, false, "", "", 0⟩) nm a5 b5 e5 no_fields)))))
  rw [six, hh]
  have h4 : ∀ x y : Int, (x == y) = decide (x = y) := fun x y => rfl
  rw [beq_nat, beq_nat, beq_nat, h4, h4]
  unfold eqT
  cases decide (t.c = u.c) <;> cases decide (t.f = u.f) <;> cases decide (t.i = u.i) <;> cases decide (t.o = u.o) <;> cases decide (t.m = u.m) <;> cases decide (t.s = u.s) <;> rfl
theorem run_eq26 (w : World) (t u : Tm) (ht : t.c.length = 19) (hu : u.c.length = 19) (n : Nat) (hn : n = 9997 + 1 + 1 + 1) : (Op.equalIn n 26 (.agg t.cs) (.agg u.cs)).run Try.prog w = .ok (eqT t u) w := by
  rw [hn]
  generalize 9997 = d
  exact run_eq26d w d t u ht hu
theorem run_eql26 (w : World) (t u : Tm) (ht : t.c.length = 19) (hu : u.c.length = 19) : (binOp .eql 26 (.agg t.cs) (.agg u.cs)).run Try.prog w = .ok (.bool (eqT t u)) w := by
  rw [run_eql_struct, run_eq26 w t u ht hu _ (by decide)]
  rfl
theorem run_neq26 (w : World) (t u : Tm) (ht : t.c.length = 19) (hu : u.c.length = 19) : (binOp .neq 26 (.agg t.cs) (.agg u.cs)).run Try.prog w = .ok (.bool (!eqT t u)) w := by
  rw [run_neq_struct, run_eq26 w t u ht hu _ (by decide)]
  rfl
end Go.Proofs.Ytggcampdkgfmgaa
namespace Go.Proofs.Ytggcampdkgfmgaa
open Go.RowKit

/-- Nothing has turned but one block. -/
structure Turn (g : Nat) (w w' : World) : Prop where
  os : w'.os = w.os
  tape : w'.tape = w.tape
  output : w'.output = w.output
  size : w'.heap.size = w.heap.size
  block : ∀ b, b ≠ g → w'.heap[b]? = w.heap[b]?
theorem Turn.setRow (w : World) (g : Nat) (cs : Array Value) : Turn g w (w.setRow g cs) := ⟨rfl, rfl, rfl, size_setRow w g cs, fun b hb => setRow_other w g b cs hb⟩
theorem Turn.setCell (w : World) (g i : Nat) (v : Value) : Turn g w (w.setCell ⟨g, i, none⟩ v) := ⟨rfl, rfl, rfl, World.size_setCell .., fun b hb => heap_setCell_other w ⟨g, i, none⟩ b v hb⟩
theorem Turn.below {g B : Nat} {w w' : World} (h : Turn g w w') (hB : B ≤ g) : Below B w w' := ⟨h.os, h.tape, h.output, Nat.le_of_eq h.size.symm, fun b hb => h.block b (by omega)⟩
theorem Turn.box {g b : Nat} {w w' : World} {t : TypeId} {cs : Array Value} (h : Turn g w w') (hx : Box w b t cs) (hne : b ≠ g) : Box w' b t cs := hx.same (h.block b hne)
theorem Turn.drew {g : Nat} {w w' : World} (h : Turn g w w') : Turn g w w'.drew := ⟨h.os, h.tape, h.output, h.size, h.block⟩
theorem Turn.drew0 {g : Nat} {w w' : World} (h : Turn g w.drew w') : Turn g w w' := ⟨h.os, h.tape, h.output, h.size, h.block⟩

section
variable {ops : Array Oper} {rest : List Oper} {o : Oper} {a : Act} {w : World} {Q : Exit → Act → World → Prop}
/-- A whole setting is loaded. -/
theorem ld26 (hw : Region.wanted o (yielded ops a.tmps) = true) (x : Operand) (ho : o.op = .load 26 x) (g : Nat) (hx : a.eval x = .pointer (some ⟨g, 0, none⟩)) (cs : Array Value) (hb : Box w g 26 cs) (hs : cs.size = 24)
    (h : wpList Try.prog ops Q rest (a.put o.dst (.agg cs)) w) : wpList Try.prog ops Q (o :: rest) a w :=
  BigFrame.wpList_want hw fun _ hK => wp_load_row 26 x ho g hx 26 cs (0, 0) _ hb Try.underlying26 rfl (by rw [hs]; exact Try.size26) (hK _ _ h)
/-- A whole setting is stored. -/
theorem st26 (hw : Region.wanted o (yielded ops a.tmps) = true) (x y : Operand) (ho : o.op = .store 26 x y) (g : Nat) (hx : a.eval x = .pointer (some ⟨g, 0, none⟩)) (t : Tm) (ht : t.c.length = 19) (hy : a.eval y = .agg t.cs) (cs : Array Value) (hb : Box w g 26 cs) (hs : cs.size = 24)
    (h : ∀ w', Hid (Box w' g 26 t.cs) → Hid (Turn g w w') → wpList Try.prog ops Q rest (a.put o.dst undef) w') : wpList Try.prog ops Q (o :: rest) a w :=
  BigFrame.wpList_want hw fun _ hK => wp_store_row 26 x y ho g t.cs hx hy 26 cs hb (by rw [cs_size ht]; exact Try.size26) (by rw [hs, cs_size ht]) (cs_one t) (hK _ _ (h _ (hid (setRow_heap w g cs _ 26 _ hb)) (hid (Turn.setRow w g _))))
/-- A setting becomes a variable of its own. -/
theorem run_box26 (w : World) (cs : Array Value) (_hs : cs.size = 24) : (Instr.box 26 (.agg cs)).run Try.prog w = .ok (.pointer (some ⟨w.heap.size, 0, none⟩)) (w.alloc (.cells cs 26)) := by
  have h26 := Try.size26
  cases hq : Try.prog.info? 26 with
  | none => simp [hq] at h26
  | some i => simp [hq] at h26; simp [Instr.box, newVar, newRow, Value.cells]
theorem bx26 (hw : Region.wanted o (yielded ops a.tmps) = true) (x : Operand) (ho : o.op = .box 26 x) (cs : Array Value) (hx : a.eval x = .agg cs) (hs : cs.size = 24)
    (h : Hid (Box (w.alloc (.cells cs 26)) w.heap.size 26 cs) → wpList Try.prog ops Q rest (a.put o.dst (.pointer (some ⟨w.heap.size, 0, none⟩))) (w.alloc (.cells cs 26))) : wpList Try.prog ops Q (o :: rest) a w :=
  BigFrame.wpList_want hw fun _ hK => by
    unfold Oper.wp execOp
    simp only [ho, hx, Sem.run_bind, run_box26 w cs hs, Result.andThen_ok]
    exact hK _ _ (h (hid (Box.new w 26 cs)))
end
theorem and_bits {f : Nat} (hf : f < 18446744073709551616) {op : Int} (h : flagB op = true) : (bits .and .u64 (f : Int) (bitV op) != 0) = f.testBit (kb op) := by
  have h1 := pow_lt (kb_lt h)
  have h2 := has_and f (kb op)
  unfold bitV
  generalize hz : 2 ^ kb op = z0 at h1 h2 ⊢
  rw [u64_and _ _ (by omega) (by omega) (by omega) (by omega), Int.toNat_natCast, Int.toNat_natCast]
  rw [← hz] at h2 ⊢
  generalize f &&& 2 ^ kb op = z at h2 ⊢
  cases hb : f.testBit (kb op)
  · have := h2.2 hb
    subst this
    rfl
  · have : z ≠ 0 := fun e => by rw [h2.1 e] at hb; cases hb
    simp
    omega
/-- A world in which whatever was there in the other one is as it was. -/
structure Gr (u0 : World) where
  w : World
  b : Below u0.heap.size u0 w
instance (u0 : World) : Nonempty (Gr u0) := ⟨⟨u0, Below.refl _ _⟩⟩
def grw {u0 : World} (z : Gr u0) : World := z.w
theorem gr_cell {u0 : World} {g : Nat} {v : Value} {k : Nat} (z : Gr u0) (h : u0.cell? ⟨g, k, none⟩ = some v) : (grw z).cell? ⟨g, k, none⟩ = some v :=
  (z.b.cell (p := ⟨g, k, none⟩) (World.block_lt_of_cell? _ _ h)).trans h
theorem gr_box {u0 : World} {g : Nat} {t : TypeId} {cs : Array Value} (z : Gr u0) (h : Box u0 g t cs) : Box (grw z) g t cs := box_below h z.b
theorem gr_call {P : Program} {u0 : World} {z : Gr u0} {f : FuncId} {args : Array Value} {v : Value} (h : Calls P f args (grw z) fun e w' => e = .returned v ∧ Hid (Below (grw z).heap.size (grw z) w')) :
    Calls P f args (grw z) fun e w'' => e = .returned v ∧ ∃ z' : Gr u0, w'' = grw z' :=
  h.mono fun _ w' ⟨he, hk⟩ => ⟨he, ⟨w', z.b.trans (hk.out.mono z.b.size)⟩, rfl⟩
theorem gr_call0 {P : Program} {u0 : World} {z : Gr u0} {f : FuncId} {args : Array Value} {v : Value} (h : Calls P f args (grw z) fun e w' => e = .returned v ∧ w' = grw z) :
    Calls P f args (grw z) fun e w'' => e = .returned v ∧ ∃ z' : Gr u0, w'' = grw z' :=
  h.mono fun _ _ ⟨he, hk⟩ => ⟨he, z, hk⟩
theorem wp_region_grown {P : Program} {id : Nat} {Q : Exit → Act → World → Prop} {a : Act} {w : World} {l : List Oper} (hm : P.follows .mixedOrders = true) (hB : Region.lexB .any l.toArray = true)
    (h : wpQuiet P l.toArray (fun w' => ∃ z : Gr w, w' = grw z) (fun a' => ∀ z : Gr w, Q .normal a' (grw z)) l a) : (Code.region id l.toArray true).wp P Q a w :=
  wp_region_quiet (C := fun w' => ∃ z : Gr w, w' = grw z) hm hB ⟨⟨w.drew, rfl, rfl, rfl, Nat.le_refl _, fun _ _ => rfl⟩, rfl⟩ (by
    have e : (fun a' => ∀ w', (∃ z : Gr w, w' = grw z) → Q .normal a' w') = (fun a' => ∀ z : Gr w, Q .normal a' (grw z)) := by
      funext a'
      exact propext ⟨fun h z => h _ ⟨z, rfl⟩, fun h w' ⟨z, e⟩ => e ▸ h z⟩
    simpa [e] using h)
section
variable {u0 : World} {o : Oper} {a : Act} {K : Act → Prop}
theorem q_ld26 (x : Operand) (ho : o.op = .load 26 x) (g : Nat) (hx : a.eval x = .pointer (some ⟨g, 0, none⟩)) (cs : Array Value) (hb : Hid (Box u0 g 26 cs)) (hs : cs.size = 24) (h : K (a.put o.dst (.agg cs))) :
    o.quiet Try.prog a (fun w' => ∃ z : Gr u0, w' = grw z) K :=
  ⟨_, fun w ⟨z, e⟩ => by
    subst e
    unfold Oper.quietAt execOp
    simp only [ho, hx, Instr.loadAt, Instr.sureAddr, Sem.run_bind, Sem.run_pure, Result.andThen_ok, run_loadVar_row (P := Try.prog) (grw z) g 26 26 cs (0, 0) _ (gr_box z hb.out) Try.underlying26 rfl (by rw [hs]; exact Try.size26), Oper.quietUpon]
    exact ⟨trivial, trivial⟩, h⟩
theorem q_eq26 (x y : Operand) (r : TypeId) (ho : o.op = .binOp .eql 26 x y r) (t u : Tm) (ht : t.c.length = 19) (hu : u.c.length = 19) (hx : a.eval x = .agg t.cs) (hy : a.eval y = .agg u.cs) (b : Bool) (hb : eqT t u = b) (h : K (a.put o.dst (.bool b))) :
    o.quiet Try.prog a (fun w' => ∃ z : Gr u0, w' = grw z) K :=
  ⟨_, fun w _ => by
    unfold Oper.quietAt execOp
    have hm : Try.prog.eqGuardType Try.prog.depth 26 = false := by kernel_rfl
    simp only [ho, hx, hy, Sem.run_bind, run_eqGuard_agg w _ 26 _ _ _ _ hm, Result.andThen_ok, run_eql26 w t u ht hu, Oper.quietUpon]
    exact ⟨rfl, by rw [hb]⟩, h⟩
theorem q_ne26 (x y : Operand) (r : TypeId) (ho : o.op = .binOp .neq 26 x y r) (t u : Tm) (ht : t.c.length = 19) (hu : u.c.length = 19) (hx : a.eval x = .agg t.cs) (hy : a.eval y = .agg u.cs) (b : Bool) (hb : (!eqT t u) = b) (h : K (a.put o.dst (.bool b))) :
    o.quiet Try.prog a (fun w' => ∃ z : Gr u0, w' = grw z) K :=
  ⟨_, fun w _ => by
    unfold Oper.quietAt execOp
    have hm : Try.prog.eqGuardType Try.prog.depth 26 = false := by kernel_rfl
    simp only [ho, hx, hy, Sem.run_bind, run_eqGuard_agg w _ 26 _ _ _ _ hm, Result.andThen_ok, run_neq26 w t u ht hu, Oper.quietUpon]
    exact ⟨rfl, by rw [hb]⟩, h⟩
end
theorem q28 {u0 : World} {z : Gr u0} {op : Int} {b : Bool} (hg : flagB op = b) : Calls Try.prog 53 #[.int .i64 op] (grw z) fun e w'' => e = .returned (.bool b) ∧ ∃ z' : Gr u0, w'' = grw z' := by
  subst hg
  exact gr_call (isFlag_any (grw z) op)
theorem q29 {u0 : World} {z : Gr u0} {op : Int} (hg : flagB op = true) : Calls Try.prog 54 #[.int .i64 op] (grw z) fun e w'' => e = .returned (.int .u64 (bitV op)) ∧ ∃ z' : Gr u0, w'' = grw z' := gr_call0 (bit_any _ op hg)
set_option maxRecDepth 100000 in
set_option maxHeartbeats 1000000 in
theorem has_any (w : World) (t : Tm) (ht : t.Ok) (op : Int) : Calls Try.prog 46 #[.agg t.cs, .int .i64 op] w fun e w' => e = .returned (.bool (hasN t.f op)) ∧ Hid (Below w.heap.size w w') := by
  have hs := cs_size ht.len
  have H1 : Hid (Below w.heap.size w (w.alloc (.cells t.cs 26))) := hid ((Below.refl _ w).alloc (Nat.le_refl _) _)
  have c0 : ∀ z : Gr (w.alloc (.cells t.cs 26)), (grw z).cell? ⟨w.heap.size, 19, none⟩ = some (.int .u64 (t.f : Int)) := fun z => gr_cell z (((Box.new w 26 t.cs).cell 19).trans (cs_f ht.len))
  cases hg : flagB op
  · have hh : Hid (hasN t.f op = false) := hid (by simp [hasN, hg])
    go_enter Try.func46, Try.ntmps46
    go_wp2_with (refine bx26 (by rfl) _ (by rfl) _ (by rfl) hs ?_; intro _)
    refine wp_region_grown (by kernel_rfl) (by kernel_rfl) ?_
    repeat (go_big_quiet_step ((go_at_call 53; with_reducible exact q28 hg)))
    refine wpQuiet_nil ?_
    intro z
    go_wp2
    go_ret
    exact ⟨by rw [hh.out]; rfl, hid (H1.out.trans (z.b.mono H1.out.size))⟩
  · have hh : Hid (hasN t.f op = t.f.testBit (kb op)) := hid (by simp [hasN, hg])
    have ha := and_bits ht.f hg
    go_enter Try.func46, Try.ntmps46
    go_wp2_with (refine bx26 (by rfl) _ (by rfl) _ (by rfl) hs ?_; intro _)
    refine wp_region_grown (by kernel_rfl) (by kernel_rfl) ?_
    repeat (go_big_quiet_step (first | (go_at_call 53; with_reducible exact q28 hg) | (go_at_call 54; with_reducible exact q29 hg)))
    refine wpQuiet_nil ?_
    intro z
    go_wp2
    go_ret
    exact ⟨by rw [hh.out]; rfl, hid (H1.out.trans (z.b.mono H1.out.size))⟩
end Go.Proofs.Ytggcampdkgfmgaa
namespace Go.Proofs.Ytggcampdkgfmgaa
open Go.RowKit

theorem two_mul {k : Nat} (h : k < 63) : IntKind.u64.wrap (2 * ((2 ^ k : Nat) : Int)) = ((2 ^ (k + 1) : Nat) : Int) := by
  have h1 := pow_lt (show k + 1 < 64 by omega)
  have e : 2 ^ (k + 1) = 2 * 2 ^ k := by rw [Nat.pow_succ]; omega
  rw [IntKind.wrap_u64]
  generalize 2 ^ k = z at e
  generalize 2 ^ (k + 1) = y at e h1 ⊢
  omega
theorem div_bits {f : Nat} (hf : f < 18446744073709551616) {op : Int} (_h : flagB op = true) : (((IntKind.u64.wrap ((f : Int) / bitV op)).tmod 2 == 1) : Bool) = f.testBit (kb op) := by
  unfold bitV
  have h2 := has_div f (kb op)
  generalize 2 ^ kb op = z at h2 ⊢
  have e : ((f : Int) / (z : Int)) = ((f / z : Nat) : Int) := by simp
  have hle : f / z ≤ f := Nat.div_le_self _ _
  rw [e]
  generalize f / z = q at h2 hle ⊢
  rw [IntKind.wrap_u64, Int.emod_eq_of_lt (by omega) (by omega), Int.tmod_eq_emod_of_nonneg (by omega)]
  cases hb : f.testBit (kb op)
  · have : q % 2 ≠ 1 := fun e => by rw [h2.1 e] at hb; cases hb
    simp
    omega
  · have := h2.2 hb
    simp
    omega
/-- The setting's variable with other flags. -/
theorem box_f {w : World} {g : Nat} {t : Tm} (ht : t.c.length = 19) (h : Box w g 26 t.cs) (n : Nat) : Box (w.setCell ⟨g, 19, none⟩ (.int .u64 (n : Int))) g 26 ({ t with f := n } : Tm).cs := by
  have h1 := h.store 19 (.int .u64 (n : Int))
  rwa [cs_setf ht] at h1
def setT (t : Tm) (op : Int) (on : Bool) : Tm := { t with f := setN t.f op on }
theorem setT_ok {t : Tm} (h : t.Ok) (op : Int) (on : Bool) : (setT t op on).Ok := ⟨h.len, setN_lt h.f op on, h.i, h.o, h.m, h.s⟩
theorem setT_no {t : Tm} {op : Int} {on : Bool} (hg : flagB op = false) : setT t op on = t := by simp [setT, setN_no hg]
theorem results26 {fn : Func} {p : Tmp} (h : fn.results = #[.cell p 26]) (tmps : Array Value) (w : World) (g : Nat) (t : Tm) (ht : t.c.length = 19)
    (hp : tmps.getD p undef = .pointer (some ⟨g, 0, none⟩)) (hb : Box w g 26 t.cs) : (results fn tmps).run Try.prog w = .ok (.agg t.cs) w :=
  results_cell_row h tmps w g 26 t.cs (0, 0) _ hp hb Try.underlying26 rfl (by rw [cs_size ht]; exact Try.size26)
theorem or_bit {f : Nat} (hf : f < 18446744073709551616) {op : Int} (h : flagB op = true) : bits .or .u64 (f : Int) (bitV op) = ((setN f op true : Nat) : Int) := by
  unfold bitV
  rw [u64_or_nat _ _ hf (pow_lt (kb_lt h))]
  simp [setN, h]
theorem not_bit {f : Nat} (hf : f < 18446744073709551616) {op : Int} (h : flagB op = true) : bits .andNot .u64 (f : Int) (bitV op) = ((setN f op false : Nat) : Int) := by
  unfold bitV
  rw [u64_andNot_nat _ _ hf (pow_lt (kb_lt h))]
  simp [setN, h, top]
theorem zero_cs : Tm.zero.cs = #[.int .u8 0, .int .u8 0, .int .u8 0, .int .u8 0, .int .u8 0, .int .u8 0, .int .u8 0, .int .u8 0, .int .u8 0, .int .u8 0, .int .u8 0, .int .u8 0, .int .u8 0, .int .u8 0, .int .u8 0, .int .u8 0, .int .u8 0, .int .u8 0, .int .u8 0, .int .u64 0, .int .u32 0, .int .u32 0, .int .i64 0, .int .i64 0] := rfl
theorem isFlag_b (w : World) {op : Int} {b : Bool} (hg : flagB op = b) : Calls Try.prog 53 #[.int .i64 op] w fun e W' => e = .returned (.bool b) ∧ Hid (Below w.heap.size w W') := by
  subst hg
  exact isFlag_any w op
/-- Two settings' variables, made one behind the other. -/
structure Pair (w u : World) (g r : Nat) (t v : Tm) : Prop where
  bel : Below w.heap.size w u
  gw : w.heap.size ≤ g
  rw : w.heap.size ≤ r
  ne : g ≠ r
  boxT : Box u g 26 t.cs
  boxR : Box u r 26 v.cs
theorem Pair.grow {w u u' : World} {g r : Nat} {t v : Tm} (h : Pair w u g r t v) (k : Below u.heap.size u u') : Pair w u' g r t v :=
  ⟨h.bel.trans (k.mono h.bel.size), h.gw, h.rw, h.ne, box_below h.boxT k, box_below h.boxR k⟩
theorem Pair.turnT {w u u' : World} {g r : Nat} {t t' v : Tm} (h : Pair w u g r t v) (k : Turn g u u') (hb : Box u' g 26 t'.cs) : Pair w u' g r t' v :=
  ⟨h.bel.trans (k.below h.gw), h.gw, h.rw, h.ne, hb, k.box h.boxR h.ne.symm⟩
theorem Pair.turnR {w u u' : World} {g r : Nat} {t v v' : Tm} (h : Pair w u g r t v) (k : Turn r u u') (hb : Box u' r 26 v'.cs) : Pair w u' g r t v' :=
  ⟨h.bel.trans (k.below h.rw), h.gw, h.rw, h.ne, k.box h.boxT h.ne, hb⟩
theorem Pair.drew {w u : World} {g r : Nat} {t v : Tm} (h : Pair w u g r t v) : Pair w u.drew g r t v := ⟨⟨h.bel.os, h.bel.tape, h.bel.output, h.bel.size, h.bel.block⟩, h.gw, h.rw, h.ne, h.boxT, h.boxR⟩
theorem Pair.new (w : World) (t : Tm) : Pair w ((w.alloc (.cells t.cs 26)).alloc (.cells #[.int .u8 0, .int .u8 0, .int .u8 0, .int .u8 0, .int .u8 0, .int .u8 0, .int .u8 0, .int .u8 0, .int .u8 0, .int .u8 0, .int .u8 0, .int .u8 0, .int .u8 0, .int .u8 0, .int .u8 0, .int .u8 0, .int .u8 0, .int .u8 0, .int .u8 0, .int .u64 0, .int .u32 0, .int .u32 0, .int .i64 0, .int .i64 0] 26)) w.heap.size (w.heap.size + 1) t Tm.zero :=
  ⟨((Below.refl _ w).alloc (Nat.le_refl _) _).alloc (by simp) _, Nat.le_refl _, by omega, by omega, box_below (Box.new w 26 t.cs) ((Below.refl _ _).alloc (Nat.le_refl _) _), by
    have := Box.new (w.alloc (.cells t.cs 26)) 26 Tm.zero.cs
    rwa [World.size_alloc] at this⟩
theorem Pair.c19 {w u : World} {g r : Nat} {t v : Tm} (h : Pair w u g r t v) (ht : t.c.length = 19) : u.cell? ⟨g, 19, none⟩ = some (.int .u64 (t.f : Int)) := (h.boxT.cell 19).trans (cs_f ht)
theorem Pair.setF {w u : World} {g r : Nat} {t v : Tm} (h : Pair w u g r t v) (ht : t.c.length = 19) (n : Nat) : Pair w (u.setCell ⟨g, 19, none⟩ (.int .u64 (n : Int))) g r { t with f := n } v :=
  h.turnT (Turn.setCell u g 19 _) (box_f ht h.boxT n)
end Go.Proofs.Ytggcampdkgfmgaa
namespace Go.Proofs.Ytggcampdkgfmgaa
open Go.RowKit

theorem add_v {f : Nat} (hf : f < 18446744073709551616) {op : Int} (hg : flagB op = true) (h : hasN f op = false) : IntKind.u64.wrap ((f : Int) + bitV op) = ((setN f op true : Nat) : Int) := by
  obtain ⟨h1, h2⟩ := setN_add hf hg h
  rw [← h1, IntKind.wrap_u64]
  unfold bitV
  omega
theorem sub_v {f : Nat} (hf : f < 18446744073709551616) {op : Int} (hg : flagB op = true) (h : hasN f op = true) : IntKind.u64.wrap ((f : Int) - bitV op) = ((setN f op false : Nat) : Int) := by
  obtain ⟨h1, h2⟩ := setN_sub hf hg h
  unfold bitV
  rw [← h1, IntKind.wrap_u64]
  clear h1
  generalize 2 ^ kb op = z at h2 ⊢
  omega
theorem setT_same {t : Tm} (ht : t.Ok) {op : Int} {on : Bool} (h : hasN t.f op = on) : setT t op on = t := by simp [setT, setN_same ht.f h]
end Go.Proofs.Ytggcampdkgfmgaa
namespace Go.Proofs.Ytggcampdkgfmgaa
open Go.RowKit

theorem wpList_build_at {P : Program} {ops : Array Oper} {rest : List Oper} {o : Oper} {a : Act} {w : World} {Q : Exit → Act → World → Prop} (hg : o.guard = none) (t : TypeId) (parts : Array (Nat × Operand)) (ho : o.op = .build t parts) (cells : Array Value)
    (hc : P.built t (parts.map fun (i, x) => (i, a.eval x)).toList = some cells) (h : wpList P ops Q rest (a.put o.dst (.agg cells)) w) : wpList P ops Q (o :: rest) a w := by
  refine wpList_build hg t parts ho (by rw [hc]; rfl) ?_
  rw [hc]
  exact h
theorem run_index_cell {P : Program} (w : World) (t e : TypeId) (len : Nat) (q : IntKind) (cs : Array Value) (k : IntKind) (i : Nat) (v : Value) (ht : P.underlying t = some (.array len e)) (hu : P.underlying e = some (.int q)) (hi : (P.info? e).map (·.size) = some 1) (hlt : i < len) (hv : cs[i]? = some v) :
    (Instr.index t (.agg cs) (.int k (i : Int))).run P w = .ok v w := by
  have hsz : (sizeOf e).run P w = .ok 1 w := by
    cases hq : P.info? e with
    | none => simp [hq] at hi
    | some i0 => simp [sizeOf, typeInfo, hq] at hi ⊢; exact hi
  have h2 : ((i : Int) < len) := by omega
  have hp : (part e cs i).run P w = .ok v w := run_part_cell w e q cs i v hu hv
  simp [Instr.index, asIntOf, run_underlying ht, hsz, hp]
  intro h
  omega
theorem Try.size3 : (Try.prog.info? 3).map (·.size) = some 1 := by kernel_rfl
def opsD : List Int := [36, 38, 41, 50, 51, 53, 54, 55, 60, 61, 59, 70, 72, 91]
def opD (j : Nat) : Int := opsD.getD j 0
def defF (j : Nat) : Nat := (opsD.take j).foldl (fun f op => setN f op true) 0
theorem defF_step (j : Nat) (h : j < 14) : setN (defF j) (opD j) true = defF (j + 1) := by
  have : ∀ k : Fin 14, setN (defF k.1) (opD k.1) true = defF (k.1 + 1) := by decide
  exact this ⟨j, h⟩
/-- How a terminal is set at first, so many flags on. -/
def dN (j : Nat) : Tm := ⟨[0, 3, 28, 127, 21, 4, 255, 255, 17, 19, 26, 255, 18, 23, 22, 255, 255, 255, 15], defF j, 38400, 38400, 1, 0⟩
def dT : Tm := dN 14
theorem defF_lt (j : Nat) (h : j ≤ 14) : defF j < 18446744073709551616 := by
  have : ∀ k : Fin 15, defF k.1 < 18446744073709551616 := by decide
  exact this ⟨j, by omega⟩
theorem dN_ok (j : Nat) (h : j ≤ 14) : (dN j).Ok := ⟨rfl, defF_lt j h, show 38400 < 4294967296 by decide, show 38400 < 4294967296 by decide, show i64ok 1 from ⟨by decide, by decide⟩, show i64ok 0 from ⟨by decide, by decide⟩⟩
theorem dT_ok : dT.Ok := dN_ok 14 (by omega)
theorem Pair.new2 (w : World) : Pair w ((w.alloc (.cells #[.int .u8 0, .int .u8 0, .int .u8 0, .int .u8 0, .int .u8 0, .int .u8 0, .int .u8 0, .int .u8 0, .int .u8 0, .int .u8 0, .int .u8 0, .int .u8 0, .int .u8 0, .int .u8 0, .int .u8 0, .int .u8 0, .int .u8 0, .int .u8 0, .int .u8 0, .int .u64 0, .int .u32 0, .int .u32 0, .int .i64 0, .int .i64 0] 26)).alloc (.cells #[.int .u8 0, .int .u8 0, .int .u8 0, .int .u8 0, .int .u8 0, .int .u8 0, .int .u8 0, .int .u8 0, .int .u8 0, .int .u8 0, .int .u8 0, .int .u8 0, .int .u8 0, .int .u8 0, .int .u8 0, .int .u8 0, .int .u8 0, .int .u8 0, .int .u8 0, .int .u64 0, .int .u32 0, .int .u32 0, .int .i64 0, .int .i64 0] 26)) (w.heap.size + 1) w.heap.size Tm.zero Tm.zero :=
  ⟨((Below.refl _ w).alloc (Nat.le_refl _) _).alloc (by simp) _, by omega, Nat.le_refl _, by omega, by
    have := Box.new (w.alloc (.cells Tm.zero.cs 26)) 26 Tm.zero.cs
    rwa [World.size_alloc] at this, box_below (Box.new w 26 Tm.zero.cs) ((Below.refl _ _).alloc (Nat.le_refl _) _)⟩
theorem opD_at (j : Nat) (h : j < 14) : (#[.int .i64 36, .int .i64 38, .int .i64 41, .int .i64 50, .int .i64 51, .int .i64 53, .int .i64 54, .int .i64 55, .int .i64 60, .int .i64 61, .int .i64 59, .int .i64 70, .int .i64 72, .int .i64 91] : Array Value)[j]? = some (.int .i64 (opD j)) := by
  have : ∀ k : Fin 14, (#[.int .i64 36, .int .i64 38, .int .i64 41, .int .i64 50, .int .i64 51, .int .i64 53, .int .i64 54, .int .i64 55, .int .i64 60, .int .i64 61, .int .i64 59, .int .i64 70, .int .i64 72, .int .i64 91] : Array Value)[k.1]? = some (.int .i64 (opD k.1)) := fun k => by
    obtain ⟨k, hk⟩ := k
    rcases (by omega : k = 0 ∨ k = 1 ∨ k = 2 ∨ k = 3 ∨ k = 4 ∨ k = 5 ∨ k = 6 ∨ k = 7 ∨ k = 8 ∨ k = 9 ∨ k = 10 ∨ k = 11 ∨ k = 12 ∨ k = 13) with rfl | rfl | rfl | rfl | rfl | rfl | rfl | rfl | rfl | rfl | rfl | rfl | rfl | rfl <;> rfl
  exact this ⟨j, h⟩
theorem setT_dN (j : Nat) (h : j < 14) : setT (dN j) (opD j) true = dN (j + 1) := by
  simp only [setT, dN, defF_step j h]
end Go.Proofs.Ytggcampdkgfmgaa
namespace Go.Proofs.Ytggcampdkgfmgaa
open Go.RowKit

theorem run_ldc {w : World} {g : Nat} {cs : Array Value} (h : Box w g 26 cs) (hs : cs.size = 24) : (loadCellsFrom ⟨g, 0, none⟩ 0 24 #[]).run Try.prog w = .ok cs w := by
  have := run_loadCells_list (P := Try.prog) w ⟨g, 0, none⟩ cs.toList (fun j v hv => by
    rw [Addr.add_lit, Nat.zero_add, h.cell j]
    simpa using hv)
  simpa [loadCells, hs] using this
theorem run_stc {w : World} {g : Nat} {cs : Array Value} (h : Box w g 26 cs) (hs : cs.size = 24) (t : Tm) (ht : t.c.length = 19) : (storeCells ⟨g, 0, none⟩ t.cs.toList 0).run Try.prog w = .ok () (w.setRow g t.cs) := by
  have := run_storeVar_row (P := Try.prog) w g 26 26 cs t.cs h (by rw [cs_size ht]; exact Try.size26) (by rw [hs, cs_size ht]) (cs_one t)
  have h26 := Try.size26
  cases hq : Try.prog.info? 26 with
  | none => simp [hq] at h26
  | some i =>
    simp [hq] at h26
    simpa [storeVar, sizeOf, typeInfo, hq, Value.cells, cs_size ht, h26] using this
/-- Where a pointer leads, and what an aggregate holds. -/
def blkV : Value → Nat
  | .pointer (some ⟨g, 0, none⟩) => g
  | _ => 0
def isP : Value → Bool
  | .pointer (some ⟨_, 0, none⟩) => true
  | _ => false
def aggV : Value → Array Value
  | .agg cs => cs
  | _ => #[]
def isA : Value → Bool
  | .agg _ => true
  | _ => false
def isB (w : World) (g : Nat) : Bool := match w.heap[g]? with
  | some (.cells cs t fr) => decide (t = 26) && decide (fr = (0, 0)) && decide (cs.size = 24)
  | _ => false
def cs26 (w : World) (g : Nat) : Array Value := match w.heap[g]? with
  | some (.cells cs _ _) => cs
  | _ => #[]
theorem isB_box {w : World} {g : Nat} (h : isB w g = true) : Box w g 26 (cs26 w g) ∧ (cs26 w g).size = 24 := by
  unfold isB at h
  unfold cs26 Box
  split at h
  · rename_i cs t fr he
    simp only [Bool.and_eq_true, decide_eq_true_eq] at h
    obtain ⟨⟨rfl, rfl⟩, h3⟩ := h
    simp [he, h3]
  · cases h
theorem box_isB {w : World} {g : Nat} {t : Tm} (h : Box w g 26 t.cs) (ht : t.c.length = 19) : isB w g = true ∧ cs26 w g = t.cs := by
  unfold Box at h
  unfold isB cs26
  rw [h]
  simp [cs_size ht]
def okS (v : Value) : Bool := isA v && decide ((aggV v).size = 24) && (aggV v).all (·.oneCell')
theorem okS_cs {t : Tm} (ht : t.c.length = 19) : okS (.agg t.cs) = true ∧ aggV (.agg t.cs) = t.cs := by
  refine ⟨?_, rfl⟩
  unfold okS
  show (true && decide (t.cs.size = 24) && t.cs.all (·.oneCell')) = true
  rw [cs_one t, cs_size ht]
  rfl
theorem isP_eq {v : Value} (h : isP v = true) : v = .pointer (some ⟨blkV v, 0, none⟩) := by
  unfold isP at h
  split at h
  · rfl
  · cases h
theorem isA_eq {v : Value} (h : isA v = true) : v = .agg (aggV v) := by
  unfold isA at h
  split at h
  · rfl
  · cases h
theorem wp_ld26 {dst : Option Tmp} {x : Operand} {ty : TypeId} {pos : String} {after : Array Edge} {gd : Option (Nat × Bool)} {a : Act} {w : World} {K : Act → World → Prop} {Q : Exit → Act → World → Prop} (h1 : isP (a.eval x) = true) (h2 : isB w (blkV (a.eval x)) = true) :
    Oper.wp Try.prog { dst, op := .load 26 x, type := ty, pos, after, guard := gd } a w K Q = K (a.put dst (.agg (cs26 w (blkV (a.eval x))))) w := by
  obtain ⟨hb, hs⟩ := isB_box h2
  have hx := isP_eq h1
  generalize blkV (a.eval x) = g at *
  unfold Oper.wp execOp
  simp only [hx, Instr.loadAt, Instr.sureAddr, Sem.run_bind, Sem.run_pure, Result.andThen_ok, run_loadVar_row (P := Try.prog) w g 26 26 _ (0, 0) _ hb Try.underlying26 rfl (by rw [hs]; exact Try.size26)]
  rfl
theorem wp_st26 {dst : Option Tmp} {x y : Operand} {ty : TypeId} {pos : String} {after : Array Edge} {gd : Option (Nat × Bool)} {a : Act} {w : World} {K : Act → World → Prop} {Q : Exit → Act → World → Prop} (h1 : isP (a.eval x) = true) (h2 : isB w (blkV (a.eval x)) = true) (h3 : okS (a.eval y) = true) :
    Oper.wp Try.prog { dst, op := .store 26 x y, type := ty, pos, after, guard := gd } a w K Q = K (a.put dst undef) (w.setRow (blkV (a.eval x)) (aggV (a.eval y))) := by
  obtain ⟨hb, hs⟩ := isB_box h2
  have hx := isP_eq h1
  unfold okS at h3
  simp only [Bool.and_eq_true, decide_eq_true_eq] at h3
  obtain ⟨⟨h4, h5⟩, h6⟩ := h3
  have hy := isA_eq h4
  generalize blkV (a.eval x) = g at *
  generalize aggV (a.eval y) = cs at *
  unfold Oper.wp execOp
  simp only [hx, hy, Instr.storeAt, Instr.sureAddr, Sem.run_bind, Sem.run_pure, Result.andThen_ok, run_storeVar_row (P := Try.prog) w g 26 26 _ cs hb (by rw [h5]; exact Try.size26) (by rw [hs, h5]) h6]
  rfl
theorem has_b (w : World) {t : Tm} (ht : t.Ok) {op : Int} {b : Bool} (hb : hasN t.f op = b) : Calls Try.prog 46 #[.agg t.cs, .int .i64 op] w fun e w' => e = .returned (.bool b) ∧ Hid (Below w.heap.size w w') := by
  subst hb
  exact has_any w t ht op
theorem slb_lit (w : World) (bs : List UInt8) (n : Nat) (cs : Array Value) (hc : (bv bs).toArray = cs) (hn : bs.length = n) (hm : n ≤ maxLen) : SlB (w.alloc (.cells cs 5)) (w.alloc (.cells cs 5)).heap.size (some ⟨w.heap.size, 0, none⟩) n bs := by
  subst hc
  subst hn
  refine ⟨Nat.le_refl _, hm, by simp, ?_⟩
  have := lies_lit w (bv bs).toArray 5
  rw [World.size_alloc]
  simpa using this
theorem slb_grow {w w' : World} {A : Option Addr} {c : Nat} {bs : List UInt8} (h : SlB w w.heap.size A c bs) (k : Below w.heap.size w w') : SlB w' w'.heap.size A c bs :=
  ⟨h.1, h.2.1, h.2.2.1, (h.2.2.2.below k).more k.size⟩
theorem bel_t {w a b : World} (h : Hid (Below w.heap.size w a)) (k : Below a.heap.size a b) : Hid (Below w.heap.size w b) := hid (h.out.trans (k.mono h.out.size))
end Go.Proofs.Ytggcampdkgfmgaa
namespace Go.Proofs.Ytggcampdkgfmgaa
open Go.ChangeShapes Go.WideShapes Go.ChangeAt Go.RowKit Go.Deep

theorem cells3 : Try.prog.cellsOf 3 = 1 := by kernel_rfl
theorem cells4 : Try.prog.cellsOf 4 = 1 := by kernel_rfl
theorem cells5 : Try.prog.cellsOf 5 = 1 := by kernel_rfl
theorem cells22 : Try.prog.cellsOf 22 = 19 := by kernel_rfl
theorem cells23 : Try.prog.cellsOf 23 = 1 := by kernel_rfl
theorem cells24 : Try.prog.cellsOf 24 = 1 := by kernel_rfl
theorem cells26 : Try.prog.cellsOf 26 = 24 := by kernel_rfl
theorem cells32 : Try.prog.cellsOf 27 = 1 := by kernel_rfl
theorem list_of {P : Nat → UInt8 → Prop} : ∀ n : Nat, (∀ i, i < n → ∃ b, P i b) → ∃ l : List UInt8, l.length = n ∧ ∀ i, i < n → P i (l.getD i 0)
  | 0, _ => ⟨[], rfl, fun i h => absurd h (by omega)⟩
  | n + 1, h => by
    obtain ⟨l, hl, hp⟩ := list_of n fun i hi => h i (by omega)
    obtain ⟨b, hb⟩ := h n (by omega)
    refine ⟨l ++ [b], by simp [hl], fun i hi => ?_⟩
    by_cases hin : i < n
    · have := hp i hin
      simpa [List.getD, List.getElem?_append_left (show i < l.length by omega)] using this
    · have : i = n := by omega
      subst this
      simpa [List.getD, List.getElem?_append_right (show l.length ≤ i by omega), hl] using hb
theorem one_at {cs : List Value} {o : Nat} {v : Value} (h : (cs.drop o).take 1 = [v]) : cs[o]? = some v := by
  have := congrArg (fun l => l[0]?) h
  simpa using this
section
variable {H : Type} {enc : TypeId × Value → H} {w : World} {base : Nat} {spare : Nat → Bool} {held : Bool}
/-- A slice of bytes among what came in. -/
theorem bytes_open {fuel : Nat} {cs : List Value} {x : DataW H × List MemPlace} (h : DataW.trod enc Try.prog w base spare held fuel 27 cs = some x) :
    ∃ A c bs, cs = [.slice A bs.length c] ∧ SlB w w.heap.size A c bs := by
  rcases open_ints Try.underlying27 Try.underlying5 cells5 h with ⟨rfl, _⟩ | ⟨a, len, cap, zs, rfl, _, hl, hm, hz, _, hcell, hwz⟩
  · exact ⟨none, 0, [], rfl, Nat.le_refl _, Nat.zero_le _, fun _ => rfl, Lies.nil_⟩
  · have hzl : len ≤ zs.length := by rw [hz]; split <;> omega
    refine ⟨some a, cap, (zs.take len).map fun z => UInt8.ofNat z.toNat, ?_, ?_, hm, by simp, ?_⟩
    · simp [Nat.min_eq_left hzl]
    · simp [Nat.min_eq_left hzl]; exact hl
    · intro hne
      have h0 : 0 < zs.length := by
        rcases Nat.eq_zero_or_pos zs.length with h | h
        · exfalso; apply hne; simp [bv, List.eq_nil_of_length_eq_zero h]
        · exact h
      have hb : a.block < w.heap.size := by
        have := World.block_lt_of_cell? w _ (hcell 0 h0)
        simpa [Addr.add] using this
      refine Lies.of_add hb (fun j u hu => ?_) hne
      have hj : j < len ∧ j < zs.length := by
        have := (List.getElem?_eq_some_iff.1 hu).1
        simp [bv] at this; omega
      rw [hcell j hj.2]
      have hw := hwz (zs[j]'hj.2) (List.getElem_mem _)
      have hr : 0 ≤ zs[j]'hj.2 ∧ zs[j]'hj.2 ≤ 255 := bounds_u8 hw
      simp only [bv, List.map_map, List.getElem?_map, List.getElem?_take, hj.1, if_true, List.getElem?_eq_getElem hj.2, Option.map_some, Function.comp] at hu
      rw [← hu]
      simp only [List.getD, List.getElem?_eq_getElem hj.2, Option.getD_some]
      congr 2
      simp
      omega
theorem sl_open {v : Value} {d : DataW H} {p : List MemPlace} (h : DataW.Trod enc Try.prog w base spare held 27 v d p) (hv : ∃ a n c, v = .slice a n c) :
    ∃ A c bs, v = .slice A bs.length c ∧ SlB w w.heap.size A c bs := by
  obtain ⟨fuel, hf⟩ := h
  obtain ⟨A0, n0, c0, rfl⟩ := hv
  obtain ⟨A, c, bs, e, h1⟩ := bytes_open hf
  have e' : Value.slice A0 n0 c0 = .slice A bs.length c := by simpa [Value.cells] using e
  exact ⟨A, c, bs, e', h1⟩
theorem i64_of {x : Int} (h : (Lit.int .i64 x).wf = true) : i64ok x := by
  have := bounds_i64 h
  exact ⟨this.1, this.2⟩
/-- A setting among what came in. -/
theorem tm_cells {fuel : Nat} {cs : List Value} {x : DataW H × List MemPlace} (h : DataW.trod enc Try.prog w base spare held fuel 26 cs = some x) : ∃ t : Tm, cs = t.cl ∧ t.Ok := by
  obtain ⟨xs, n, _, _, hlen, hxl, hff⟩ := DataW.trod_struct Try.underlying26 h
  rw [cells26] at hlen
  have hx : ∀ i, i < 6 → ∃ y, xs[i]? = some y := fun i hi => ⟨xs[i]'(by simpa [hxl] using hi), List.getElem?_eq_getElem _⟩
  obtain ⟨y0, e0⟩ := hx 0 (by omega)
  obtain ⟨y1, e1⟩ := hx 1 (by omega)
  obtain ⟨y2, e2⟩ := hx 2 (by omega)
  obtain ⟨y3, e3⟩ := hx 3 (by omega)
  obtain ⟨y4, e4⟩ := hx 4 (by omega)
  obtain ⟨y5, e5⟩ := hx 5 (by omega)
  have h0 : DataW.trod enc Try.prog w base spare held n 22 ((cs.drop 0).take (Try.prog.cellsOf 22)) = xs[0]? := hff 0 _ rfl
  have h1 : DataW.trod enc Try.prog w base spare held n 23 ((cs.drop 19).take (Try.prog.cellsOf 23)) = xs[1]? := hff 1 _ rfl
  have h2 : DataW.trod enc Try.prog w base spare held n 24 ((cs.drop 20).take (Try.prog.cellsOf 24)) = xs[2]? := hff 2 _ rfl
  have h3 : DataW.trod enc Try.prog w base spare held n 24 ((cs.drop 21).take (Try.prog.cellsOf 24)) = xs[3]? := hff 3 _ rfl
  have h4 : DataW.trod enc Try.prog w base spare held n 3 ((cs.drop 22).take (Try.prog.cellsOf 3)) = xs[4]? := hff 4 _ rfl
  have h5 : DataW.trod enc Try.prog w base spare held n 3 ((cs.drop 23).take (Try.prog.cellsOf 3)) = xs[5]? := hff 5 _ rfl
  rw [cells22, e0] at h0
  rw [cells23, e1] at h1
  rw [cells24, e2] at h2
  rw [cells24, e3] at h3
  rw [cells3, e4] at h4
  rw [cells3, e5] at h5
  obtain ⟨f, f1, _, wf⟩ := DataW.trod_int Try.underlying23 h1
  obtain ⟨i, i1, _, wi⟩ := DataW.trod_int Try.underlying24 h2
  obtain ⟨o, o1, _, wo⟩ := DataW.trod_int Try.underlying24 h3
  obtain ⟨m, m1, _, wm⟩ := DataW.trod_int Try.underlying3 h4
  obtain ⟨s, s1, _, ws⟩ := DataW.trod_int Try.underlying3 h5
  obtain ⟨zs, k, _, _, _, hzl, hz⟩ := DataW.trod_array Try.underlying22 h0
  obtain ⟨c, hc, hcc⟩ := list_of (P := fun i b => cs[i]? = some (.int .u8 (b.toNat : Int))) 19 (fun i hi => by
    have := hz i hi
    rw [cells5, List.getElem?_eq_getElem (by omega)] at this
    obtain ⟨b, b1, _, wb⟩ := DataW.trod_int Try.underlying5 this
    have hb := bounds_u8 wb
    have b2 := one_at b1
    refine ⟨UInt8.ofNat b.toNat, ?_⟩
    have e : ((UInt8.ofNat b.toNat).toNat : Int) = b := by simp; omega
    rw [e]
    simpa [List.getElem?_take, hi] using b2)
  have bf := bounds_u64 wf
  have bi := bounds_u32 wi
  have bo := bounds_u32 wo
  obtain ⟨f, rfl⟩ := Int.eq_ofNat_of_zero_le bf.1
  obtain ⟨i, rfl⟩ := Int.eq_ofNat_of_zero_le bi.1
  obtain ⟨o, rfl⟩ := Int.eq_ofNat_of_zero_le bo.1
  refine ⟨⟨c, f, i, o, m, s⟩, ?_, ⟨hc, by have := bf.2; show f < _; omega, by have := bi.2; show i < _; omega, by have := bo.2; show o < _; omega, i64_of wm, i64_of ws⟩⟩
  have hl : (bv c).length = 19 := by simp [bv, hc]
  apply List.ext_getElem?
  intro j
  show cs[j]? = (bv c ++ [.int .u64 (f : Int), .int .u32 (i : Int), .int .u32 (o : Int), .int .i64 m, .int .i64 s])[j]?
  by_cases hj : j < 19
  · rw [List.getElem?_append_left (by omega), hcc j hj]
    simp [bv, hc, hj]
  · rw [List.getElem?_append_right (by omega), hl]
    rcases (by omega : j = 19 ∨ j = 20 ∨ j = 21 ∨ j = 22 ∨ j = 23 ∨ 24 ≤ j) with rfl | rfl | rfl | rfl | rfl | hj
    · exact one_at f1
    · exact one_at i1
    · exact one_at o1
    · exact one_at m1
    · exact one_at s1
    · rw [List.getElem?_eq_none (by omega), List.getElem?_eq_none (by simp; omega)]
theorem tm_open {v : Value} {d : DataW H} {p : List MemPlace} (h : DataW.Trod enc Try.prog w base spare held 26 v d p) (hv : ∃ cs : Array Value, v = .agg cs ∧ cs.size = Try.prog.cellsOf 26) : ∃ t : Tm, v = .agg t.cs ∧ t.Ok := by
  obtain ⟨fuel, hf⟩ := h
  obtain ⟨cs0, rfl, hsz⟩ := hv
  obtain ⟨t, e, ht⟩ := tm_cells hf
  refine ⟨t, ?_, ht⟩
  have : cs0.toList = t.cl := e
  unfold Tm.cs
  rw [← this]
set_option maxRecDepth 100000 in
end
/-- A call of a law begins in some world. -/
noncomputable def startWorld (os : Os) : World := World.holding Try.prog os ⟨#[], #[], []⟩
theorem ownK : ownKnob Try.prog.godebug = none := by kernel_rfl
theorem laidOutK : laidOutB Try.prog = true := by kernel_rfl

/-- What came in reads as it did, where nothing that was there has turned. -/
theorem trodAll_below {H : Type} {enc : TypeId × Value → H} {P : Program} (hl : laidOutB P = true) {W W' : World} (hb : Below W.heap.size W W') : ∀ (ts : List TypeId) (vs : List Value) (ds : List (DataW H)) (ps : List MemPlace),
    (∀ t ∈ ts, P.readableRec t = true ∧ t < P.types.size) → DataW.TrodAll enc P W 0 (fun _ => true) true ts vs ds ps → (∀ x ∈ ps, x.block < W.heap.size) →
    DataW.TrodAll enc P W' 0 (fun b => decide (b < W.heap.size)) true ts vs ds ps
  | [], vs, ds, ps, _, h, _ => by
    obtain ⟨rfl, rfl, rfl⟩ := trodAll_nil h
    exact trodAll_mk0
  | t :: ts, vs, ds, ps, hr, h, hlt => by
    obtain ⟨v0, vs0, d0, ds0, p0, q0, rfl, rfl, rfl, h0, r0⟩ := trodAll_cons h
    obtain ⟨h1, h2⟩ := hr t (by simp)
    exact trodAll_cons_mk (Below.trod hl h1 h2 h0 hb (fun x hx => hlt x (by simp [hx]))) (trodAll_below hl hb ts vs0 ds0 q0 (fun t ht => hr t (by simp [ht])) r0 (fun x hx => hlt x (by simp [hx])))

/-- A law has returned true, and nothing that was there has turned: what its row asks. -/
theorem law_post {H : Type} {enc : TypeId × Value → H} {P : Program} (hl : laidOutB P = true) {fn : Func} {s : ChangeSpec} {W W' : World} {args : Array Value} {ds : List (DataW H)} {p : List MemPlace}
    (h4 : P.underlying 4 = some .bool) (hres : fn.resultTypes = #[4]) (hvars : s.vars = []) (hparams : ∀ t ∈ fn.params.toList, P.readableRec t = true ∧ t < P.types.size)
    (hspec : (s.fn H (ds ++ [])).results = [.lit (.bool true)] ∧ (s.fn H (ds ++ [])).args = ds ∧ (s.fn H (ds ++ [])).vars = [])
    (hW : DataW.Whole enc P fn.params.toList s.vars false W args.toList ds [] p) (hA : DataW.TrodAll enc P W 0 (fun _ => true) true fn.params.toList args.toList ds p) (hb : Below W.heap.size W W') :
    s.post enc P fn false true false false W args (.bool true) W' := by
  refine ⟨ds, [], p, [], p, [], hW, ?_, ?_, ?_, hb.frame _, fun h => by cases h⟩
  · rw [hspec.1, hres]
    exact trodAll_mk1 (shut_bool h4 true)
  · rw [hspec.2.1]
    exact trodAll_below hl hb _ _ _ _ hparams hA (fun x hx => hW.lt x hx)
  · rw [hspec.2.2, hvars]
    rfl
end Go.Proofs.Ytggcampdkgfmgaa
