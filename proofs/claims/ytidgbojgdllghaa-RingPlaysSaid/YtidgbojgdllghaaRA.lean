import Derived.Test.YtidgbojgdllghaaBA
import Derived.Laws.CopyOwn
import Derived.Laws.MakeOwn
namespace Go.Proofs.Ytidgbojgdllghaa
open Go.RowKit

/-- Nothing of what there was has turned, but the blocks of a list. -/
structure But (L : List Nat) (w w' : World) : Prop where
  os : w'.os = w.os
  tape : w'.tape = w.tape
  output : w'.output = w.output
  size : w.heap.size ≤ w'.heap.size
  block : ∀ b, b < w.heap.size → b ∉ L → w'.heap[b]? = w.heap[b]?
section
variable {L L' : List Nat} {a w w' : World}
theorem But.refl (L : List Nat) (w : World) : But L w w := ⟨rfl, rfl, rfl, Nat.le_refl _, fun _ _ _ => rfl⟩
theorem But.trans (h : But L a w) (k : But L' w w') (hL : ∀ x ∈ L', x ∈ L ∨ a.heap.size ≤ x) : But L a w' :=
  ⟨k.os.trans h.os, k.tape.trans h.tape, k.output.trans h.output, Nat.le_trans h.size k.size, fun b hb hn => by
    rw [k.block b (Nat.lt_of_lt_of_le hb h.size) (fun hx => (hL b hx).elim hn (fun h1 => by omega)), h.block b hb hn]⟩
theorem But.same (h : But L a w) (k : But L w w') : But L a w' := h.trans k fun _ hx => .inl hx
theorem But.mono (h : But L w w') (hL : ∀ x ∈ L, x ∈ L') : But L' w w' := ⟨h.os, h.tape, h.output, h.size, fun b hb hn => h.block b hb fun hx => hn (hL b hx)⟩
theorem But.of_below (h : Below w.heap.size w w') (L : List Nat) : But L w w' := ⟨h.os, h.tape, h.output, h.size, fun b hb _ => h.block b hb⟩
theorem But.below (h : But L w w') {B : Nat} (hB : B ≤ w.heap.size) (hL : ∀ x ∈ L, B ≤ x) : Below B w w' :=
  ⟨h.os, h.tape, h.output, h.size, fun b hb => h.block b (by omega) fun hx => by have := hL b hx; omega⟩
theorem But.alloc (h : But L a w) (o : Obj) : But L a (w.alloc o) := ⟨h.os, h.tape, h.output, Nat.le_trans h.size (by simp), fun b hb hn => by
  rw [Below.heap_alloc _ _ _ (Nat.lt_of_lt_of_le hb h.size), h.block b hb hn]⟩
theorem But.drew (h : But L a w) : But L a w.drew := ⟨h.os, h.tape, h.output, h.size, h.block⟩
theorem But.drewN (h : But L a w) (n : Nat) : But L a (w.drewN n) := ⟨h.os, h.tape, h.output, h.size, h.block⟩
theorem But.box (h : But L w w') {g : Nat} {t : TypeId} {cs : Array Value} (hx : Box w g t cs) (hg : g ∉ L) : Box w' g t cs := hx.same (h.block g hx.lt hg)
theorem But.store (h : But L a w) {g i : Nat} (hg : g ∈ L ∨ a.heap.size ≤ g) (u : Value) : But L a (w.setCell ⟨g, i, none⟩ u) :=
  h.trans (L' := [g]) ⟨rfl, rfl, rfl, by simp [World.setCell], fun b _ hc => Below.heap_setCell _ _ _ _ (by
    rintro rfl
    simp at hc)⟩ (fun x hx => by simp at hx; subst hx; exact hg)
theorem But.grown (h : But L a w) {row : Option Nat} (hg : w.grownBy w' row) (hr : ∀ k, row = some k → k ∈ L ∨ a.heap.size ≤ k) : But L a w' :=
  h.trans (L' := row.toList) ⟨hg.os, hg.tape, hg.output, hg.size, fun b hb hc => hg.block b hb (by
    intro e
    subst e
    simp at hc)⟩ (fun x hx => by
      cases row with
      | none => simp at hx
      | some k => simp at hx; subst hx; exact hr _ rfl)
theorem But.own {base : Nat} {e : TypeId} {size n : Nat} {v : Value} {xs : List Value} (k : But L w w') (h : w.ownsRow base e size v n xs) (hn : ∀ g, v.ownBlock = some g → g ∉ L) : w'.ownsRow base e size v n xs := by
  refine ⟨h.1, ?_⟩
  rcases h.2 with hn | ⟨g, cap, cur, rfl, hb, hgg, rest⟩
  · exact .inl hn
  · exact .inr ⟨g, cap, cur, rfl, hb, (k.box (t := e) hgg (hn g rfl)), rest⟩
theorem But.cell (h : But L w w') {p : Addr} (hb : p.block < w.heap.size) (hp : p.block ∉ L) : w'.cell? p = w.cell? p := by
  have := h.block p.block hb hp
  unfold World.cell?
  rw [this]
theorem But.lies (h : But L w w') {B : Nat} {A : Option Addr} {cs : List Value} (hl : Lies w B A cs) (hB : B ≤ w.heap.size) (hA : ∀ a, A = some a → a.block ∉ L) : Lies w' B A cs := fun hn => by
  obtain ⟨b, o, rfl, hb, hc⟩ := hl hn
  exact ⟨b, o, rfl, hb, fun j u hu => (h.cell (p := ⟨b, o + j, none⟩) (Nat.lt_of_lt_of_le hb hB) (hA ⟨b, o, none⟩ rfl)).trans (hc j u hu)⟩
end

/-- A ring: its block, the block of its bytes, its size, what is in it. -/
structure RgS (w : World) (g h size front : Nat) (cur : List Value) (q : List UInt8) : Prop where
  box : Box w g 53 #[.slice (some ⟨h, 0, none⟩) size size, .int .i64 front, .int .i64 ((front + q.length) % size : Nat), .int .i64 q.length]
  row : Box w h 5 cur.toArray
  len : cur.length = size
  pos : 1 ≤ size
  le : size ≤ 65536
  fr : front < size
  fit : q.length ≤ size
  all : ∀ i (hi : i < q.length), cur[(front + i) % size]? = some (.int .u8 (q[i].toNat : Int))
def Rg (w : World) (g h size : Nat) (q : List UInt8) : Prop := ∃ front cur, RgS w g h size front cur q
theorem Rg.keep {w w' : World} {g h size : Nat} {q : List UInt8} {L : List Nat} (hr : Rg w g h size q) (k : But L w w') (hg : g ∉ L) (hh : h ∉ L) : Rg w' g h size q := by
  obtain ⟨f, cur, r⟩ := hr
  exact ⟨f, cur, { r with box := k.box r.box hg, row := k.box r.row hh }⟩
theorem Rg.ne {w : World} {g h size : Nat} {q : List UInt8} (hr : Rg w g h size q) : g ≠ h := by
  obtain ⟨f, cur, r⟩ := hr
  exact box_ne r.box r.row (by decide)
theorem Rg.lt {w : World} {g h size : Nat} {q : List UInt8} (hr : Rg w g h size q) : g < w.heap.size ∧ h < w.heap.size := by
  obtain ⟨f, cur, r⟩ := hr
  exact ⟨r.box.lt, r.row.lt⟩
theorem Rg.sizes {w : World} {g h size : Nat} {q : List UInt8} (hr : Rg w g h size q) : 1 ≤ size ∧ size ≤ 65536 ∧ q.length ≤ size := by
  obtain ⟨f, cur, r⟩ := hr
  exact ⟨r.pos, r.le, r.fit⟩

theorem ret_i64 {x : Int} {n : Nat} (h : x = n) : Ending.returned (.int .i64 x) = .returned (.int .i64 (n : Int)) := by rw [h]
theorem mod_once {x s : Nat} (h : x < 2 * s) : x % s = if x < s then x else x - s := by
  split
  · exact Nat.mod_eq_of_lt ‹_›
  · rw [Nat.mod_eq_sub_mod (by omega), Nat.mod_eq_of_lt (by omega)]
theorem splice_get {α : Type} (L : List α) (off : Nat) (cs : List α) (h : off + cs.length ≤ L.length) (j : Nat) : (splice L off cs)[j]? = if off ≤ j ∧ j < off + cs.length then cs[j - off]? else L[j]? := by
  unfold splice
  by_cases h1 : j < off
  · rw [if_neg (by omega), List.getElem?_append_left (by rw [List.length_take]; omega), List.getElem?_take, if_pos h1]
  · rw [List.getElem?_append_right (by rw [List.length_take]; omega)]
    have h2 : j - (L.take off).length = j - off := by rw [List.length_take]; omega
    rw [h2]
    by_cases h3 : j < off + cs.length
    · rw [if_pos (by omega), List.getElem?_append_left (by omega)]
    · rw [if_neg (by omega), List.getElem?_append_right (by omega), List.getElem?_drop]
      congr 1
      omega

section
variable (w : World)
set_option maxHeartbeats 1000000 in
theorem len_nil : Calls Try.prog 14 #[.pointer none] w fun e w' => e = .returned (.int .i64 0) ∧ w' = w := by
  go_enter Try.func14, Try.ntmps14
  go_wp2
  go_ret
  exact ⟨rfl, rfl⟩
set_option maxHeartbeats 1000000 in
theorem cap_nil : Calls Try.prog 15 #[.pointer none] w fun e w' => e = .returned (.int .i64 0) ∧ w' = w := by
  go_enter Try.func15, Try.ntmps15
  go_wp2
  go_ret
  exact ⟨rfl, rfl⟩
set_option maxHeartbeats 1000000 in
theorem room_nil : Calls Try.prog 16 #[.pointer none] w fun e w' => e = .returned (.int .i64 0) ∧ w' = w := by
  go_enter Try.func16, Try.ntmps16
  go_wp2_with (first
    | (go_at_call 15
       ((with_reducible refine (cap_nil _).mono ?_); rintro e w2 ⟨rfl, rfl⟩))
    | (go_at_call 14
       ((with_reducible refine (len_nil _).mono ?_); rintro e w2 ⟨rfl, rfl⟩)))
  go_ret
  exact ⟨rfl, rfl⟩
set_option maxHeartbeats 1000000 in
theorem len_any {g h size : Nat} {q : List UInt8} (hr : Hid (Rg w g h size q)) : Calls Try.prog 14 #[.pointer (some ⟨g, 0, none⟩)] w fun e w' => e = .returned (.int .i64 q.length) ∧ w' = w := by
  obtain ⟨f, cur, r⟩ := hr.out
  have c3 := r.box.cell 3
  clear r
  go_enter Try.func14, Try.ntmps14
  go_wp2
  go_ret
  exact ⟨rfl, rfl⟩
set_option maxHeartbeats 1000000 in
theorem cap_any {g h size : Nat} {q : List UInt8} (hr : Hid (Rg w g h size q)) : Calls Try.prog 15 #[.pointer (some ⟨g, 0, none⟩)] w fun e w' => e = .returned (.int .i64 size) ∧ w' = w := by
  obtain ⟨f, cur, r⟩ := hr.out
  have c0 := r.box.cell 0
  clear r
  go_enter Try.func15, Try.ntmps15
  go_wp2
  go_ret
  exact ⟨rfl, rfl⟩
set_option maxHeartbeats 1000000 in
theorem room_any {g h size : Nat} {q : List UInt8} (hr : Hid (Rg w g h size q)) : Calls Try.prog 16 #[.pointer (some ⟨g, 0, none⟩)] w fun e w' => e = .returned (.int .i64 (size - q.length : Nat)) ∧ w' = w := by
  obtain ⟨hs1, hs2, hs3⟩ := hr.out.sizes
  go_enter Try.func16, Try.ntmps16
  go_wp2_with (first
    | (go_at_call 15
       ((with_reducible refine (cap_any _ hr).mono ?_); rintro e w2 ⟨rfl, rfl⟩))
    | (go_at_call 14
       ((with_reducible refine (len_any _ hr).mono ?_); rintro e w2 ⟨rfl, rfl⟩)))
  go_ret
  exact ⟨ret_i64 (x := (size : Int) - q.length) (by omega), rfl⟩
/-- How many of l there are to be had, when n are asked for. -/
def had (n : Int) (l : Nat) : Nat := (min n l).toNat
theorem had_le (n : Int) (l : Nat) : had n l ≤ l := by unfold had; omega
set_option maxHeartbeats 1000000 in
theorem within_any {g h size : Nat} {q : List UInt8} (n : Int) (hr : Hid (Rg w g h size q)) : Calls Try.prog 26 #[.pointer (some ⟨g, 0, none⟩), .int .i64 n] w fun e w' => e = .returned (.int .i64 (had n q.length)) ∧ w' = w := by
  go_enter Try.func26, Try.ntmps26
  go_wp2_with (first
    | (go_at_call 14
       ((with_reducible refine (len_any _ hr).mono ?_); rintro e w2 ⟨rfl, rfl⟩)))
  all_goals
    rename_i h1
    first | rw [if_pos (by omega)] at h1 | rw [if_neg (by omega)] at h1
    go_ret
  · exact ⟨ret_i64 (x := (q.length : Int)) (by unfold had; omega), rfl⟩
  · exact ⟨ret_i64 (x := n) (by unfold had; omega), rfl⟩
  · exact ⟨ret_i64 (x := 0) (by unfold had; omega), rfl⟩
  · exact ⟨ret_i64 (x := 0) (by unfold had; omega), rfl⟩
set_option maxHeartbeats 1000000 in
theorem onward_any {g h size : Nat} (p n x : Nat) (c0 : Hid (w.cell? ⟨g, 0, none⟩ = some (.slice (some ⟨h, 0, none⟩) size size))) (h1 : 1 ≤ size) (h2 : size ≤ 65536) (hp : p ≤ 1000000) (hn : n ≤ 1000000) (hx : Hid ((p + n) % size = x)) : Calls Try.prog 27 #[.pointer (some ⟨g, 0, none⟩), .int .i64 p, .int .i64 n] w fun e w' => e = .returned (.int .i64 x) ∧ w' = w := by
  have c00 := c0.out
  have h3 : ¬ ((size : Int) = 0) := by omega
  go_enter Try.func27, Try.ntmps27
  go_wp2
  go_ret
  exact ⟨ret_i64 (x := ((p : Int) + n) % size) (by rw [← hx.out, Int.natCast_emod, Int.natCast_add]), rfl⟩
end
end Go.Proofs.Ytidgbojgdllghaa
