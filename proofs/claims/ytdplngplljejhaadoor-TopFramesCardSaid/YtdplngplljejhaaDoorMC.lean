import Derived.Test.YtdplngplljejhaaDoorMB
namespace Go.Proofs.YtdplngplljejhaaDoor
open Go.RowKit

theorem bel1 (w : World) (o : Obj) : Below w.heap.size w (w.alloc o) := (Below.refl _ _).alloc (Nat.le_refl _) o
theorem bel2 (w : World) (o o' : Obj) : Below w.heap.size w ((w.alloc o).alloc o') := ((Below.refl _ _).alloc (Nat.le_refl _) o).alloc (by simp) o'
set_option maxHeartbeats 800000 in
set_option maxRecDepth 100000 in
theorem get69 (a : Addr) (b : Bool) (w : World) (ha : a.block < w.heap.size) (hc : w.cell? a = some (.bool b)) :
    Calls Tryd.prog 107 #[.agg #[.pointer (some a)]] w fun e w' => e = .returned (.tuple #[.agg #[.int .i64 0, .int .u32 (if b then 1 else 0 : Nat), .slice none 0 0, .slice none 0 0], .int .i64 0]) ∧ Below w.heap.size w w' := by
  have hc1 : ∀ o, (w.alloc o).cell? a = some (.bool b) := fun o => ((bel1 w o).cell ha).trans hc
  have hc2 : ∀ o o', ((w.alloc o).alloc o').cell? a = some (.bool b) := fun o o' => ((bel2 w o o').cell ha).trans hc
  cases b with
  | true =>
    go_enter Tryd.func107, Tryd.ntmps107
    go_wp2
    refine bodyPost_ret (v := .tuple #[.agg #[.int .i64 0, .int .u32 1, .slice none 0 0, .slice none 0 0], .int .i64 0]) (by simp [results, Tryd.results107, go_sem]) rfl ⟨rfl, ?_⟩
    exact bel2 _ _ _
  | false =>
    go_enter Tryd.func107, Tryd.ntmps107
    go_wp2
    refine bodyPost_ret (v := .tuple #[.agg #[.int .i64 0, .int .u32 0, .slice none 0 0, .slice none 0 0], .int .i64 0]) (by simp [results, Tryd.results107, go_sem]) rfl ⟨rfl, ?_⟩
    exact bel2 _ _ _

theorem kept4 {w : World} {g B : Nat} {t : TypeId} {cs : Array Value} (h : Box w g t cs) (hB : B ≤ g) (a b c d : Value) :
    Kept B [t] w ((((w.setCell ⟨g, 0, none⟩ a).setCell ⟨g, 1, none⟩ b).setCell ⟨g, 2, none⟩ c).setCell ⟨g, 3, none⟩ d) :=
  ((((Kept.refl B [t] w).store h hB (by simp) a).store (h.store 0 a) hB (by simp) b).store ((h.store 0 a).store 1 b) hB (by simp) c).store (((h.store 0 a).store 1 b).store 2 c) hB (by simp) d
theorem str_len (s : ByteArray) : s.data.toList.length = s.size := Array.length_toList
theorem conv_tk (w : World) (base : Nat) (s : ByteArray) (h : s.size ≤ maxLen) : TK (Lib.bytesWorld w 5 s) base (some ⟨w.heap.size, 0, none⟩) (grownCap w s.size 0 5) s.data.toList := by
  refine ⟨?_, grownCap_le_maxLen w s.size 0 5 h, fun _ => ⟨w.heap.size, 0, rfl, by rw [Lib.bytesWorld_size]; omega, .inr ⟨_, _, Lib.bytesWorld_at_new w 5 s⟩, fun j u hu => ?_⟩⟩
  · have := grownCap_ge w s.size 0 5
    rw [str_len]; exact this
  · have hj : j < s.size := by
      have := (List.getElem?_eq_some_iff.1 hu).1
      rw [bv_length, str_len] at this
      exact this
    rw [Nat.zero_add, Lib.bytesWorld_cell w 5 s j hj, ← hu]
    have hj2 : j < s.data.size := hj
    simp [bv, List.getD, Array.getElem?_eq_getElem hj2]
theorem bel_conv (w : World) (s : ByteArray) : Below w.heap.size w (Lib.bytesWorld w 5 s) :=
  ⟨rfl, rfl, rfl, by rw [Lib.bytesWorld_size]; omega, fun b hb => Lib.bytesWorld_at_old w 5 s b hb⟩

set_option maxHeartbeats 800000 in
set_option maxRecDepth 100000 in
theorem get84 (base : Nat) (a : Addr) (l : Nat) (s : ByteArray) (w : World) (ha : a.block < w.heap.size) (hc : w.cell? a = some (.string s)) (hs : s.size ≤ maxLen) (hl : l ≤ 1) (hbase : base ≤ w.heap.size) :
    Calls Tryd.prog 119 #[.agg #[.pointer (some a), .int .i64 l]] w fun e w' => Below w.heap.size w w' ∧
      (wordOk l s = true → ∃ tA tc, e = .returned (.tuple #[.agg #[.int .i64 0, .int .u32 0, .slice tA s.size tc, .slice none 0 0], .int .i64 0]) ∧ TK w' base tA tc s.data.toList) ∧
      (wordOk l s = false → e = .returned (.tuple #[.agg #[.int .i64 0, .int .u32 0, .slice none 0 0, .slice none 0 0], .int .i64 4])) := by
  have hc1 : ∀ o, (w.alloc o).cell? a = some (.string s) := fun o => ((bel1 w o).cell ha).trans hc
  have hc2 : ∀ o o', ((w.alloc o).alloc o').cell? a = some (.string s) := fun o o' => ((bel2 w o o').cell ha).trans hc
  have ha2 : ∀ o o', a.block < ((w.alloc o).alloc o').heap.size := fun o o' => by simp; omega
  have hconv : Hid (∀ W : World, (convert 9 22 (.string s)).run Tryd.prog W = .ok (.slice (some ⟨W.heap.size, 0, none⟩) s.size (grownCap W s.size 0 5)) (Lib.bytesWorld W 5 s)) := fun W => Lib.run_convert_string_bytes W 9 22 5 s Tryd.underlying9 Tryd.underlying22 Tryd.underlying5
  obtain ⟨b, HB⟩ : ∃ b, Hid (wordOk l s = b) := ⟨_, hid rfl⟩
  cases b with
  | true =>
    go_enter Tryd.func119, Tryd.ntmps119
    go_wp2_with (
      go_at_call 126
      refine (right_any a l s _ hs hl (hc2 _ _) (ha2 _ _)).mono ?_
      rw [HB.out]
      rintro e w' ⟨rfl, hb⟩
      have hcw : w'.cell? a = some (.string s) := (hb.cell (ha2 _ _)).trans (hc2 _ _)
      have hx0 : Box w' w.heap.size 159 #[.pointer (some a), .int .i64 l] := ((Box.new w 159 _).same (Below.heap_alloc _ _ _ (by simp))).same (hb.block _ (by simp; omega))
      have x0 : w'.cell? ⟨w.heap.size, 0, none⟩ = some (.pointer (some a)) := hx0.cell 0
      have hcv := hconv.out w'
      have hr0 : Box w' (w.heap.size + 1) 80 #[.int .i64 0, .int .u32 0, .slice none 0 0, .slice none 0 0] := by
        have h := (Box.new (w.alloc (.cells #[.pointer (some a), .int .i64 l] 159)) 80 #[.int .i64 0, .int .u32 0, .slice none 0 0, .slice none 0 0]).same (hb.block _ (by simp))
        simpa using h
      have hbw : Below w.heap.size w w' := (bel2 w _ _).trans (hb.mono (by simp; omega))
      have htk := conv_tk w' base s hs
      have hbc := bel_conv w' s
      generalize Lib.bytesWorld w' 5 s = w2 at hcv htk hbc
      have hr1 : Box w2 (w.heap.size + 1) 80 #[.int .i64 0, .int .u32 0, .slice none 0 0, .slice none 0 0] := hr0.same (hbc.block _ hr0.lt)
      have d0 : w2.cell? ⟨w.heap.size + 1, 0, none⟩ = some (.int .i64 0) := hr1.cell 0
      have d1 : w2.cell? ⟨w.heap.size + 1, 1, none⟩ = some (.int .u32 0) := hr1.cell 1
      have d2 : w2.cell? ⟨w.heap.size + 1, 2, none⟩ = some (.slice none 0 0) := hr1.cell 2
      have d3 : w2.cell? ⟨w.heap.size + 1, 3, none⟩ = some (.slice none 0 0) := hr1.cell 3
      have f0 : w2.frozen? ⟨w.heap.size + 1, 0, none⟩ = false := hr1.frozen 0
      have f1 : w2.frozen? ⟨w.heap.size + 1, 1, none⟩ = false := hr1.frozen 1
      have f2 : w2.frozen? ⟨w.heap.size + 1, 2, none⟩ = false := hr1.frozen 2
      have f3 : w2.frozen? ⟨w.heap.size + 1, 3, none⟩ = false := hr1.frozen 3
      have HBW := hid (hbw.trans (hbc.mono hbw.size))
      have HTK := hid htk
      have HR1 := hid hr1
      clear hx0 hr0 hr1 hbw hbc htk hb)
    refine bodyPost_ret (v := .tuple #[.agg #[.int .i64 0, .int .u32 0, .slice (some ⟨w'.heap.size, 0, none⟩) s.size (grownCap w' s.size 0 5), .slice none 0 0], .int .i64 0]) (by simp [results, Tryd.results119, go_sem, d0, d1, d2, d3]) rfl ?_
    refine ⟨(((HBW.out.setCell (by simp) _).setCell (by simp) _).setCell (by simp) _).setCell (by simp) _, fun _ => ⟨_, _, rfl, ?_⟩, fun h => absurd (HB.out.symm.trans h) (by simp)⟩
    exact HTK.out.kept (kept4 HR1.out (by omega) _ _ _ _) (T := [80]) (by simp)
  | false =>
    go_enter Tryd.func119, Tryd.ntmps119
    go_wp2_with (
      go_at_call 126
      refine (right_any a l s _ hs hl (hc2 _ _) (ha2 _ _)).mono ?_
      rw [HB.out]
      rintro e w2 ⟨rfl, hb⟩
      have hr1 : Box w2 (w.heap.size + 1) 80 #[.int .i64 0, .int .u32 0, .slice none 0 0, .slice none 0 0] := by
        have h := (Box.new (w.alloc (.cells #[.pointer (some a), .int .i64 l] 159)) 80 #[.int .i64 0, .int .u32 0, .slice none 0 0, .slice none 0 0]).same (hb.block _ (by simp))
        simpa using h
      have d0 : w2.cell? ⟨w.heap.size + 1, 0, none⟩ = some (.int .i64 0) := hr1.cell 0
      have d1 : w2.cell? ⟨w.heap.size + 1, 1, none⟩ = some (.int .u32 0) := hr1.cell 1
      have d2 : w2.cell? ⟨w.heap.size + 1, 2, none⟩ = some (.slice none 0 0) := hr1.cell 2
      have d3 : w2.cell? ⟨w.heap.size + 1, 3, none⟩ = some (.slice none 0 0) := hr1.cell 3
      have f0 : w2.frozen? ⟨w.heap.size + 1, 0, none⟩ = false := hr1.frozen 0
      have f1 : w2.frozen? ⟨w.heap.size + 1, 1, none⟩ = false := hr1.frozen 1
      have f2 : w2.frozen? ⟨w.heap.size + 1, 2, none⟩ = false := hr1.frozen 2
      have f3 : w2.frozen? ⟨w.heap.size + 1, 3, none⟩ = false := hr1.frozen 3
      have HBW : Hid (Below w.heap.size w w2) := (bel2 w _ _).trans (hb.mono (by simp; omega))
      clear hr1 hb)
    refine bodyPost_ret (v := .tuple #[.agg #[.int .i64 0, .int .u32 0, .slice none 0 0, .slice none 0 0], .int .i64 4]) (by simp [results, Tryd.results119, go_sem, d0, d1, d2, d3]) rfl ?_
    exact ⟨(((HBW.out.setCell (by simp) _).setCell (by simp) _).setCell (by simp) _).setCell (by simp) _, fun h => absurd (HB.out.symm.trans h) (by simp), fun _ => rfl⟩

def PutQ (a : Addr) (v : Value) (er : Int) (w : World) (e : Ending) (w' : World) : Prop := e = .returned (.int .i64 er) ∧ ∃ w1, Below w.heap.size w w1 ∧ Below w1.heap.size (w1.setCell a v) w'

set_option maxHeartbeats 800000 in
set_option maxRecDepth 100000 in
theorem put81 (a : Addr) (x : Int) (k : Int) (n tn tc ln lc : Nat) (tA lA : Option Addr) (w : World) (ha : a.block < w.heap.size) (hc : w.cell? a = some (.int .u32 x)) (hf : w.frozen? a = false) :
    Calls Tryd.prog 116 #[.agg #[.pointer (some a)], .agg #[.int .i64 k, .int .u32 n, .slice tA tn tc, .slice lA ln lc]] w (PutQ a (.int .u32 n) 0 w) := by
  have hc2 : ∀ o o', ((w.alloc o).alloc o').cell? a = some (.int .u32 x) := fun o o' => ((bel2 w o o').cell ha).trans hc
  have hf2 : ∀ o o', ((w.alloc o).alloc o').frozen? a = false := fun o o' => ((bel2 w o o').frozen ha).trans hf
  go_enter Tryd.func116, Tryd.ntmps116
  go_wp2
  go_ret
  exact ⟨rfl, _, bel2 w _ _, Below.refl _ _⟩

set_option maxHeartbeats 800000 in
set_option maxRecDepth 100000 in
theorem put83 (a : Addr) (xA : Option Addr) (xn xc : Nat) (k : Int) (n tn tc ln lc : Nat) (tA lA : Option Addr) (w : World) (ha : a.block < w.heap.size) (hc : w.cell? a = some (.slice xA xn xc)) (hf : w.frozen? a = false) :
    Calls Tryd.prog 118 #[.agg #[.pointer (some a)], .agg #[.int .i64 k, .int .u32 n, .slice tA tn tc, .slice lA ln lc]] w (PutQ a (.slice tA tn tc) 0 w) := by
  have hc2 : ∀ o o', ((w.alloc o).alloc o').cell? a = some (.slice xA xn xc) := fun o o' => ((bel2 w o o').cell ha).trans hc
  have hf2 : ∀ o o', ((w.alloc o).alloc o').frozen? a = false := fun o o' => ((bel2 w o o').frozen ha).trans hf
  go_enter Tryd.func118, Tryd.ntmps118
  go_wp2
  go_ret
  exact ⟨rfl, _, bel2 w _ _, Below.refl _ _⟩

set_option maxHeartbeats 800000 in
set_option maxRecDepth 100000 in
theorem put70 (a : Addr) (x : Bool) (k : Int) (n tn tc ln lc : Nat) (tA lA : Option Addr) (w : World) (ha : a.block < w.heap.size) (hc : w.cell? a = some (.bool x)) (hf : w.frozen? a = false) :
    Calls Tryd.prog 108 #[.agg #[.pointer (some a)], .agg #[.int .i64 k, .int .u32 n, .slice tA tn tc, .slice lA ln lc]] w (PutQ a (.bool (!decide ((n : Int) = 0))) 0 w) := by
  have hc2 : ∀ o o', ((w.alloc o).alloc o').cell? a = some (.bool x) := fun o o' => ((bel2 w o o').cell ha).trans hc
  have hf2 : ∀ o o', ((w.alloc o).alloc o').frozen? a = false := fun o o' => ((bel2 w o o').frozen ha).trans hf
  go_enter Tryd.func108, Tryd.ntmps108
  go_wp2
  go_ret
  exact ⟨rfl, _, bel2 w _ _, Below.refl _ _⟩

theorem str_back (w : World) (B : Nat) (A : Option Addr) (c : Nat) (tx : List UInt8) (h : Lies w B A (bv tx)) :
    (convert 22 9 (.slice A tx.length c)).run Tryd.prog w = .ok (.string ⟨tx.toArray⟩) w := by
  by_cases hn : tx = []
  · subst hn
    refine (run_convert_bytes_string w 22 9 5 A 0 c Tryd.underlying22 Tryd.underlying5 Tryd.underlying9).trans ?_
    cases A with
    | none => simp [Conv.bytesToString]; rfl
    | some a => simp [Conv.bytesToString, loadCells, loadCellsFrom]; rfl
  · obtain ⟨b, o, rfl, _, hc⟩ := h (by simpa [bv] using hn)
    exact run_convert_bytes_back w 22 9 5 ⟨b, o, none⟩ c tx Tryd.underlying22 Tryd.underlying5 Tryd.underlying9 fun j hj => by
      rw [Addr.add_lit]
      exact hc j _ (by simp [bv, hj])

set_option maxHeartbeats 800000 in
set_option maxRecDepth 100000 in
theorem put85 (er : Int) (a : Addr) (l : Nat) (s : ByteArray) (tx : List UInt8) (k : Int) (n tn tc ln lc : Nat) (tA lA : Option Addr) (w : World) (hn : tx.length = tn) (he : (if wordOk l ⟨tx.toArray⟩ = true then (0 : Int) else 4) = er) (hl : l ≤ 1) (hN : tn ≤ maxLen)
    (hT : Lies w w.heap.size tA (bv tx)) (ha : a.block < w.heap.size) (hc : w.cell? a = some (.string s)) (hf : w.frozen? a = false) :
    Calls Tryd.prog 120 #[.agg #[.pointer (some a), .int .i64 l], .agg #[.int .i64 k, .int .u32 n, .slice tA tn tc, .slice lA ln lc]] w
      (PutQ a (.string ⟨tx.toArray⟩) er w) := by
  have hc2 : ∀ o o', ((w.alloc o).alloc o').cell? a = some (.string s) := fun o o' => ((bel2 w o o').cell ha).trans hc
  have hf2 : ∀ o o', ((w.alloc o).alloc o').frozen? a = false := fun o o' => ((bel2 w o o').frozen ha).trans hf
  have hcv : ∀ o o', (convert 22 9 (.slice tA tn tc)).run Tryd.prog ((w.alloc o).alloc o') = .ok (.string ⟨tx.toArray⟩) ((w.alloc o).alloc o') := fun o o' => by
    subst hn
    exact str_back _ _ tA tc tx (hT.below (bel2 w o o'))
  have hsz : (⟨tx.toArray⟩ : ByteArray).size ≤ maxLen := by
    have e : (⟨tx.toArray⟩ : ByteArray).size = tx.length := by show tx.toArray.size = _; simp
    omega
  have HT := hid hT
  clear hT
  generalize (⟨tx.toArray⟩ : ByteArray) = t at hcv hsz he
  have hx : ∀ cs o' v i, (((w.alloc (.cells cs 159)).alloc o').setCell a v).cell? ⟨w.heap.size, i, none⟩ = cs[i]? := fun cs o' v i =>
    ((((Box.new w 159 cs).same (Below.heap_alloc _ o' _ (by simp))).same (Below.heap_setCell _ a v _ (by omega)) : Box (((w.alloc (.cells cs 159)).alloc o').setCell a v) w.heap.size 159 cs).cell i)
  have hx0 : ∀ o' v, (((w.alloc (.cells #[.pointer (some a), .int .i64 l] 159)).alloc o').setCell a v).cell? ⟨w.heap.size, 0, none⟩ = some (.pointer (some a)) := fun o' v => hx _ o' v 0
  have hx1 : ∀ o' v, (((w.alloc (.cells #[.pointer (some a), .int .i64 l] 159)).alloc o').setCell a v).cell? ⟨w.heap.size, 1, none⟩ = some (.int .i64 l) := fun o' v => hx _ o' v 1
  clear hx
  obtain ⟨b, HB⟩ : ∃ b, Hid (wordOk l t = b) := ⟨_, hid rfl⟩
  rw [HB.out] at he
  cases b
  all_goals
    simp at he
    subst he
    go_enter Tryd.func120, Tryd.ntmps120
    go_wp2_with (
      go_at_call 126
      refine (right_any a l t _ hsz hl (World.cell?_setCell_same _ _ _ (hc2 _ _)) (by simp; omega)).mono ?_
      rw [HB.out]
      rintro e w' ⟨rfl, hb⟩)
    go_ret
    exact ⟨rfl, _, bel2 w (.cells #[.pointer (some a), .int .i64 l] 159) (.cells #[.int .i64 k, .int .u32 n, .slice tA tn tc, .slice lA ln lc] 80), hb.mono (by simp)⟩

end Go.Proofs.YtdplngplljejhaaDoor
