import Derived.Test.YtlmdbcmaophhnaaDoorRA
import Derived.Test.YtlmdbcmaophhnaaDoorMM
namespace Go.Proofs.YtlmdbcmaophhnaaDoor
open Go.RowKit

theorem tk_alloc {w : World} {base c : Nat} {A : Option Addr} {bs : List UInt8} (h : TK w base A c bs) (o : Obj) : TK (w.alloc o) base A c bs := h.below (bel1 w o)

set_option maxHeartbeats 4000000 in
set_option maxRecDepth 100000 in
theorem fields20_1 (base ch se wi pa co n n6 n7 nb c : Nat) (nm lg : ByteArray) (wt : Bool) (A : Option Addr) (dt : List UInt8) (w : World) (hn : dt.length = n) (h6 : nm.data.toList.length = n6) (h7 : lg.data.toList.length = n7) (hnb : (if wt then 1 else 0) = nb) (s6 : nm.size ≤ maxLen) (s7 : lg.size ≤ maxLen) (hb : base ≤ w.heap.size) (hd : TK w base A c dt) :
    Calls Tryd.prog 20 #[.agg #[.int .i64 1, .int .u32 ch, .int .u32 se, .int .u32 wi, .int .u32 pa, .int .u32 co, .string nm, .string lg, .bool wt, .slice A n c]] w fun e w' => Hid (Below w.heap.size w w') ∧ ∃ A', e = .returned (.tuple #[.slice A' 3 3, .bool true]) ∧ Hid (∃ cs, Lies w' w'.heap.size A' cs ∧ FlatK w' base [⟨3, co, [], []⟩, ⟨4, 0, dt, []⟩, ⟨4, 0, lg.data.toList, []⟩] cs) := by
  have HD := hid hd
  have HNB := hid hnb
  clear hd
  have HX0 : Hid (Box (w.alloc (.cells #[.int .i64 1, .int .u32 ch, .int .u32 se, .int .u32 wi, .int .u32 pa, .int .u32 co, .string nm, .string lg, .bool wt, .slice A n c] 25)) w.heap.size 25 #[.int .i64 1, .int .u32 ch, .int .u32 se, .int .u32 wi, .int .u32 pa, .int .u32 co, .string nm, .string lg, .bool wt, .slice A n c]) := hid (Box.new w 25 _)
  have HB0 : Hid (Below w.heap.size w (w.alloc (.cells #[.int .i64 1, .int .u32 ch, .int .u32 se, .int .u32 wi, .int .u32 pa, .int .u32 co, .string nm, .string lg, .bool wt, .slice A n c] 25))) := bel1 w _
  have HZ0 : (w.alloc (.cells #[.int .i64 1, .int .u32 ch, .int .u32 se, .int .u32 wi, .int .u32 pa, .int .u32 co, .string nm, .string lg, .bool wt, .slice A n c] 25)).heap.size = w.heap.size + 1 := by simp
  have HBASE0 : base ≤ (w.alloc (.cells #[.int .i64 1, .int .u32 ch, .int .u32 se, .int .u32 wi, .int .u32 pa, .int .u32 co, .string nm, .string lg, .bool wt, .slice A n c] 25)).drew.heap.size := by show base ≤ (w.alloc (.cells #[.int .i64 1, .int .u32 ch, .int .u32 se, .int .u32 wi, .int .u32 pa, .int .u32 co, .string nm, .string lg, .bool wt, .slice A n c] 25)).heap.size; omega
  go_enter Tryd.func20, Tryd.ntmps20
  go_wp2
  generalize hW : w.alloc _ = u0 at HX0 HB0 HZ0 HBASE0
  have HW := hid hW
  clear hW
  have HS0 : u0.cell? ⟨w.heap.size, 0, none⟩ = some (.int .i64 1) ∧ u0.cell? ⟨w.heap.size, 1, none⟩ = some (.int .u32 ch) ∧ u0.cell? ⟨w.heap.size, 2, none⟩ = some (.int .u32 se) ∧ u0.cell? ⟨w.heap.size, 3, none⟩ = some (.int .u32 wi) ∧ u0.cell? ⟨w.heap.size, 4, none⟩ = some (.int .u32 pa) ∧ u0.cell? ⟨w.heap.size, 5, none⟩ = some (.int .u32 co) ∧ u0.cell? ⟨w.heap.size, 6, none⟩ = some (.string nm) ∧ u0.cell? ⟨w.heap.size, 7, none⟩ = some (.string lg) ∧ u0.cell? ⟨w.heap.size, 8, none⟩ = some (.bool wt) ∧ u0.cell? ⟨w.heap.size, 9, none⟩ = some (.slice A n c) := ⟨HX0.out.cell 0, HX0.out.cell 1, HX0.out.cell 2, HX0.out.cell 3, HX0.out.cell 4, HX0.out.cell 5, HX0.out.cell 6, HX0.out.cell 7, HX0.out.cell 8, HX0.out.cell 9⟩
  go_region_held3 (fun u => u.cell? ⟨w.heap.size, 0, none⟩ = some (.int .i64 1) ∧ u.cell? ⟨w.heap.size, 1, none⟩ = some (.int .u32 ch) ∧ u.cell? ⟨w.heap.size, 2, none⟩ = some (.int .u32 se) ∧ u.cell? ⟨w.heap.size, 3, none⟩ = some (.int .u32 wi) ∧ u.cell? ⟨w.heap.size, 4, none⟩ = some (.int .u32 pa) ∧ u.cell? ⟨w.heap.size, 5, none⟩ = some (.int .u32 co) ∧ u.cell? ⟨w.heap.size, 6, none⟩ = some (.string nm) ∧ u.cell? ⟨w.heap.size, 7, none⟩ = some (.string lg) ∧ u.cell? ⟨w.heap.size, 8, none⟩ = some (.bool wt) ∧ u.cell? ⟨w.heap.size, 9, none⟩ = some (.slice A n c)) (first | exact HS0 | exact HS1 | exact HS2 | exact HS3 | exact HSA _) ((first
        | (go_at_call 28
           ((with_reducible refine (made28 co u0.drew).mono ?_); rintro e u1 ⟨rfl, HB1'⟩)
           have HB1 : Hid (Below u0.heap.size u0 u1) := hid ⟨HB1'.out.os, HB1'.out.tape, HB1'.out.output, HB1'.out.size, HB1'.out.block⟩
           have HX1 := box_p HX0 HB1
           have HBASE1 : base ≤ u1.heap.size := by have := HB1.out.size; omega
           have HS1 : u1.cell? ⟨w.heap.size, 0, none⟩ = some (.int .i64 1) ∧ u1.cell? ⟨w.heap.size, 1, none⟩ = some (.int .u32 ch) ∧ u1.cell? ⟨w.heap.size, 2, none⟩ = some (.int .u32 se) ∧ u1.cell? ⟨w.heap.size, 3, none⟩ = some (.int .u32 wi) ∧ u1.cell? ⟨w.heap.size, 4, none⟩ = some (.int .u32 pa) ∧ u1.cell? ⟨w.heap.size, 5, none⟩ = some (.int .u32 co) ∧ u1.cell? ⟨w.heap.size, 6, none⟩ = some (.string nm) ∧ u1.cell? ⟨w.heap.size, 7, none⟩ = some (.string lg) ∧ u1.cell? ⟨w.heap.size, 8, none⟩ = some (.bool wt) ∧ u1.cell? ⟨w.heap.size, 9, none⟩ = some (.slice A n c) := ⟨HX1.out.cell 0, HX1.out.cell 1, HX1.out.cell 2, HX1.out.cell 3, HX1.out.cell 4, HX1.out.cell 5, HX1.out.cell 6, HX1.out.cell 7, HX1.out.cell 8, HX1.out.cell 9⟩)
        | (go_at_call 29
           ((with_reducible refine (made29 n c A u1).mono ?_); rintro e u2 ⟨rfl, HB2'⟩)
           have HB2 := bel_trans HB1 HB2'
           have HX2 := box_p HX0 HB2
           have HBASE2 : base ≤ u2.heap.size := by have := HB2.out.size; omega
           have HS2 : u2.cell? ⟨w.heap.size, 0, none⟩ = some (.int .i64 1) ∧ u2.cell? ⟨w.heap.size, 1, none⟩ = some (.int .u32 ch) ∧ u2.cell? ⟨w.heap.size, 2, none⟩ = some (.int .u32 se) ∧ u2.cell? ⟨w.heap.size, 3, none⟩ = some (.int .u32 wi) ∧ u2.cell? ⟨w.heap.size, 4, none⟩ = some (.int .u32 pa) ∧ u2.cell? ⟨w.heap.size, 5, none⟩ = some (.int .u32 co) ∧ u2.cell? ⟨w.heap.size, 6, none⟩ = some (.string nm) ∧ u2.cell? ⟨w.heap.size, 7, none⟩ = some (.string lg) ∧ u2.cell? ⟨w.heap.size, 8, none⟩ = some (.bool wt) ∧ u2.cell? ⟨w.heap.size, 9, none⟩ = some (.slice A n c) := ⟨HX2.out.cell 0, HX2.out.cell 1, HX2.out.cell 2, HX2.out.cell 3, HX2.out.cell 4, HX2.out.cell 5, HX2.out.cell 6, HX2.out.cell 7, HX2.out.cell 8, HX2.out.cell 9⟩)
        | (go_at_call 30
           ((with_reducible refine (made30 base n7 lg u2 h7 s7 HBASE2).mono ?_); rintro e u3 ⟨tA3, tc3, rfl, HB3', HT3⟩)
           have HB3 := bel_trans HB2 HB3'
           have HX3 := box_p HX0 HB3
           have HBASE3 : base ≤ u3.heap.size := by have := HB3.out.size; omega
           have HS3 : u3.cell? ⟨w.heap.size, 0, none⟩ = some (.int .i64 1) ∧ u3.cell? ⟨w.heap.size, 1, none⟩ = some (.int .u32 ch) ∧ u3.cell? ⟨w.heap.size, 2, none⟩ = some (.int .u32 se) ∧ u3.cell? ⟨w.heap.size, 3, none⟩ = some (.int .u32 wi) ∧ u3.cell? ⟨w.heap.size, 4, none⟩ = some (.int .u32 pa) ∧ u3.cell? ⟨w.heap.size, 5, none⟩ = some (.int .u32 co) ∧ u3.cell? ⟨w.heap.size, 6, none⟩ = some (.string nm) ∧ u3.cell? ⟨w.heap.size, 7, none⟩ = some (.string lg) ∧ u3.cell? ⟨w.heap.size, 8, none⟩ = some (.bool wt) ∧ u3.cell? ⟨w.heap.size, 9, none⟩ = some (.slice A n c) := ⟨HX3.out.cell 0, HX3.out.cell 1, HX3.out.cell 2, HX3.out.cell 3, HX3.out.cell 4, HX3.out.cell 5, HX3.out.cell 6, HX3.out.cell 7, HX3.out.cell 8, HX3.out.cell 9⟩
           have HSA : ∀ o, (u3.alloc o).cell? ⟨w.heap.size, 0, none⟩ = some (.int .i64 1) ∧ (u3.alloc o).cell? ⟨w.heap.size, 1, none⟩ = some (.int .u32 ch) ∧ (u3.alloc o).cell? ⟨w.heap.size, 2, none⟩ = some (.int .u32 se) ∧ (u3.alloc o).cell? ⟨w.heap.size, 3, none⟩ = some (.int .u32 wi) ∧ (u3.alloc o).cell? ⟨w.heap.size, 4, none⟩ = some (.int .u32 pa) ∧ (u3.alloc o).cell? ⟨w.heap.size, 5, none⟩ = some (.int .u32 co) ∧ (u3.alloc o).cell? ⟨w.heap.size, 6, none⟩ = some (.string nm) ∧ (u3.alloc o).cell? ⟨w.heap.size, 7, none⟩ = some (.string lg) ∧ (u3.alloc o).cell? ⟨w.heap.size, 8, none⟩ = some (.bool wt) ∧ (u3.alloc o).cell? ⟨w.heap.size, 9, none⟩ = some (.slice A n c) := fun o => ⟨(box_a HX3 o).out.cell 0, (box_a HX3 o).out.cell 1, (box_a HX3 o).out.cell 2, (box_a HX3 o).out.cell 3, (box_a HX3 o).out.cell 4, (box_a HX3 o).out.cell 5, (box_a HX3 o).out.cell 6, (box_a HX3 o).out.cell 7, (box_a HX3 o).out.cell 8, (box_a HX3 o).out.cell 9⟩)))
  all_goals
    go_wp2
    go_ret2
    have HDN := (HD.out.below HB0.out).below HB3.out
    have HT3N := HT3.out
    have hl := lit_lies u3 #[.int .i64 3, .int .u32 co, .slice none 0 0, .slice none 0 0, .int .i64 4, .int .u32 0, .slice A n c, .slice none 0 0, .int .i64 4, .int .u32 0, .slice tA3 n7 tc3, .slice none 0 0] 50 (0, 0) u3.heap.size rfl
    subst h7
    subst hn
    exact ⟨HB0.out.trans ((HB3.out.mono (by omega)).trans ((bel1 u3 _).mono (by have := HB3.out.size; omega))), _, rfl, _, hl.more (by simp), ⟨none, 0, _, rfl, rfl, TK.nil_ _ _, ⟨A, c, _, rfl, rfl, tk_alloc HDN _, ⟨tA3, tc3, _, rfl, rfl, tk_alloc HT3N _, rfl⟩⟩⟩⟩
set_option maxHeartbeats 4000000 in
set_option maxRecDepth 100000 in
theorem fields20_80true (base ch se wi pa co n n6 n7 c : Nat) (nm lg : ByteArray) (A : Option Addr) (dt : List UInt8) (w : World) (hn : dt.length = n) (h6 : nm.data.toList.length = n6) (h7 : lg.data.toList.length = n7) (s6 : nm.size ≤ maxLen) (s7 : lg.size ≤ maxLen) (hb : base ≤ w.heap.size) (hd : TK w base A c dt) :
    Calls Tryd.prog 20 #[.agg #[.int .i64 80, .int .u32 ch, .int .u32 se, .int .u32 wi, .int .u32 pa, .int .u32 co, .string nm, .string lg, .bool true, .slice A n c]] w fun e w' => Hid (Below w.heap.size w w') ∧ ∃ A', e = .returned (.tuple #[.slice A' 3 3, .bool true]) ∧ Hid (∃ cs, Lies w' w'.heap.size A' cs ∧ FlatK w' base [⟨4, 0, nm.data.toList, []⟩, ⟨2, if true then 1 else 0, [], []⟩, ⟨6, 0, dt, []⟩] cs) := by
  have HD := hid hd
  clear hd
  have HX0 : Hid (Box (w.alloc (.cells #[.int .i64 80, .int .u32 ch, .int .u32 se, .int .u32 wi, .int .u32 pa, .int .u32 co, .string nm, .string lg, .bool true, .slice A n c] 25)) w.heap.size 25 #[.int .i64 80, .int .u32 ch, .int .u32 se, .int .u32 wi, .int .u32 pa, .int .u32 co, .string nm, .string lg, .bool true, .slice A n c]) := hid (Box.new w 25 _)
  have HB0 : Hid (Below w.heap.size w (w.alloc (.cells #[.int .i64 80, .int .u32 ch, .int .u32 se, .int .u32 wi, .int .u32 pa, .int .u32 co, .string nm, .string lg, .bool true, .slice A n c] 25))) := bel1 w _
  have HZ0 : (w.alloc (.cells #[.int .i64 80, .int .u32 ch, .int .u32 se, .int .u32 wi, .int .u32 pa, .int .u32 co, .string nm, .string lg, .bool true, .slice A n c] 25)).heap.size = w.heap.size + 1 := by simp
  have HBASE0 : base ≤ (w.alloc (.cells #[.int .i64 80, .int .u32 ch, .int .u32 se, .int .u32 wi, .int .u32 pa, .int .u32 co, .string nm, .string lg, .bool true, .slice A n c] 25)).drew.heap.size := by show base ≤ (w.alloc (.cells #[.int .i64 80, .int .u32 ch, .int .u32 se, .int .u32 wi, .int .u32 pa, .int .u32 co, .string nm, .string lg, .bool true, .slice A n c] 25)).heap.size; omega
  go_enter Tryd.func20, Tryd.ntmps20
  go_wp2
  generalize hW : w.alloc _ = u0 at HX0 HB0 HZ0 HBASE0
  have HW := hid hW
  clear hW
  have HS0 : u0.cell? ⟨w.heap.size, 0, none⟩ = some (.int .i64 80) ∧ u0.cell? ⟨w.heap.size, 1, none⟩ = some (.int .u32 ch) ∧ u0.cell? ⟨w.heap.size, 2, none⟩ = some (.int .u32 se) ∧ u0.cell? ⟨w.heap.size, 3, none⟩ = some (.int .u32 wi) ∧ u0.cell? ⟨w.heap.size, 4, none⟩ = some (.int .u32 pa) ∧ u0.cell? ⟨w.heap.size, 5, none⟩ = some (.int .u32 co) ∧ u0.cell? ⟨w.heap.size, 6, none⟩ = some (.string nm) ∧ u0.cell? ⟨w.heap.size, 7, none⟩ = some (.string lg) ∧ u0.cell? ⟨w.heap.size, 8, none⟩ = some (.bool true) ∧ u0.cell? ⟨w.heap.size, 9, none⟩ = some (.slice A n c) := ⟨HX0.out.cell 0, HX0.out.cell 1, HX0.out.cell 2, HX0.out.cell 3, HX0.out.cell 4, HX0.out.cell 5, HX0.out.cell 6, HX0.out.cell 7, HX0.out.cell 8, HX0.out.cell 9⟩
  go_region_held3 (fun u => u.cell? ⟨w.heap.size, 0, none⟩ = some (.int .i64 80) ∧ u.cell? ⟨w.heap.size, 1, none⟩ = some (.int .u32 ch) ∧ u.cell? ⟨w.heap.size, 2, none⟩ = some (.int .u32 se) ∧ u.cell? ⟨w.heap.size, 3, none⟩ = some (.int .u32 wi) ∧ u.cell? ⟨w.heap.size, 4, none⟩ = some (.int .u32 pa) ∧ u.cell? ⟨w.heap.size, 5, none⟩ = some (.int .u32 co) ∧ u.cell? ⟨w.heap.size, 6, none⟩ = some (.string nm) ∧ u.cell? ⟨w.heap.size, 7, none⟩ = some (.string lg) ∧ u.cell? ⟨w.heap.size, 8, none⟩ = some (.bool true) ∧ u.cell? ⟨w.heap.size, 9, none⟩ = some (.slice A n c)) (first | exact HS0 | exact HS1 | exact HS2 | exact HS3 | exact HSA _) ((first
        | (go_at_call 30
           ((with_reducible refine (made30 base n6 nm u0.drew h6 s6 HBASE0).mono ?_); rintro e u1 ⟨tA1, tc1, rfl, HB1', HT1⟩)
           have HB1 : Hid (Below u0.heap.size u0 u1) := hid ⟨HB1'.out.os, HB1'.out.tape, HB1'.out.output, HB1'.out.size, HB1'.out.block⟩
           have HX1 := box_p HX0 HB1
           have HBASE1 : base ≤ u1.heap.size := by have := HB1.out.size; omega
           have HS1 : u1.cell? ⟨w.heap.size, 0, none⟩ = some (.int .i64 80) ∧ u1.cell? ⟨w.heap.size, 1, none⟩ = some (.int .u32 ch) ∧ u1.cell? ⟨w.heap.size, 2, none⟩ = some (.int .u32 se) ∧ u1.cell? ⟨w.heap.size, 3, none⟩ = some (.int .u32 wi) ∧ u1.cell? ⟨w.heap.size, 4, none⟩ = some (.int .u32 pa) ∧ u1.cell? ⟨w.heap.size, 5, none⟩ = some (.int .u32 co) ∧ u1.cell? ⟨w.heap.size, 6, none⟩ = some (.string nm) ∧ u1.cell? ⟨w.heap.size, 7, none⟩ = some (.string lg) ∧ u1.cell? ⟨w.heap.size, 8, none⟩ = some (.bool true) ∧ u1.cell? ⟨w.heap.size, 9, none⟩ = some (.slice A n c) := ⟨HX1.out.cell 0, HX1.out.cell 1, HX1.out.cell 2, HX1.out.cell 3, HX1.out.cell 4, HX1.out.cell 5, HX1.out.cell 6, HX1.out.cell 7, HX1.out.cell 8, HX1.out.cell 9⟩)
        | (go_at_call 31
           ((with_reducible refine (made31 true 1 rfl u1).mono ?_); rintro e u2 ⟨rfl, HB2'⟩)
           have HB2 := bel_trans HB1 HB2'
           have HX2 := box_p HX0 HB2
           have HBASE2 : base ≤ u2.heap.size := by have := HB2.out.size; omega
           have HS2 : u2.cell? ⟨w.heap.size, 0, none⟩ = some (.int .i64 80) ∧ u2.cell? ⟨w.heap.size, 1, none⟩ = some (.int .u32 ch) ∧ u2.cell? ⟨w.heap.size, 2, none⟩ = some (.int .u32 se) ∧ u2.cell? ⟨w.heap.size, 3, none⟩ = some (.int .u32 wi) ∧ u2.cell? ⟨w.heap.size, 4, none⟩ = some (.int .u32 pa) ∧ u2.cell? ⟨w.heap.size, 5, none⟩ = some (.int .u32 co) ∧ u2.cell? ⟨w.heap.size, 6, none⟩ = some (.string nm) ∧ u2.cell? ⟨w.heap.size, 7, none⟩ = some (.string lg) ∧ u2.cell? ⟨w.heap.size, 8, none⟩ = some (.bool true) ∧ u2.cell? ⟨w.heap.size, 9, none⟩ = some (.slice A n c) := ⟨HX2.out.cell 0, HX2.out.cell 1, HX2.out.cell 2, HX2.out.cell 3, HX2.out.cell 4, HX2.out.cell 5, HX2.out.cell 6, HX2.out.cell 7, HX2.out.cell 8, HX2.out.cell 9⟩)
        | (go_at_call 32
           ((with_reducible refine (made32 n c A u2).mono ?_); rintro e u3 ⟨rfl, HB3'⟩)
           have HB3 := bel_trans HB2 HB3'
           have HX3 := box_p HX0 HB3
           have HBASE3 : base ≤ u3.heap.size := by have := HB3.out.size; omega
           have HS3 : u3.cell? ⟨w.heap.size, 0, none⟩ = some (.int .i64 80) ∧ u3.cell? ⟨w.heap.size, 1, none⟩ = some (.int .u32 ch) ∧ u3.cell? ⟨w.heap.size, 2, none⟩ = some (.int .u32 se) ∧ u3.cell? ⟨w.heap.size, 3, none⟩ = some (.int .u32 wi) ∧ u3.cell? ⟨w.heap.size, 4, none⟩ = some (.int .u32 pa) ∧ u3.cell? ⟨w.heap.size, 5, none⟩ = some (.int .u32 co) ∧ u3.cell? ⟨w.heap.size, 6, none⟩ = some (.string nm) ∧ u3.cell? ⟨w.heap.size, 7, none⟩ = some (.string lg) ∧ u3.cell? ⟨w.heap.size, 8, none⟩ = some (.bool true) ∧ u3.cell? ⟨w.heap.size, 9, none⟩ = some (.slice A n c) := ⟨HX3.out.cell 0, HX3.out.cell 1, HX3.out.cell 2, HX3.out.cell 3, HX3.out.cell 4, HX3.out.cell 5, HX3.out.cell 6, HX3.out.cell 7, HX3.out.cell 8, HX3.out.cell 9⟩
           have HSA : ∀ o, (u3.alloc o).cell? ⟨w.heap.size, 0, none⟩ = some (.int .i64 80) ∧ (u3.alloc o).cell? ⟨w.heap.size, 1, none⟩ = some (.int .u32 ch) ∧ (u3.alloc o).cell? ⟨w.heap.size, 2, none⟩ = some (.int .u32 se) ∧ (u3.alloc o).cell? ⟨w.heap.size, 3, none⟩ = some (.int .u32 wi) ∧ (u3.alloc o).cell? ⟨w.heap.size, 4, none⟩ = some (.int .u32 pa) ∧ (u3.alloc o).cell? ⟨w.heap.size, 5, none⟩ = some (.int .u32 co) ∧ (u3.alloc o).cell? ⟨w.heap.size, 6, none⟩ = some (.string nm) ∧ (u3.alloc o).cell? ⟨w.heap.size, 7, none⟩ = some (.string lg) ∧ (u3.alloc o).cell? ⟨w.heap.size, 8, none⟩ = some (.bool true) ∧ (u3.alloc o).cell? ⟨w.heap.size, 9, none⟩ = some (.slice A n c) := fun o => ⟨(box_a HX3 o).out.cell 0, (box_a HX3 o).out.cell 1, (box_a HX3 o).out.cell 2, (box_a HX3 o).out.cell 3, (box_a HX3 o).out.cell 4, (box_a HX3 o).out.cell 5, (box_a HX3 o).out.cell 6, (box_a HX3 o).out.cell 7, (box_a HX3 o).out.cell 8, (box_a HX3 o).out.cell 9⟩)))
  all_goals
    go_wp2
    go_ret2
    have HDN := (HD.out.below HB0.out).below HB3.out
    have HT1N := ((HT1.out).below HB2'.out).below HB3'.out
    have hl := lit_lies u3 #[.int .i64 4, .int .u32 0, .slice tA1 n6 tc1, .slice none 0 0, .int .i64 2, .int .u32 1, .slice none 0 0, .slice none 0 0, .int .i64 6, .int .u32 0, .slice A n c, .slice none 0 0] 50 (0, 0) u3.heap.size rfl
    subst h6
    subst hn
    exact ⟨HB0.out.trans ((HB3.out.mono (by omega)).trans ((bel1 u3 _).mono (by have := HB3.out.size; omega))), _, rfl, _, hl.more (by simp), ⟨tA1, tc1, _, rfl, rfl, tk_alloc HT1N _, ⟨none, 0, _, rfl, rfl, TK.nil_ _ _, ⟨A, c, _, rfl, rfl, tk_alloc HDN _, rfl⟩⟩⟩⟩
set_option maxHeartbeats 4000000 in
set_option maxRecDepth 100000 in
theorem fields20_80false (base ch se wi pa co n n6 n7 c : Nat) (nm lg : ByteArray) (A : Option Addr) (dt : List UInt8) (w : World) (hn : dt.length = n) (h6 : nm.data.toList.length = n6) (h7 : lg.data.toList.length = n7) (s6 : nm.size ≤ maxLen) (s7 : lg.size ≤ maxLen) (hb : base ≤ w.heap.size) (hd : TK w base A c dt) :
    Calls Tryd.prog 20 #[.agg #[.int .i64 80, .int .u32 ch, .int .u32 se, .int .u32 wi, .int .u32 pa, .int .u32 co, .string nm, .string lg, .bool false, .slice A n c]] w fun e w' => Hid (Below w.heap.size w w') ∧ ∃ A', e = .returned (.tuple #[.slice A' 3 3, .bool true]) ∧ Hid (∃ cs, Lies w' w'.heap.size A' cs ∧ FlatK w' base [⟨4, 0, nm.data.toList, []⟩, ⟨2, if false then 1 else 0, [], []⟩, ⟨6, 0, dt, []⟩] cs) := by
  have HD := hid hd
  clear hd
  have HX0 : Hid (Box (w.alloc (.cells #[.int .i64 80, .int .u32 ch, .int .u32 se, .int .u32 wi, .int .u32 pa, .int .u32 co, .string nm, .string lg, .bool false, .slice A n c] 25)) w.heap.size 25 #[.int .i64 80, .int .u32 ch, .int .u32 se, .int .u32 wi, .int .u32 pa, .int .u32 co, .string nm, .string lg, .bool false, .slice A n c]) := hid (Box.new w 25 _)
  have HB0 : Hid (Below w.heap.size w (w.alloc (.cells #[.int .i64 80, .int .u32 ch, .int .u32 se, .int .u32 wi, .int .u32 pa, .int .u32 co, .string nm, .string lg, .bool false, .slice A n c] 25))) := bel1 w _
  have HZ0 : (w.alloc (.cells #[.int .i64 80, .int .u32 ch, .int .u32 se, .int .u32 wi, .int .u32 pa, .int .u32 co, .string nm, .string lg, .bool false, .slice A n c] 25)).heap.size = w.heap.size + 1 := by simp
  have HBASE0 : base ≤ (w.alloc (.cells #[.int .i64 80, .int .u32 ch, .int .u32 se, .int .u32 wi, .int .u32 pa, .int .u32 co, .string nm, .string lg, .bool false, .slice A n c] 25)).drew.heap.size := by show base ≤ (w.alloc (.cells #[.int .i64 80, .int .u32 ch, .int .u32 se, .int .u32 wi, .int .u32 pa, .int .u32 co, .string nm, .string lg, .bool false, .slice A n c] 25)).heap.size; omega
  go_enter Tryd.func20, Tryd.ntmps20
  go_wp2
  generalize hW : w.alloc _ = u0 at HX0 HB0 HZ0 HBASE0
  have HW := hid hW
  clear hW
  have HS0 : u0.cell? ⟨w.heap.size, 0, none⟩ = some (.int .i64 80) ∧ u0.cell? ⟨w.heap.size, 1, none⟩ = some (.int .u32 ch) ∧ u0.cell? ⟨w.heap.size, 2, none⟩ = some (.int .u32 se) ∧ u0.cell? ⟨w.heap.size, 3, none⟩ = some (.int .u32 wi) ∧ u0.cell? ⟨w.heap.size, 4, none⟩ = some (.int .u32 pa) ∧ u0.cell? ⟨w.heap.size, 5, none⟩ = some (.int .u32 co) ∧ u0.cell? ⟨w.heap.size, 6, none⟩ = some (.string nm) ∧ u0.cell? ⟨w.heap.size, 7, none⟩ = some (.string lg) ∧ u0.cell? ⟨w.heap.size, 8, none⟩ = some (.bool false) ∧ u0.cell? ⟨w.heap.size, 9, none⟩ = some (.slice A n c) := ⟨HX0.out.cell 0, HX0.out.cell 1, HX0.out.cell 2, HX0.out.cell 3, HX0.out.cell 4, HX0.out.cell 5, HX0.out.cell 6, HX0.out.cell 7, HX0.out.cell 8, HX0.out.cell 9⟩
  go_region_held3 (fun u => u.cell? ⟨w.heap.size, 0, none⟩ = some (.int .i64 80) ∧ u.cell? ⟨w.heap.size, 1, none⟩ = some (.int .u32 ch) ∧ u.cell? ⟨w.heap.size, 2, none⟩ = some (.int .u32 se) ∧ u.cell? ⟨w.heap.size, 3, none⟩ = some (.int .u32 wi) ∧ u.cell? ⟨w.heap.size, 4, none⟩ = some (.int .u32 pa) ∧ u.cell? ⟨w.heap.size, 5, none⟩ = some (.int .u32 co) ∧ u.cell? ⟨w.heap.size, 6, none⟩ = some (.string nm) ∧ u.cell? ⟨w.heap.size, 7, none⟩ = some (.string lg) ∧ u.cell? ⟨w.heap.size, 8, none⟩ = some (.bool false) ∧ u.cell? ⟨w.heap.size, 9, none⟩ = some (.slice A n c)) (first | exact HS0 | exact HS1 | exact HS2 | exact HS3 | exact HSA _) ((first
        | (go_at_call 30
           ((with_reducible refine (made30 base n6 nm u0.drew h6 s6 HBASE0).mono ?_); rintro e u1 ⟨tA1, tc1, rfl, HB1', HT1⟩)
           have HB1 : Hid (Below u0.heap.size u0 u1) := hid ⟨HB1'.out.os, HB1'.out.tape, HB1'.out.output, HB1'.out.size, HB1'.out.block⟩
           have HX1 := box_p HX0 HB1
           have HBASE1 : base ≤ u1.heap.size := by have := HB1.out.size; omega
           have HS1 : u1.cell? ⟨w.heap.size, 0, none⟩ = some (.int .i64 80) ∧ u1.cell? ⟨w.heap.size, 1, none⟩ = some (.int .u32 ch) ∧ u1.cell? ⟨w.heap.size, 2, none⟩ = some (.int .u32 se) ∧ u1.cell? ⟨w.heap.size, 3, none⟩ = some (.int .u32 wi) ∧ u1.cell? ⟨w.heap.size, 4, none⟩ = some (.int .u32 pa) ∧ u1.cell? ⟨w.heap.size, 5, none⟩ = some (.int .u32 co) ∧ u1.cell? ⟨w.heap.size, 6, none⟩ = some (.string nm) ∧ u1.cell? ⟨w.heap.size, 7, none⟩ = some (.string lg) ∧ u1.cell? ⟨w.heap.size, 8, none⟩ = some (.bool false) ∧ u1.cell? ⟨w.heap.size, 9, none⟩ = some (.slice A n c) := ⟨HX1.out.cell 0, HX1.out.cell 1, HX1.out.cell 2, HX1.out.cell 3, HX1.out.cell 4, HX1.out.cell 5, HX1.out.cell 6, HX1.out.cell 7, HX1.out.cell 8, HX1.out.cell 9⟩)
        | (go_at_call 31
           ((with_reducible refine (made31 false 0 rfl u1).mono ?_); rintro e u2 ⟨rfl, HB2'⟩)
           have HB2 := bel_trans HB1 HB2'
           have HX2 := box_p HX0 HB2
           have HBASE2 : base ≤ u2.heap.size := by have := HB2.out.size; omega
           have HS2 : u2.cell? ⟨w.heap.size, 0, none⟩ = some (.int .i64 80) ∧ u2.cell? ⟨w.heap.size, 1, none⟩ = some (.int .u32 ch) ∧ u2.cell? ⟨w.heap.size, 2, none⟩ = some (.int .u32 se) ∧ u2.cell? ⟨w.heap.size, 3, none⟩ = some (.int .u32 wi) ∧ u2.cell? ⟨w.heap.size, 4, none⟩ = some (.int .u32 pa) ∧ u2.cell? ⟨w.heap.size, 5, none⟩ = some (.int .u32 co) ∧ u2.cell? ⟨w.heap.size, 6, none⟩ = some (.string nm) ∧ u2.cell? ⟨w.heap.size, 7, none⟩ = some (.string lg) ∧ u2.cell? ⟨w.heap.size, 8, none⟩ = some (.bool false) ∧ u2.cell? ⟨w.heap.size, 9, none⟩ = some (.slice A n c) := ⟨HX2.out.cell 0, HX2.out.cell 1, HX2.out.cell 2, HX2.out.cell 3, HX2.out.cell 4, HX2.out.cell 5, HX2.out.cell 6, HX2.out.cell 7, HX2.out.cell 8, HX2.out.cell 9⟩)
        | (go_at_call 32
           ((with_reducible refine (made32 n c A u2).mono ?_); rintro e u3 ⟨rfl, HB3'⟩)
           have HB3 := bel_trans HB2 HB3'
           have HX3 := box_p HX0 HB3
           have HBASE3 : base ≤ u3.heap.size := by have := HB3.out.size; omega
           have HS3 : u3.cell? ⟨w.heap.size, 0, none⟩ = some (.int .i64 80) ∧ u3.cell? ⟨w.heap.size, 1, none⟩ = some (.int .u32 ch) ∧ u3.cell? ⟨w.heap.size, 2, none⟩ = some (.int .u32 se) ∧ u3.cell? ⟨w.heap.size, 3, none⟩ = some (.int .u32 wi) ∧ u3.cell? ⟨w.heap.size, 4, none⟩ = some (.int .u32 pa) ∧ u3.cell? ⟨w.heap.size, 5, none⟩ = some (.int .u32 co) ∧ u3.cell? ⟨w.heap.size, 6, none⟩ = some (.string nm) ∧ u3.cell? ⟨w.heap.size, 7, none⟩ = some (.string lg) ∧ u3.cell? ⟨w.heap.size, 8, none⟩ = some (.bool false) ∧ u3.cell? ⟨w.heap.size, 9, none⟩ = some (.slice A n c) := ⟨HX3.out.cell 0, HX3.out.cell 1, HX3.out.cell 2, HX3.out.cell 3, HX3.out.cell 4, HX3.out.cell 5, HX3.out.cell 6, HX3.out.cell 7, HX3.out.cell 8, HX3.out.cell 9⟩
           have HSA : ∀ o, (u3.alloc o).cell? ⟨w.heap.size, 0, none⟩ = some (.int .i64 80) ∧ (u3.alloc o).cell? ⟨w.heap.size, 1, none⟩ = some (.int .u32 ch) ∧ (u3.alloc o).cell? ⟨w.heap.size, 2, none⟩ = some (.int .u32 se) ∧ (u3.alloc o).cell? ⟨w.heap.size, 3, none⟩ = some (.int .u32 wi) ∧ (u3.alloc o).cell? ⟨w.heap.size, 4, none⟩ = some (.int .u32 pa) ∧ (u3.alloc o).cell? ⟨w.heap.size, 5, none⟩ = some (.int .u32 co) ∧ (u3.alloc o).cell? ⟨w.heap.size, 6, none⟩ = some (.string nm) ∧ (u3.alloc o).cell? ⟨w.heap.size, 7, none⟩ = some (.string lg) ∧ (u3.alloc o).cell? ⟨w.heap.size, 8, none⟩ = some (.bool false) ∧ (u3.alloc o).cell? ⟨w.heap.size, 9, none⟩ = some (.slice A n c) := fun o => ⟨(box_a HX3 o).out.cell 0, (box_a HX3 o).out.cell 1, (box_a HX3 o).out.cell 2, (box_a HX3 o).out.cell 3, (box_a HX3 o).out.cell 4, (box_a HX3 o).out.cell 5, (box_a HX3 o).out.cell 6, (box_a HX3 o).out.cell 7, (box_a HX3 o).out.cell 8, (box_a HX3 o).out.cell 9⟩)))
  all_goals
    go_wp2
    go_ret2
    have HDN := (HD.out.below HB0.out).below HB3.out
    have HT1N := ((HT1.out).below HB2'.out).below HB3'.out
    have hl := lit_lies u3 #[.int .i64 4, .int .u32 0, .slice tA1 n6 tc1, .slice none 0 0, .int .i64 2, .int .u32 0, .slice none 0 0, .slice none 0 0, .int .i64 6, .int .u32 0, .slice A n c, .slice none 0 0] 50 (0, 0) u3.heap.size rfl
    subst h6
    subst hn
    exact ⟨HB0.out.trans ((HB3.out.mono (by omega)).trans ((bel1 u3 _).mono (by have := HB3.out.size; omega))), _, rfl, _, hl.more (by simp), ⟨tA1, tc1, _, rfl, rfl, tk_alloc HT1N _, ⟨none, 0, _, rfl, rfl, TK.nil_ _ _, ⟨A, c, _, rfl, rfl, tk_alloc HDN _, rfl⟩⟩⟩⟩
set_option maxHeartbeats 4000000 in
set_option maxRecDepth 100000 in
theorem fields20_80 (base ch se wi pa co n n6 n7 nb c : Nat) (nm lg : ByteArray) (wt : Bool) (A : Option Addr) (dt : List UInt8) (w : World) (hn : dt.length = n) (h6 : nm.data.toList.length = n6) (h7 : lg.data.toList.length = n7) (hnb : (if wt then 1 else 0) = nb) (s6 : nm.size ≤ maxLen) (s7 : lg.size ≤ maxLen) (hb : base ≤ w.heap.size) (hd : TK w base A c dt) :
    Calls Tryd.prog 20 #[.agg #[.int .i64 80, .int .u32 ch, .int .u32 se, .int .u32 wi, .int .u32 pa, .int .u32 co, .string nm, .string lg, .bool wt, .slice A n c]] w fun e w' => Hid (Below w.heap.size w w') ∧ ∃ A', e = .returned (.tuple #[.slice A' 3 3, .bool true]) ∧ Hid (∃ cs, Lies w' w'.heap.size A' cs ∧ FlatK w' base [⟨4, 0, nm.data.toList, []⟩, ⟨2, if wt then 1 else 0, [], []⟩, ⟨6, 0, dt, []⟩] cs) := by
  cases wt with
  | true => exact fields20_80true base ch se wi pa co n n6 n7 c nm lg A dt w hn h6 h7 s6 s7 hb hd
  | false => exact fields20_80false base ch se wi pa co n n6 n7 c nm lg A dt w hn h6 h7 s6 s7 hb hd
set_option maxHeartbeats 4000000 in
set_option maxRecDepth 100000 in
theorem fields20_81 (base ch se wi pa co n n6 n7 nb c : Nat) (nm lg : ByteArray) (wt : Bool) (A : Option Addr) (dt : List UInt8) (w : World) (hn : dt.length = n) (h6 : nm.data.toList.length = n6) (h7 : lg.data.toList.length = n7) (hnb : (if wt then 1 else 0) = nb) (s6 : nm.size ≤ maxLen) (s7 : lg.size ≤ maxLen) (hb : base ≤ w.heap.size) (hd : TK w base A c dt) :
    Calls Tryd.prog 20 #[.agg #[.int .i64 81, .int .u32 ch, .int .u32 se, .int .u32 wi, .int .u32 pa, .int .u32 co, .string nm, .string lg, .bool wt, .slice A n c]] w fun e w' => Hid (Below w.heap.size w w') ∧ ∃ A', e = .returned (.tuple #[.slice A' 1 1, .bool true]) ∧ Hid (∃ cs, Lies w' w'.heap.size A' cs ∧ FlatK w' base [⟨6, 0, dt, []⟩] cs) := by
  have HD := hid hd
  have HNB := hid hnb
  clear hd
  have HX0 : Hid (Box (w.alloc (.cells #[.int .i64 81, .int .u32 ch, .int .u32 se, .int .u32 wi, .int .u32 pa, .int .u32 co, .string nm, .string lg, .bool wt, .slice A n c] 25)) w.heap.size 25 #[.int .i64 81, .int .u32 ch, .int .u32 se, .int .u32 wi, .int .u32 pa, .int .u32 co, .string nm, .string lg, .bool wt, .slice A n c]) := hid (Box.new w 25 _)
  have HB0 : Hid (Below w.heap.size w (w.alloc (.cells #[.int .i64 81, .int .u32 ch, .int .u32 se, .int .u32 wi, .int .u32 pa, .int .u32 co, .string nm, .string lg, .bool wt, .slice A n c] 25))) := bel1 w _
  have HZ0 : (w.alloc (.cells #[.int .i64 81, .int .u32 ch, .int .u32 se, .int .u32 wi, .int .u32 pa, .int .u32 co, .string nm, .string lg, .bool wt, .slice A n c] 25)).heap.size = w.heap.size + 1 := by simp
  go_enter Tryd.func20, Tryd.ntmps20
  go_wp2_with (go_at_call 32
               ((with_reducible refine (made32 n c A (w.alloc (.cells #[.int .i64 81, .int .u32 ch, .int .u32 se, .int .u32 wi, .int .u32 pa, .int .u32 co, .string nm, .string lg, .bool wt, .slice A n c] 25))).mono ?_); rintro e u1 ⟨rfl, HB1'⟩))
  go_ret2
  have HT := (HD.out.below (bel1 w (.cells #[.int .i64 81, .int .u32 ch, .int .u32 se, .int .u32 wi, .int .u32 pa, .int .u32 co, .string nm, .string lg, .bool wt, .slice A n c] 25))).below HB1'.out
  have hl := lit_lies u1 #[.int .i64 6, .int .u32 0, .slice A n c, .slice none 0 0] 50 (0, 0) u1.heap.size rfl
  subst hn
  exact ⟨(bel1 w _).trans ((HB1'.out.mono (by simp)).trans ((bel1 u1 _).mono (by have := HB1'.out.size; simp at this; omega))), _, rfl, _, hl.more (by simp), ⟨A, c, [], rfl, rfl, tk_alloc HT _, rfl⟩⟩
set_option maxHeartbeats 4000000 in
set_option maxRecDepth 100000 in
theorem fields20_82 (base ch se wi pa co n n6 n7 nb c : Nat) (nm lg : ByteArray) (wt : Bool) (A : Option Addr) (dt : List UInt8) (w : World) (hn : dt.length = n) (h6 : nm.data.toList.length = n6) (h7 : lg.data.toList.length = n7) (hnb : (if wt then 1 else 0) = nb) (s6 : nm.size ≤ maxLen) (s7 : lg.size ≤ maxLen) (hb : base ≤ w.heap.size) (hd : TK w base A c dt) :
    Calls Tryd.prog 20 #[.agg #[.int .i64 82, .int .u32 ch, .int .u32 se, .int .u32 wi, .int .u32 pa, .int .u32 co, .string nm, .string lg, .bool wt, .slice A n c]] w fun e w' => Hid (Below w.heap.size w w') ∧ ∃ A', e = .returned (.tuple #[.slice A' 0 0, .bool true]) ∧ Hid (∃ cs, Lies w' w'.heap.size A' cs ∧ FlatK w' base [] cs) := by
  have HD := hid hd
  have HNB := hid hnb
  clear hd
  go_enter Tryd.func20, Tryd.ntmps20
  go_wp2
  go_ret2
  exact ⟨bel1 _ _, none, rfl, [], Lies.nil_, rfl⟩
set_option maxHeartbeats 4000000 in
set_option maxRecDepth 100000 in
theorem fields20_90 (base ch se wi pa co n n6 n7 nb c : Nat) (nm lg : ByteArray) (wt : Bool) (A : Option Addr) (dt : List UInt8) (w : World) (hn : dt.length = n) (h6 : nm.data.toList.length = n6) (h7 : lg.data.toList.length = n7) (hnb : (if wt then 1 else 0) = nb) (s6 : nm.size ≤ maxLen) (s7 : lg.size ≤ maxLen) (hb : base ≤ w.heap.size) (hd : TK w base A c dt) :
    Calls Tryd.prog 20 #[.agg #[.int .i64 90, .int .u32 ch, .int .u32 se, .int .u32 wi, .int .u32 pa, .int .u32 co, .string nm, .string lg, .bool wt, .slice A n c]] w fun e w' => Hid (Below w.heap.size w w') ∧ ∃ A', e = .returned (.tuple #[.slice A' 5 5, .bool true]) ∧ Hid (∃ cs, Lies w' w'.heap.size A' cs ∧ FlatK w' base [⟨4, 0, nm.data.toList, []⟩, ⟨3, se, [], []⟩, ⟨3, wi, [], []⟩, ⟨3, pa, [], []⟩, ⟨6, 0, dt, []⟩] cs) := by
  have HD := hid hd
  have HNB := hid hnb
  clear hd
  have HX0 : Hid (Box (w.alloc (.cells #[.int .i64 90, .int .u32 ch, .int .u32 se, .int .u32 wi, .int .u32 pa, .int .u32 co, .string nm, .string lg, .bool wt, .slice A n c] 25)) w.heap.size 25 #[.int .i64 90, .int .u32 ch, .int .u32 se, .int .u32 wi, .int .u32 pa, .int .u32 co, .string nm, .string lg, .bool wt, .slice A n c]) := hid (Box.new w 25 _)
  have HB0 : Hid (Below w.heap.size w (w.alloc (.cells #[.int .i64 90, .int .u32 ch, .int .u32 se, .int .u32 wi, .int .u32 pa, .int .u32 co, .string nm, .string lg, .bool wt, .slice A n c] 25))) := bel1 w _
  have HZ0 : (w.alloc (.cells #[.int .i64 90, .int .u32 ch, .int .u32 se, .int .u32 wi, .int .u32 pa, .int .u32 co, .string nm, .string lg, .bool wt, .slice A n c] 25)).heap.size = w.heap.size + 1 := by simp
  have HBASE0 : base ≤ (w.alloc (.cells #[.int .i64 90, .int .u32 ch, .int .u32 se, .int .u32 wi, .int .u32 pa, .int .u32 co, .string nm, .string lg, .bool wt, .slice A n c] 25)).drew.heap.size := by show base ≤ (w.alloc (.cells #[.int .i64 90, .int .u32 ch, .int .u32 se, .int .u32 wi, .int .u32 pa, .int .u32 co, .string nm, .string lg, .bool wt, .slice A n c] 25)).heap.size; omega
  go_enter Tryd.func20, Tryd.ntmps20
  go_wp2
  generalize hW : w.alloc _ = u0 at HX0 HB0 HZ0 HBASE0
  have HW := hid hW
  clear hW
  have HS0 : u0.cell? ⟨w.heap.size, 0, none⟩ = some (.int .i64 90) ∧ u0.cell? ⟨w.heap.size, 1, none⟩ = some (.int .u32 ch) ∧ u0.cell? ⟨w.heap.size, 2, none⟩ = some (.int .u32 se) ∧ u0.cell? ⟨w.heap.size, 3, none⟩ = some (.int .u32 wi) ∧ u0.cell? ⟨w.heap.size, 4, none⟩ = some (.int .u32 pa) ∧ u0.cell? ⟨w.heap.size, 5, none⟩ = some (.int .u32 co) ∧ u0.cell? ⟨w.heap.size, 6, none⟩ = some (.string nm) ∧ u0.cell? ⟨w.heap.size, 7, none⟩ = some (.string lg) ∧ u0.cell? ⟨w.heap.size, 8, none⟩ = some (.bool wt) ∧ u0.cell? ⟨w.heap.size, 9, none⟩ = some (.slice A n c) := ⟨HX0.out.cell 0, HX0.out.cell 1, HX0.out.cell 2, HX0.out.cell 3, HX0.out.cell 4, HX0.out.cell 5, HX0.out.cell 6, HX0.out.cell 7, HX0.out.cell 8, HX0.out.cell 9⟩
  go_region_held3 (fun u => u.cell? ⟨w.heap.size, 0, none⟩ = some (.int .i64 90) ∧ u.cell? ⟨w.heap.size, 1, none⟩ = some (.int .u32 ch) ∧ u.cell? ⟨w.heap.size, 2, none⟩ = some (.int .u32 se) ∧ u.cell? ⟨w.heap.size, 3, none⟩ = some (.int .u32 wi) ∧ u.cell? ⟨w.heap.size, 4, none⟩ = some (.int .u32 pa) ∧ u.cell? ⟨w.heap.size, 5, none⟩ = some (.int .u32 co) ∧ u.cell? ⟨w.heap.size, 6, none⟩ = some (.string nm) ∧ u.cell? ⟨w.heap.size, 7, none⟩ = some (.string lg) ∧ u.cell? ⟨w.heap.size, 8, none⟩ = some (.bool wt) ∧ u.cell? ⟨w.heap.size, 9, none⟩ = some (.slice A n c)) (first | exact HS0 | exact HS1 | exact HS2 | exact HS3 | exact HS4 | exact HS5 | exact HSA _) ((first
        | (go_at_call 30
           ((with_reducible refine (made30 base n6 nm u0.drew h6 s6 HBASE0).mono ?_); rintro e u1 ⟨tA1, tc1, rfl, HB1', HT1⟩)
           have HB1 : Hid (Below u0.heap.size u0 u1) := hid ⟨HB1'.out.os, HB1'.out.tape, HB1'.out.output, HB1'.out.size, HB1'.out.block⟩
           have HX1 := box_p HX0 HB1
           have HBASE1 : base ≤ u1.heap.size := by have := HB1.out.size; omega
           have HS1 : u1.cell? ⟨w.heap.size, 0, none⟩ = some (.int .i64 90) ∧ u1.cell? ⟨w.heap.size, 1, none⟩ = some (.int .u32 ch) ∧ u1.cell? ⟨w.heap.size, 2, none⟩ = some (.int .u32 se) ∧ u1.cell? ⟨w.heap.size, 3, none⟩ = some (.int .u32 wi) ∧ u1.cell? ⟨w.heap.size, 4, none⟩ = some (.int .u32 pa) ∧ u1.cell? ⟨w.heap.size, 5, none⟩ = some (.int .u32 co) ∧ u1.cell? ⟨w.heap.size, 6, none⟩ = some (.string nm) ∧ u1.cell? ⟨w.heap.size, 7, none⟩ = some (.string lg) ∧ u1.cell? ⟨w.heap.size, 8, none⟩ = some (.bool wt) ∧ u1.cell? ⟨w.heap.size, 9, none⟩ = some (.slice A n c) := ⟨HX1.out.cell 0, HX1.out.cell 1, HX1.out.cell 2, HX1.out.cell 3, HX1.out.cell 4, HX1.out.cell 5, HX1.out.cell 6, HX1.out.cell 7, HX1.out.cell 8, HX1.out.cell 9⟩)
        | (go_at_call 28
           ((with_reducible refine (made28 se u1).mono ?_); rintro e u2 ⟨rfl, HB2'⟩)
           have HB2 := bel_trans HB1 HB2'
           have HX2 := box_p HX0 HB2
           have HBASE2 : base ≤ u2.heap.size := by have := HB2.out.size; omega
           have HS2 : u2.cell? ⟨w.heap.size, 0, none⟩ = some (.int .i64 90) ∧ u2.cell? ⟨w.heap.size, 1, none⟩ = some (.int .u32 ch) ∧ u2.cell? ⟨w.heap.size, 2, none⟩ = some (.int .u32 se) ∧ u2.cell? ⟨w.heap.size, 3, none⟩ = some (.int .u32 wi) ∧ u2.cell? ⟨w.heap.size, 4, none⟩ = some (.int .u32 pa) ∧ u2.cell? ⟨w.heap.size, 5, none⟩ = some (.int .u32 co) ∧ u2.cell? ⟨w.heap.size, 6, none⟩ = some (.string nm) ∧ u2.cell? ⟨w.heap.size, 7, none⟩ = some (.string lg) ∧ u2.cell? ⟨w.heap.size, 8, none⟩ = some (.bool wt) ∧ u2.cell? ⟨w.heap.size, 9, none⟩ = some (.slice A n c) := ⟨HX2.out.cell 0, HX2.out.cell 1, HX2.out.cell 2, HX2.out.cell 3, HX2.out.cell 4, HX2.out.cell 5, HX2.out.cell 6, HX2.out.cell 7, HX2.out.cell 8, HX2.out.cell 9⟩)
        | (go_at_call 28
           ((with_reducible refine (made28 wi u2).mono ?_); rintro e u3 ⟨rfl, HB3'⟩)
           have HB3 := bel_trans HB2 HB3'
           have HX3 := box_p HX0 HB3
           have HBASE3 : base ≤ u3.heap.size := by have := HB3.out.size; omega
           have HS3 : u3.cell? ⟨w.heap.size, 0, none⟩ = some (.int .i64 90) ∧ u3.cell? ⟨w.heap.size, 1, none⟩ = some (.int .u32 ch) ∧ u3.cell? ⟨w.heap.size, 2, none⟩ = some (.int .u32 se) ∧ u3.cell? ⟨w.heap.size, 3, none⟩ = some (.int .u32 wi) ∧ u3.cell? ⟨w.heap.size, 4, none⟩ = some (.int .u32 pa) ∧ u3.cell? ⟨w.heap.size, 5, none⟩ = some (.int .u32 co) ∧ u3.cell? ⟨w.heap.size, 6, none⟩ = some (.string nm) ∧ u3.cell? ⟨w.heap.size, 7, none⟩ = some (.string lg) ∧ u3.cell? ⟨w.heap.size, 8, none⟩ = some (.bool wt) ∧ u3.cell? ⟨w.heap.size, 9, none⟩ = some (.slice A n c) := ⟨HX3.out.cell 0, HX3.out.cell 1, HX3.out.cell 2, HX3.out.cell 3, HX3.out.cell 4, HX3.out.cell 5, HX3.out.cell 6, HX3.out.cell 7, HX3.out.cell 8, HX3.out.cell 9⟩)
        | (go_at_call 28
           ((with_reducible refine (made28 pa u3).mono ?_); rintro e u4 ⟨rfl, HB4'⟩)
           have HB4 := bel_trans HB3 HB4'
           have HX4 := box_p HX0 HB4
           have HBASE4 : base ≤ u4.heap.size := by have := HB4.out.size; omega
           have HS4 : u4.cell? ⟨w.heap.size, 0, none⟩ = some (.int .i64 90) ∧ u4.cell? ⟨w.heap.size, 1, none⟩ = some (.int .u32 ch) ∧ u4.cell? ⟨w.heap.size, 2, none⟩ = some (.int .u32 se) ∧ u4.cell? ⟨w.heap.size, 3, none⟩ = some (.int .u32 wi) ∧ u4.cell? ⟨w.heap.size, 4, none⟩ = some (.int .u32 pa) ∧ u4.cell? ⟨w.heap.size, 5, none⟩ = some (.int .u32 co) ∧ u4.cell? ⟨w.heap.size, 6, none⟩ = some (.string nm) ∧ u4.cell? ⟨w.heap.size, 7, none⟩ = some (.string lg) ∧ u4.cell? ⟨w.heap.size, 8, none⟩ = some (.bool wt) ∧ u4.cell? ⟨w.heap.size, 9, none⟩ = some (.slice A n c) := ⟨HX4.out.cell 0, HX4.out.cell 1, HX4.out.cell 2, HX4.out.cell 3, HX4.out.cell 4, HX4.out.cell 5, HX4.out.cell 6, HX4.out.cell 7, HX4.out.cell 8, HX4.out.cell 9⟩)
        | (go_at_call 32
           ((with_reducible refine (made32 n c A u4).mono ?_); rintro e u5 ⟨rfl, HB5'⟩)
           have HB5 := bel_trans HB4 HB5'
           have HX5 := box_p HX0 HB5
           have HBASE5 : base ≤ u5.heap.size := by have := HB5.out.size; omega
           have HS5 : u5.cell? ⟨w.heap.size, 0, none⟩ = some (.int .i64 90) ∧ u5.cell? ⟨w.heap.size, 1, none⟩ = some (.int .u32 ch) ∧ u5.cell? ⟨w.heap.size, 2, none⟩ = some (.int .u32 se) ∧ u5.cell? ⟨w.heap.size, 3, none⟩ = some (.int .u32 wi) ∧ u5.cell? ⟨w.heap.size, 4, none⟩ = some (.int .u32 pa) ∧ u5.cell? ⟨w.heap.size, 5, none⟩ = some (.int .u32 co) ∧ u5.cell? ⟨w.heap.size, 6, none⟩ = some (.string nm) ∧ u5.cell? ⟨w.heap.size, 7, none⟩ = some (.string lg) ∧ u5.cell? ⟨w.heap.size, 8, none⟩ = some (.bool wt) ∧ u5.cell? ⟨w.heap.size, 9, none⟩ = some (.slice A n c) := ⟨HX5.out.cell 0, HX5.out.cell 1, HX5.out.cell 2, HX5.out.cell 3, HX5.out.cell 4, HX5.out.cell 5, HX5.out.cell 6, HX5.out.cell 7, HX5.out.cell 8, HX5.out.cell 9⟩
           have HSA : ∀ o, (u5.alloc o).cell? ⟨w.heap.size, 0, none⟩ = some (.int .i64 90) ∧ (u5.alloc o).cell? ⟨w.heap.size, 1, none⟩ = some (.int .u32 ch) ∧ (u5.alloc o).cell? ⟨w.heap.size, 2, none⟩ = some (.int .u32 se) ∧ (u5.alloc o).cell? ⟨w.heap.size, 3, none⟩ = some (.int .u32 wi) ∧ (u5.alloc o).cell? ⟨w.heap.size, 4, none⟩ = some (.int .u32 pa) ∧ (u5.alloc o).cell? ⟨w.heap.size, 5, none⟩ = some (.int .u32 co) ∧ (u5.alloc o).cell? ⟨w.heap.size, 6, none⟩ = some (.string nm) ∧ (u5.alloc o).cell? ⟨w.heap.size, 7, none⟩ = some (.string lg) ∧ (u5.alloc o).cell? ⟨w.heap.size, 8, none⟩ = some (.bool wt) ∧ (u5.alloc o).cell? ⟨w.heap.size, 9, none⟩ = some (.slice A n c) := fun o => ⟨(box_a HX5 o).out.cell 0, (box_a HX5 o).out.cell 1, (box_a HX5 o).out.cell 2, (box_a HX5 o).out.cell 3, (box_a HX5 o).out.cell 4, (box_a HX5 o).out.cell 5, (box_a HX5 o).out.cell 6, (box_a HX5 o).out.cell 7, (box_a HX5 o).out.cell 8, (box_a HX5 o).out.cell 9⟩)))
  all_goals
    go_wp2
    go_ret2
    have HDN := (HD.out.below HB0.out).below HB5.out
    have HT1N := ((((HT1.out).below HB2'.out).below HB3'.out).below HB4'.out).below HB5'.out
    have hl := lit_lies u5 #[.int .i64 4, .int .u32 0, .slice tA1 n6 tc1, .slice none 0 0, .int .i64 3, .int .u32 se, .slice none 0 0, .slice none 0 0, .int .i64 3, .int .u32 wi, .slice none 0 0, .slice none 0 0, .int .i64 3, .int .u32 pa, .slice none 0 0, .slice none 0 0, .int .i64 6, .int .u32 0, .slice A n c, .slice none 0 0] 50 (0, 0) u5.heap.size rfl
    subst h6
    subst hn
    exact ⟨HB0.out.trans ((HB5.out.mono (by omega)).trans ((bel1 u5 _).mono (by have := HB5.out.size; omega))), _, rfl, _, hl.more (by simp), ⟨tA1, tc1, _, rfl, rfl, tk_alloc HT1N _, ⟨none, 0, _, rfl, rfl, TK.nil_ _ _, ⟨none, 0, _, rfl, rfl, TK.nil_ _ _, ⟨none, 0, _, rfl, rfl, TK.nil_ _ _, ⟨A, c, _, rfl, rfl, tk_alloc HDN _, rfl⟩⟩⟩⟩⟩⟩
set_option maxHeartbeats 4000000 in
set_option maxRecDepth 100000 in
theorem fields20_91 (base ch se wi pa co n n6 n7 nb c : Nat) (nm lg : ByteArray) (wt : Bool) (A : Option Addr) (dt : List UInt8) (w : World) (hn : dt.length = n) (h6 : nm.data.toList.length = n6) (h7 : lg.data.toList.length = n7) (hnb : (if wt then 1 else 0) = nb) (s6 : nm.size ≤ maxLen) (s7 : lg.size ≤ maxLen) (hb : base ≤ w.heap.size) (hd : TK w base A c dt) :
    Calls Tryd.prog 20 #[.agg #[.int .i64 91, .int .u32 ch, .int .u32 se, .int .u32 wi, .int .u32 pa, .int .u32 co, .string nm, .string lg, .bool wt, .slice A n c]] w fun e w' => Hid (Below w.heap.size w w') ∧ ∃ A', e = .returned (.tuple #[.slice A' 5 5, .bool true]) ∧ Hid (∃ cs, Lies w' w'.heap.size A' cs ∧ FlatK w' base [⟨3, ch, [], []⟩, ⟨3, se, [], []⟩, ⟨3, wi, [], []⟩, ⟨3, pa, [], []⟩, ⟨6, 0, dt, []⟩] cs) := by
  have HD := hid hd
  have HNB := hid hnb
  clear hd
  have HX0 : Hid (Box (w.alloc (.cells #[.int .i64 91, .int .u32 ch, .int .u32 se, .int .u32 wi, .int .u32 pa, .int .u32 co, .string nm, .string lg, .bool wt, .slice A n c] 25)) w.heap.size 25 #[.int .i64 91, .int .u32 ch, .int .u32 se, .int .u32 wi, .int .u32 pa, .int .u32 co, .string nm, .string lg, .bool wt, .slice A n c]) := hid (Box.new w 25 _)
  have HB0 : Hid (Below w.heap.size w (w.alloc (.cells #[.int .i64 91, .int .u32 ch, .int .u32 se, .int .u32 wi, .int .u32 pa, .int .u32 co, .string nm, .string lg, .bool wt, .slice A n c] 25))) := bel1 w _
  have HZ0 : (w.alloc (.cells #[.int .i64 91, .int .u32 ch, .int .u32 se, .int .u32 wi, .int .u32 pa, .int .u32 co, .string nm, .string lg, .bool wt, .slice A n c] 25)).heap.size = w.heap.size + 1 := by simp
  have HBASE0 : base ≤ (w.alloc (.cells #[.int .i64 91, .int .u32 ch, .int .u32 se, .int .u32 wi, .int .u32 pa, .int .u32 co, .string nm, .string lg, .bool wt, .slice A n c] 25)).drew.heap.size := by show base ≤ (w.alloc (.cells #[.int .i64 91, .int .u32 ch, .int .u32 se, .int .u32 wi, .int .u32 pa, .int .u32 co, .string nm, .string lg, .bool wt, .slice A n c] 25)).heap.size; omega
  go_enter Tryd.func20, Tryd.ntmps20
  go_wp2
  generalize hW : w.alloc _ = u0 at HX0 HB0 HZ0 HBASE0
  have HW := hid hW
  clear hW
  have HS0 : u0.cell? ⟨w.heap.size, 0, none⟩ = some (.int .i64 91) ∧ u0.cell? ⟨w.heap.size, 1, none⟩ = some (.int .u32 ch) ∧ u0.cell? ⟨w.heap.size, 2, none⟩ = some (.int .u32 se) ∧ u0.cell? ⟨w.heap.size, 3, none⟩ = some (.int .u32 wi) ∧ u0.cell? ⟨w.heap.size, 4, none⟩ = some (.int .u32 pa) ∧ u0.cell? ⟨w.heap.size, 5, none⟩ = some (.int .u32 co) ∧ u0.cell? ⟨w.heap.size, 6, none⟩ = some (.string nm) ∧ u0.cell? ⟨w.heap.size, 7, none⟩ = some (.string lg) ∧ u0.cell? ⟨w.heap.size, 8, none⟩ = some (.bool wt) ∧ u0.cell? ⟨w.heap.size, 9, none⟩ = some (.slice A n c) := ⟨HX0.out.cell 0, HX0.out.cell 1, HX0.out.cell 2, HX0.out.cell 3, HX0.out.cell 4, HX0.out.cell 5, HX0.out.cell 6, HX0.out.cell 7, HX0.out.cell 8, HX0.out.cell 9⟩
  go_region_held3 (fun u => u.cell? ⟨w.heap.size, 0, none⟩ = some (.int .i64 91) ∧ u.cell? ⟨w.heap.size, 1, none⟩ = some (.int .u32 ch) ∧ u.cell? ⟨w.heap.size, 2, none⟩ = some (.int .u32 se) ∧ u.cell? ⟨w.heap.size, 3, none⟩ = some (.int .u32 wi) ∧ u.cell? ⟨w.heap.size, 4, none⟩ = some (.int .u32 pa) ∧ u.cell? ⟨w.heap.size, 5, none⟩ = some (.int .u32 co) ∧ u.cell? ⟨w.heap.size, 6, none⟩ = some (.string nm) ∧ u.cell? ⟨w.heap.size, 7, none⟩ = some (.string lg) ∧ u.cell? ⟨w.heap.size, 8, none⟩ = some (.bool wt) ∧ u.cell? ⟨w.heap.size, 9, none⟩ = some (.slice A n c)) (first | exact HS0 | exact HS1 | exact HS2 | exact HS3 | exact HS4 | exact HS5 | exact HSA _) ((first
        | (go_at_call 28
           ((with_reducible refine (made28 ch u0.drew).mono ?_); rintro e u1 ⟨rfl, HB1'⟩)
           have HB1 : Hid (Below u0.heap.size u0 u1) := hid ⟨HB1'.out.os, HB1'.out.tape, HB1'.out.output, HB1'.out.size, HB1'.out.block⟩
           have HX1 := box_p HX0 HB1
           have HBASE1 : base ≤ u1.heap.size := by have := HB1.out.size; omega
           have HS1 : u1.cell? ⟨w.heap.size, 0, none⟩ = some (.int .i64 91) ∧ u1.cell? ⟨w.heap.size, 1, none⟩ = some (.int .u32 ch) ∧ u1.cell? ⟨w.heap.size, 2, none⟩ = some (.int .u32 se) ∧ u1.cell? ⟨w.heap.size, 3, none⟩ = some (.int .u32 wi) ∧ u1.cell? ⟨w.heap.size, 4, none⟩ = some (.int .u32 pa) ∧ u1.cell? ⟨w.heap.size, 5, none⟩ = some (.int .u32 co) ∧ u1.cell? ⟨w.heap.size, 6, none⟩ = some (.string nm) ∧ u1.cell? ⟨w.heap.size, 7, none⟩ = some (.string lg) ∧ u1.cell? ⟨w.heap.size, 8, none⟩ = some (.bool wt) ∧ u1.cell? ⟨w.heap.size, 9, none⟩ = some (.slice A n c) := ⟨HX1.out.cell 0, HX1.out.cell 1, HX1.out.cell 2, HX1.out.cell 3, HX1.out.cell 4, HX1.out.cell 5, HX1.out.cell 6, HX1.out.cell 7, HX1.out.cell 8, HX1.out.cell 9⟩)
        | (go_at_call 28
           ((with_reducible refine (made28 se u1).mono ?_); rintro e u2 ⟨rfl, HB2'⟩)
           have HB2 := bel_trans HB1 HB2'
           have HX2 := box_p HX0 HB2
           have HBASE2 : base ≤ u2.heap.size := by have := HB2.out.size; omega
           have HS2 : u2.cell? ⟨w.heap.size, 0, none⟩ = some (.int .i64 91) ∧ u2.cell? ⟨w.heap.size, 1, none⟩ = some (.int .u32 ch) ∧ u2.cell? ⟨w.heap.size, 2, none⟩ = some (.int .u32 se) ∧ u2.cell? ⟨w.heap.size, 3, none⟩ = some (.int .u32 wi) ∧ u2.cell? ⟨w.heap.size, 4, none⟩ = some (.int .u32 pa) ∧ u2.cell? ⟨w.heap.size, 5, none⟩ = some (.int .u32 co) ∧ u2.cell? ⟨w.heap.size, 6, none⟩ = some (.string nm) ∧ u2.cell? ⟨w.heap.size, 7, none⟩ = some (.string lg) ∧ u2.cell? ⟨w.heap.size, 8, none⟩ = some (.bool wt) ∧ u2.cell? ⟨w.heap.size, 9, none⟩ = some (.slice A n c) := ⟨HX2.out.cell 0, HX2.out.cell 1, HX2.out.cell 2, HX2.out.cell 3, HX2.out.cell 4, HX2.out.cell 5, HX2.out.cell 6, HX2.out.cell 7, HX2.out.cell 8, HX2.out.cell 9⟩)
        | (go_at_call 28
           ((with_reducible refine (made28 wi u2).mono ?_); rintro e u3 ⟨rfl, HB3'⟩)
           have HB3 := bel_trans HB2 HB3'
           have HX3 := box_p HX0 HB3
           have HBASE3 : base ≤ u3.heap.size := by have := HB3.out.size; omega
           have HS3 : u3.cell? ⟨w.heap.size, 0, none⟩ = some (.int .i64 91) ∧ u3.cell? ⟨w.heap.size, 1, none⟩ = some (.int .u32 ch) ∧ u3.cell? ⟨w.heap.size, 2, none⟩ = some (.int .u32 se) ∧ u3.cell? ⟨w.heap.size, 3, none⟩ = some (.int .u32 wi) ∧ u3.cell? ⟨w.heap.size, 4, none⟩ = some (.int .u32 pa) ∧ u3.cell? ⟨w.heap.size, 5, none⟩ = some (.int .u32 co) ∧ u3.cell? ⟨w.heap.size, 6, none⟩ = some (.string nm) ∧ u3.cell? ⟨w.heap.size, 7, none⟩ = some (.string lg) ∧ u3.cell? ⟨w.heap.size, 8, none⟩ = some (.bool wt) ∧ u3.cell? ⟨w.heap.size, 9, none⟩ = some (.slice A n c) := ⟨HX3.out.cell 0, HX3.out.cell 1, HX3.out.cell 2, HX3.out.cell 3, HX3.out.cell 4, HX3.out.cell 5, HX3.out.cell 6, HX3.out.cell 7, HX3.out.cell 8, HX3.out.cell 9⟩)
        | (go_at_call 28
           ((with_reducible refine (made28 pa u3).mono ?_); rintro e u4 ⟨rfl, HB4'⟩)
           have HB4 := bel_trans HB3 HB4'
           have HX4 := box_p HX0 HB4
           have HBASE4 : base ≤ u4.heap.size := by have := HB4.out.size; omega
           have HS4 : u4.cell? ⟨w.heap.size, 0, none⟩ = some (.int .i64 91) ∧ u4.cell? ⟨w.heap.size, 1, none⟩ = some (.int .u32 ch) ∧ u4.cell? ⟨w.heap.size, 2, none⟩ = some (.int .u32 se) ∧ u4.cell? ⟨w.heap.size, 3, none⟩ = some (.int .u32 wi) ∧ u4.cell? ⟨w.heap.size, 4, none⟩ = some (.int .u32 pa) ∧ u4.cell? ⟨w.heap.size, 5, none⟩ = some (.int .u32 co) ∧ u4.cell? ⟨w.heap.size, 6, none⟩ = some (.string nm) ∧ u4.cell? ⟨w.heap.size, 7, none⟩ = some (.string lg) ∧ u4.cell? ⟨w.heap.size, 8, none⟩ = some (.bool wt) ∧ u4.cell? ⟨w.heap.size, 9, none⟩ = some (.slice A n c) := ⟨HX4.out.cell 0, HX4.out.cell 1, HX4.out.cell 2, HX4.out.cell 3, HX4.out.cell 4, HX4.out.cell 5, HX4.out.cell 6, HX4.out.cell 7, HX4.out.cell 8, HX4.out.cell 9⟩)
        | (go_at_call 32
           ((with_reducible refine (made32 n c A u4).mono ?_); rintro e u5 ⟨rfl, HB5'⟩)
           have HB5 := bel_trans HB4 HB5'
           have HX5 := box_p HX0 HB5
           have HBASE5 : base ≤ u5.heap.size := by have := HB5.out.size; omega
           have HS5 : u5.cell? ⟨w.heap.size, 0, none⟩ = some (.int .i64 91) ∧ u5.cell? ⟨w.heap.size, 1, none⟩ = some (.int .u32 ch) ∧ u5.cell? ⟨w.heap.size, 2, none⟩ = some (.int .u32 se) ∧ u5.cell? ⟨w.heap.size, 3, none⟩ = some (.int .u32 wi) ∧ u5.cell? ⟨w.heap.size, 4, none⟩ = some (.int .u32 pa) ∧ u5.cell? ⟨w.heap.size, 5, none⟩ = some (.int .u32 co) ∧ u5.cell? ⟨w.heap.size, 6, none⟩ = some (.string nm) ∧ u5.cell? ⟨w.heap.size, 7, none⟩ = some (.string lg) ∧ u5.cell? ⟨w.heap.size, 8, none⟩ = some (.bool wt) ∧ u5.cell? ⟨w.heap.size, 9, none⟩ = some (.slice A n c) := ⟨HX5.out.cell 0, HX5.out.cell 1, HX5.out.cell 2, HX5.out.cell 3, HX5.out.cell 4, HX5.out.cell 5, HX5.out.cell 6, HX5.out.cell 7, HX5.out.cell 8, HX5.out.cell 9⟩
           have HSA : ∀ o, (u5.alloc o).cell? ⟨w.heap.size, 0, none⟩ = some (.int .i64 91) ∧ (u5.alloc o).cell? ⟨w.heap.size, 1, none⟩ = some (.int .u32 ch) ∧ (u5.alloc o).cell? ⟨w.heap.size, 2, none⟩ = some (.int .u32 se) ∧ (u5.alloc o).cell? ⟨w.heap.size, 3, none⟩ = some (.int .u32 wi) ∧ (u5.alloc o).cell? ⟨w.heap.size, 4, none⟩ = some (.int .u32 pa) ∧ (u5.alloc o).cell? ⟨w.heap.size, 5, none⟩ = some (.int .u32 co) ∧ (u5.alloc o).cell? ⟨w.heap.size, 6, none⟩ = some (.string nm) ∧ (u5.alloc o).cell? ⟨w.heap.size, 7, none⟩ = some (.string lg) ∧ (u5.alloc o).cell? ⟨w.heap.size, 8, none⟩ = some (.bool wt) ∧ (u5.alloc o).cell? ⟨w.heap.size, 9, none⟩ = some (.slice A n c) := fun o => ⟨(box_a HX5 o).out.cell 0, (box_a HX5 o).out.cell 1, (box_a HX5 o).out.cell 2, (box_a HX5 o).out.cell 3, (box_a HX5 o).out.cell 4, (box_a HX5 o).out.cell 5, (box_a HX5 o).out.cell 6, (box_a HX5 o).out.cell 7, (box_a HX5 o).out.cell 8, (box_a HX5 o).out.cell 9⟩)))
  all_goals
    go_wp2
    go_ret2
    have HDN := (HD.out.below HB0.out).below HB5.out
    have hl := lit_lies u5 #[.int .i64 3, .int .u32 ch, .slice none 0 0, .slice none 0 0, .int .i64 3, .int .u32 se, .slice none 0 0, .slice none 0 0, .int .i64 3, .int .u32 wi, .slice none 0 0, .slice none 0 0, .int .i64 3, .int .u32 pa, .slice none 0 0, .slice none 0 0, .int .i64 6, .int .u32 0, .slice A n c, .slice none 0 0] 50 (0, 0) u5.heap.size rfl
    subst hn
    exact ⟨HB0.out.trans ((HB5.out.mono (by omega)).trans ((bel1 u5 _).mono (by have := HB5.out.size; omega))), _, rfl, _, hl.more (by simp), ⟨none, 0, _, rfl, rfl, TK.nil_ _ _, ⟨none, 0, _, rfl, rfl, TK.nil_ _ _, ⟨none, 0, _, rfl, rfl, TK.nil_ _ _, ⟨none, 0, _, rfl, rfl, TK.nil_ _ _, ⟨A, c, _, rfl, rfl, tk_alloc HDN _, rfl⟩⟩⟩⟩⟩⟩
set_option maxHeartbeats 4000000 in
set_option maxRecDepth 100000 in
theorem fields20_92 (base ch se wi pa co n n6 n7 nb c : Nat) (nm lg : ByteArray) (wt : Bool) (A : Option Addr) (dt : List UInt8) (w : World) (hn : dt.length = n) (h6 : nm.data.toList.length = n6) (h7 : lg.data.toList.length = n7) (hnb : (if wt then 1 else 0) = nb) (s6 : nm.size ≤ maxLen) (s7 : lg.size ≤ maxLen) (hb : base ≤ w.heap.size) (hd : TK w base A c dt) :
    Calls Tryd.prog 20 #[.agg #[.int .i64 92, .int .u32 ch, .int .u32 se, .int .u32 wi, .int .u32 pa, .int .u32 co, .string nm, .string lg, .bool wt, .slice A n c]] w fun e w' => Hid (Below w.heap.size w w') ∧ ∃ A', e = .returned (.tuple #[.slice A' 4 4, .bool true]) ∧ Hid (∃ cs, Lies w' w'.heap.size A' cs ∧ FlatK w' base [⟨3, ch, [], []⟩, ⟨3, co, [], []⟩, ⟨4, 0, dt, []⟩, ⟨4, 0, lg.data.toList, []⟩] cs) := by
  have HD := hid hd
  have HNB := hid hnb
  clear hd
  have HX0 : Hid (Box (w.alloc (.cells #[.int .i64 92, .int .u32 ch, .int .u32 se, .int .u32 wi, .int .u32 pa, .int .u32 co, .string nm, .string lg, .bool wt, .slice A n c] 25)) w.heap.size 25 #[.int .i64 92, .int .u32 ch, .int .u32 se, .int .u32 wi, .int .u32 pa, .int .u32 co, .string nm, .string lg, .bool wt, .slice A n c]) := hid (Box.new w 25 _)
  have HB0 : Hid (Below w.heap.size w (w.alloc (.cells #[.int .i64 92, .int .u32 ch, .int .u32 se, .int .u32 wi, .int .u32 pa, .int .u32 co, .string nm, .string lg, .bool wt, .slice A n c] 25))) := bel1 w _
  have HZ0 : (w.alloc (.cells #[.int .i64 92, .int .u32 ch, .int .u32 se, .int .u32 wi, .int .u32 pa, .int .u32 co, .string nm, .string lg, .bool wt, .slice A n c] 25)).heap.size = w.heap.size + 1 := by simp
  have HBASE0 : base ≤ (w.alloc (.cells #[.int .i64 92, .int .u32 ch, .int .u32 se, .int .u32 wi, .int .u32 pa, .int .u32 co, .string nm, .string lg, .bool wt, .slice A n c] 25)).drew.heap.size := by show base ≤ (w.alloc (.cells #[.int .i64 92, .int .u32 ch, .int .u32 se, .int .u32 wi, .int .u32 pa, .int .u32 co, .string nm, .string lg, .bool wt, .slice A n c] 25)).heap.size; omega
  go_enter Tryd.func20, Tryd.ntmps20
  go_wp2
  generalize hW : w.alloc _ = u0 at HX0 HB0 HZ0 HBASE0
  have HW := hid hW
  clear hW
  have HS0 : u0.cell? ⟨w.heap.size, 0, none⟩ = some (.int .i64 92) ∧ u0.cell? ⟨w.heap.size, 1, none⟩ = some (.int .u32 ch) ∧ u0.cell? ⟨w.heap.size, 2, none⟩ = some (.int .u32 se) ∧ u0.cell? ⟨w.heap.size, 3, none⟩ = some (.int .u32 wi) ∧ u0.cell? ⟨w.heap.size, 4, none⟩ = some (.int .u32 pa) ∧ u0.cell? ⟨w.heap.size, 5, none⟩ = some (.int .u32 co) ∧ u0.cell? ⟨w.heap.size, 6, none⟩ = some (.string nm) ∧ u0.cell? ⟨w.heap.size, 7, none⟩ = some (.string lg) ∧ u0.cell? ⟨w.heap.size, 8, none⟩ = some (.bool wt) ∧ u0.cell? ⟨w.heap.size, 9, none⟩ = some (.slice A n c) := ⟨HX0.out.cell 0, HX0.out.cell 1, HX0.out.cell 2, HX0.out.cell 3, HX0.out.cell 4, HX0.out.cell 5, HX0.out.cell 6, HX0.out.cell 7, HX0.out.cell 8, HX0.out.cell 9⟩
  go_region_held3 (fun u => u.cell? ⟨w.heap.size, 0, none⟩ = some (.int .i64 92) ∧ u.cell? ⟨w.heap.size, 1, none⟩ = some (.int .u32 ch) ∧ u.cell? ⟨w.heap.size, 2, none⟩ = some (.int .u32 se) ∧ u.cell? ⟨w.heap.size, 3, none⟩ = some (.int .u32 wi) ∧ u.cell? ⟨w.heap.size, 4, none⟩ = some (.int .u32 pa) ∧ u.cell? ⟨w.heap.size, 5, none⟩ = some (.int .u32 co) ∧ u.cell? ⟨w.heap.size, 6, none⟩ = some (.string nm) ∧ u.cell? ⟨w.heap.size, 7, none⟩ = some (.string lg) ∧ u.cell? ⟨w.heap.size, 8, none⟩ = some (.bool wt) ∧ u.cell? ⟨w.heap.size, 9, none⟩ = some (.slice A n c)) (first | exact HS0 | exact HS1 | exact HS2 | exact HS3 | exact HS4 | exact HSA _) ((first
        | (go_at_call 28
           ((with_reducible refine (made28 ch u0.drew).mono ?_); rintro e u1 ⟨rfl, HB1'⟩)
           have HB1 : Hid (Below u0.heap.size u0 u1) := hid ⟨HB1'.out.os, HB1'.out.tape, HB1'.out.output, HB1'.out.size, HB1'.out.block⟩
           have HX1 := box_p HX0 HB1
           have HBASE1 : base ≤ u1.heap.size := by have := HB1.out.size; omega
           have HS1 : u1.cell? ⟨w.heap.size, 0, none⟩ = some (.int .i64 92) ∧ u1.cell? ⟨w.heap.size, 1, none⟩ = some (.int .u32 ch) ∧ u1.cell? ⟨w.heap.size, 2, none⟩ = some (.int .u32 se) ∧ u1.cell? ⟨w.heap.size, 3, none⟩ = some (.int .u32 wi) ∧ u1.cell? ⟨w.heap.size, 4, none⟩ = some (.int .u32 pa) ∧ u1.cell? ⟨w.heap.size, 5, none⟩ = some (.int .u32 co) ∧ u1.cell? ⟨w.heap.size, 6, none⟩ = some (.string nm) ∧ u1.cell? ⟨w.heap.size, 7, none⟩ = some (.string lg) ∧ u1.cell? ⟨w.heap.size, 8, none⟩ = some (.bool wt) ∧ u1.cell? ⟨w.heap.size, 9, none⟩ = some (.slice A n c) := ⟨HX1.out.cell 0, HX1.out.cell 1, HX1.out.cell 2, HX1.out.cell 3, HX1.out.cell 4, HX1.out.cell 5, HX1.out.cell 6, HX1.out.cell 7, HX1.out.cell 8, HX1.out.cell 9⟩)
        | (go_at_call 28
           ((with_reducible refine (made28 co u1).mono ?_); rintro e u2 ⟨rfl, HB2'⟩)
           have HB2 := bel_trans HB1 HB2'
           have HX2 := box_p HX0 HB2
           have HBASE2 : base ≤ u2.heap.size := by have := HB2.out.size; omega
           have HS2 : u2.cell? ⟨w.heap.size, 0, none⟩ = some (.int .i64 92) ∧ u2.cell? ⟨w.heap.size, 1, none⟩ = some (.int .u32 ch) ∧ u2.cell? ⟨w.heap.size, 2, none⟩ = some (.int .u32 se) ∧ u2.cell? ⟨w.heap.size, 3, none⟩ = some (.int .u32 wi) ∧ u2.cell? ⟨w.heap.size, 4, none⟩ = some (.int .u32 pa) ∧ u2.cell? ⟨w.heap.size, 5, none⟩ = some (.int .u32 co) ∧ u2.cell? ⟨w.heap.size, 6, none⟩ = some (.string nm) ∧ u2.cell? ⟨w.heap.size, 7, none⟩ = some (.string lg) ∧ u2.cell? ⟨w.heap.size, 8, none⟩ = some (.bool wt) ∧ u2.cell? ⟨w.heap.size, 9, none⟩ = some (.slice A n c) := ⟨HX2.out.cell 0, HX2.out.cell 1, HX2.out.cell 2, HX2.out.cell 3, HX2.out.cell 4, HX2.out.cell 5, HX2.out.cell 6, HX2.out.cell 7, HX2.out.cell 8, HX2.out.cell 9⟩)
        | (go_at_call 29
           ((with_reducible refine (made29 n c A u2).mono ?_); rintro e u3 ⟨rfl, HB3'⟩)
           have HB3 := bel_trans HB2 HB3'
           have HX3 := box_p HX0 HB3
           have HBASE3 : base ≤ u3.heap.size := by have := HB3.out.size; omega
           have HS3 : u3.cell? ⟨w.heap.size, 0, none⟩ = some (.int .i64 92) ∧ u3.cell? ⟨w.heap.size, 1, none⟩ = some (.int .u32 ch) ∧ u3.cell? ⟨w.heap.size, 2, none⟩ = some (.int .u32 se) ∧ u3.cell? ⟨w.heap.size, 3, none⟩ = some (.int .u32 wi) ∧ u3.cell? ⟨w.heap.size, 4, none⟩ = some (.int .u32 pa) ∧ u3.cell? ⟨w.heap.size, 5, none⟩ = some (.int .u32 co) ∧ u3.cell? ⟨w.heap.size, 6, none⟩ = some (.string nm) ∧ u3.cell? ⟨w.heap.size, 7, none⟩ = some (.string lg) ∧ u3.cell? ⟨w.heap.size, 8, none⟩ = some (.bool wt) ∧ u3.cell? ⟨w.heap.size, 9, none⟩ = some (.slice A n c) := ⟨HX3.out.cell 0, HX3.out.cell 1, HX3.out.cell 2, HX3.out.cell 3, HX3.out.cell 4, HX3.out.cell 5, HX3.out.cell 6, HX3.out.cell 7, HX3.out.cell 8, HX3.out.cell 9⟩)
        | (go_at_call 30
           ((with_reducible refine (made30 base n7 lg u3 h7 s7 HBASE3).mono ?_); rintro e u4 ⟨tA4, tc4, rfl, HB4', HT4⟩)
           have HB4 := bel_trans HB3 HB4'
           have HX4 := box_p HX0 HB4
           have HBASE4 : base ≤ u4.heap.size := by have := HB4.out.size; omega
           have HS4 : u4.cell? ⟨w.heap.size, 0, none⟩ = some (.int .i64 92) ∧ u4.cell? ⟨w.heap.size, 1, none⟩ = some (.int .u32 ch) ∧ u4.cell? ⟨w.heap.size, 2, none⟩ = some (.int .u32 se) ∧ u4.cell? ⟨w.heap.size, 3, none⟩ = some (.int .u32 wi) ∧ u4.cell? ⟨w.heap.size, 4, none⟩ = some (.int .u32 pa) ∧ u4.cell? ⟨w.heap.size, 5, none⟩ = some (.int .u32 co) ∧ u4.cell? ⟨w.heap.size, 6, none⟩ = some (.string nm) ∧ u4.cell? ⟨w.heap.size, 7, none⟩ = some (.string lg) ∧ u4.cell? ⟨w.heap.size, 8, none⟩ = some (.bool wt) ∧ u4.cell? ⟨w.heap.size, 9, none⟩ = some (.slice A n c) := ⟨HX4.out.cell 0, HX4.out.cell 1, HX4.out.cell 2, HX4.out.cell 3, HX4.out.cell 4, HX4.out.cell 5, HX4.out.cell 6, HX4.out.cell 7, HX4.out.cell 8, HX4.out.cell 9⟩
           have HSA : ∀ o, (u4.alloc o).cell? ⟨w.heap.size, 0, none⟩ = some (.int .i64 92) ∧ (u4.alloc o).cell? ⟨w.heap.size, 1, none⟩ = some (.int .u32 ch) ∧ (u4.alloc o).cell? ⟨w.heap.size, 2, none⟩ = some (.int .u32 se) ∧ (u4.alloc o).cell? ⟨w.heap.size, 3, none⟩ = some (.int .u32 wi) ∧ (u4.alloc o).cell? ⟨w.heap.size, 4, none⟩ = some (.int .u32 pa) ∧ (u4.alloc o).cell? ⟨w.heap.size, 5, none⟩ = some (.int .u32 co) ∧ (u4.alloc o).cell? ⟨w.heap.size, 6, none⟩ = some (.string nm) ∧ (u4.alloc o).cell? ⟨w.heap.size, 7, none⟩ = some (.string lg) ∧ (u4.alloc o).cell? ⟨w.heap.size, 8, none⟩ = some (.bool wt) ∧ (u4.alloc o).cell? ⟨w.heap.size, 9, none⟩ = some (.slice A n c) := fun o => ⟨(box_a HX4 o).out.cell 0, (box_a HX4 o).out.cell 1, (box_a HX4 o).out.cell 2, (box_a HX4 o).out.cell 3, (box_a HX4 o).out.cell 4, (box_a HX4 o).out.cell 5, (box_a HX4 o).out.cell 6, (box_a HX4 o).out.cell 7, (box_a HX4 o).out.cell 8, (box_a HX4 o).out.cell 9⟩)))
  all_goals
    go_wp2
    go_ret2
    have HDN := (HD.out.below HB0.out).below HB4.out
    have HT4N := HT4.out
    have hl := lit_lies u4 #[.int .i64 3, .int .u32 ch, .slice none 0 0, .slice none 0 0, .int .i64 3, .int .u32 co, .slice none 0 0, .slice none 0 0, .int .i64 4, .int .u32 0, .slice A n c, .slice none 0 0, .int .i64 4, .int .u32 0, .slice tA4 n7 tc4, .slice none 0 0] 50 (0, 0) u4.heap.size rfl
    subst h7
    subst hn
    exact ⟨HB0.out.trans ((HB4.out.mono (by omega)).trans ((bel1 u4 _).mono (by have := HB4.out.size; omega))), _, rfl, _, hl.more (by simp), ⟨none, 0, _, rfl, rfl, TK.nil_ _ _, ⟨none, 0, _, rfl, rfl, TK.nil_ _ _, ⟨A, c, _, rfl, rfl, tk_alloc HDN _, ⟨tA4, tc4, _, rfl, rfl, tk_alloc HT4N _, rfl⟩⟩⟩⟩⟩
set_option maxHeartbeats 4000000 in
set_option maxRecDepth 100000 in
theorem fields20_93 (base ch se wi pa co n n6 n7 nb c : Nat) (nm lg : ByteArray) (wt : Bool) (A : Option Addr) (dt : List UInt8) (w : World) (hn : dt.length = n) (h6 : nm.data.toList.length = n6) (h7 : lg.data.toList.length = n7) (hnb : (if wt then 1 else 0) = nb) (s6 : nm.size ≤ maxLen) (s7 : lg.size ≤ maxLen) (hb : base ≤ w.heap.size) (hd : TK w base A c dt) :
    Calls Tryd.prog 20 #[.agg #[.int .i64 93, .int .u32 ch, .int .u32 se, .int .u32 wi, .int .u32 pa, .int .u32 co, .string nm, .string lg, .bool wt, .slice A n c]] w fun e w' => Hid (Below w.heap.size w w') ∧ ∃ A', e = .returned (.tuple #[.slice A' 2 2, .bool true]) ∧ Hid (∃ cs, Lies w' w'.heap.size A' cs ∧ FlatK w' base [⟨3, ch, [], []⟩, ⟨3, wi, [], []⟩] cs) := by
  have HD := hid hd
  have HNB := hid hnb
  clear hd
  have HX0 : Hid (Box (w.alloc (.cells #[.int .i64 93, .int .u32 ch, .int .u32 se, .int .u32 wi, .int .u32 pa, .int .u32 co, .string nm, .string lg, .bool wt, .slice A n c] 25)) w.heap.size 25 #[.int .i64 93, .int .u32 ch, .int .u32 se, .int .u32 wi, .int .u32 pa, .int .u32 co, .string nm, .string lg, .bool wt, .slice A n c]) := hid (Box.new w 25 _)
  have HB0 : Hid (Below w.heap.size w (w.alloc (.cells #[.int .i64 93, .int .u32 ch, .int .u32 se, .int .u32 wi, .int .u32 pa, .int .u32 co, .string nm, .string lg, .bool wt, .slice A n c] 25))) := bel1 w _
  have HZ0 : (w.alloc (.cells #[.int .i64 93, .int .u32 ch, .int .u32 se, .int .u32 wi, .int .u32 pa, .int .u32 co, .string nm, .string lg, .bool wt, .slice A n c] 25)).heap.size = w.heap.size + 1 := by simp
  have HBASE0 : base ≤ (w.alloc (.cells #[.int .i64 93, .int .u32 ch, .int .u32 se, .int .u32 wi, .int .u32 pa, .int .u32 co, .string nm, .string lg, .bool wt, .slice A n c] 25)).drew.heap.size := by show base ≤ (w.alloc (.cells #[.int .i64 93, .int .u32 ch, .int .u32 se, .int .u32 wi, .int .u32 pa, .int .u32 co, .string nm, .string lg, .bool wt, .slice A n c] 25)).heap.size; omega
  go_enter Tryd.func20, Tryd.ntmps20
  go_wp2
  generalize hW : w.alloc _ = u0 at HX0 HB0 HZ0 HBASE0
  have HW := hid hW
  clear hW
  have HS0 : u0.cell? ⟨w.heap.size, 0, none⟩ = some (.int .i64 93) ∧ u0.cell? ⟨w.heap.size, 1, none⟩ = some (.int .u32 ch) ∧ u0.cell? ⟨w.heap.size, 2, none⟩ = some (.int .u32 se) ∧ u0.cell? ⟨w.heap.size, 3, none⟩ = some (.int .u32 wi) ∧ u0.cell? ⟨w.heap.size, 4, none⟩ = some (.int .u32 pa) ∧ u0.cell? ⟨w.heap.size, 5, none⟩ = some (.int .u32 co) ∧ u0.cell? ⟨w.heap.size, 6, none⟩ = some (.string nm) ∧ u0.cell? ⟨w.heap.size, 7, none⟩ = some (.string lg) ∧ u0.cell? ⟨w.heap.size, 8, none⟩ = some (.bool wt) ∧ u0.cell? ⟨w.heap.size, 9, none⟩ = some (.slice A n c) := ⟨HX0.out.cell 0, HX0.out.cell 1, HX0.out.cell 2, HX0.out.cell 3, HX0.out.cell 4, HX0.out.cell 5, HX0.out.cell 6, HX0.out.cell 7, HX0.out.cell 8, HX0.out.cell 9⟩
  go_region_held3 (fun u => u.cell? ⟨w.heap.size, 0, none⟩ = some (.int .i64 93) ∧ u.cell? ⟨w.heap.size, 1, none⟩ = some (.int .u32 ch) ∧ u.cell? ⟨w.heap.size, 2, none⟩ = some (.int .u32 se) ∧ u.cell? ⟨w.heap.size, 3, none⟩ = some (.int .u32 wi) ∧ u.cell? ⟨w.heap.size, 4, none⟩ = some (.int .u32 pa) ∧ u.cell? ⟨w.heap.size, 5, none⟩ = some (.int .u32 co) ∧ u.cell? ⟨w.heap.size, 6, none⟩ = some (.string nm) ∧ u.cell? ⟨w.heap.size, 7, none⟩ = some (.string lg) ∧ u.cell? ⟨w.heap.size, 8, none⟩ = some (.bool wt) ∧ u.cell? ⟨w.heap.size, 9, none⟩ = some (.slice A n c)) (first | exact HS0 | exact HS1 | exact HS2 | exact HSA _) ((first
        | (go_at_call 28
           ((with_reducible refine (made28 ch u0.drew).mono ?_); rintro e u1 ⟨rfl, HB1'⟩)
           have HB1 : Hid (Below u0.heap.size u0 u1) := hid ⟨HB1'.out.os, HB1'.out.tape, HB1'.out.output, HB1'.out.size, HB1'.out.block⟩
           have HX1 := box_p HX0 HB1
           have HBASE1 : base ≤ u1.heap.size := by have := HB1.out.size; omega
           have HS1 : u1.cell? ⟨w.heap.size, 0, none⟩ = some (.int .i64 93) ∧ u1.cell? ⟨w.heap.size, 1, none⟩ = some (.int .u32 ch) ∧ u1.cell? ⟨w.heap.size, 2, none⟩ = some (.int .u32 se) ∧ u1.cell? ⟨w.heap.size, 3, none⟩ = some (.int .u32 wi) ∧ u1.cell? ⟨w.heap.size, 4, none⟩ = some (.int .u32 pa) ∧ u1.cell? ⟨w.heap.size, 5, none⟩ = some (.int .u32 co) ∧ u1.cell? ⟨w.heap.size, 6, none⟩ = some (.string nm) ∧ u1.cell? ⟨w.heap.size, 7, none⟩ = some (.string lg) ∧ u1.cell? ⟨w.heap.size, 8, none⟩ = some (.bool wt) ∧ u1.cell? ⟨w.heap.size, 9, none⟩ = some (.slice A n c) := ⟨HX1.out.cell 0, HX1.out.cell 1, HX1.out.cell 2, HX1.out.cell 3, HX1.out.cell 4, HX1.out.cell 5, HX1.out.cell 6, HX1.out.cell 7, HX1.out.cell 8, HX1.out.cell 9⟩)
        | (go_at_call 28
           ((with_reducible refine (made28 wi u1).mono ?_); rintro e u2 ⟨rfl, HB2'⟩)
           have HB2 := bel_trans HB1 HB2'
           have HX2 := box_p HX0 HB2
           have HBASE2 : base ≤ u2.heap.size := by have := HB2.out.size; omega
           have HS2 : u2.cell? ⟨w.heap.size, 0, none⟩ = some (.int .i64 93) ∧ u2.cell? ⟨w.heap.size, 1, none⟩ = some (.int .u32 ch) ∧ u2.cell? ⟨w.heap.size, 2, none⟩ = some (.int .u32 se) ∧ u2.cell? ⟨w.heap.size, 3, none⟩ = some (.int .u32 wi) ∧ u2.cell? ⟨w.heap.size, 4, none⟩ = some (.int .u32 pa) ∧ u2.cell? ⟨w.heap.size, 5, none⟩ = some (.int .u32 co) ∧ u2.cell? ⟨w.heap.size, 6, none⟩ = some (.string nm) ∧ u2.cell? ⟨w.heap.size, 7, none⟩ = some (.string lg) ∧ u2.cell? ⟨w.heap.size, 8, none⟩ = some (.bool wt) ∧ u2.cell? ⟨w.heap.size, 9, none⟩ = some (.slice A n c) := ⟨HX2.out.cell 0, HX2.out.cell 1, HX2.out.cell 2, HX2.out.cell 3, HX2.out.cell 4, HX2.out.cell 5, HX2.out.cell 6, HX2.out.cell 7, HX2.out.cell 8, HX2.out.cell 9⟩
           have HSA : ∀ o, (u2.alloc o).cell? ⟨w.heap.size, 0, none⟩ = some (.int .i64 93) ∧ (u2.alloc o).cell? ⟨w.heap.size, 1, none⟩ = some (.int .u32 ch) ∧ (u2.alloc o).cell? ⟨w.heap.size, 2, none⟩ = some (.int .u32 se) ∧ (u2.alloc o).cell? ⟨w.heap.size, 3, none⟩ = some (.int .u32 wi) ∧ (u2.alloc o).cell? ⟨w.heap.size, 4, none⟩ = some (.int .u32 pa) ∧ (u2.alloc o).cell? ⟨w.heap.size, 5, none⟩ = some (.int .u32 co) ∧ (u2.alloc o).cell? ⟨w.heap.size, 6, none⟩ = some (.string nm) ∧ (u2.alloc o).cell? ⟨w.heap.size, 7, none⟩ = some (.string lg) ∧ (u2.alloc o).cell? ⟨w.heap.size, 8, none⟩ = some (.bool wt) ∧ (u2.alloc o).cell? ⟨w.heap.size, 9, none⟩ = some (.slice A n c) := fun o => ⟨(box_a HX2 o).out.cell 0, (box_a HX2 o).out.cell 1, (box_a HX2 o).out.cell 2, (box_a HX2 o).out.cell 3, (box_a HX2 o).out.cell 4, (box_a HX2 o).out.cell 5, (box_a HX2 o).out.cell 6, (box_a HX2 o).out.cell 7, (box_a HX2 o).out.cell 8, (box_a HX2 o).out.cell 9⟩)))
  all_goals
    go_wp2
    go_ret2
    have HDN := (HD.out.below HB0.out).below HB2.out
    have hl := lit_lies u2 #[.int .i64 3, .int .u32 ch, .slice none 0 0, .slice none 0 0, .int .i64 3, .int .u32 wi, .slice none 0 0, .slice none 0 0] 50 (0, 0) u2.heap.size rfl
    exact ⟨HB0.out.trans ((HB2.out.mono (by omega)).trans ((bel1 u2 _).mono (by have := HB2.out.size; omega))), _, rfl, _, hl.more (by simp), ⟨none, 0, _, rfl, rfl, TK.nil_ _ _, ⟨none, 0, _, rfl, rfl, TK.nil_ _ _, rfl⟩⟩⟩
set_option maxHeartbeats 4000000 in
set_option maxRecDepth 100000 in
theorem fields20_94 (base ch se wi pa co n n6 n7 nb c : Nat) (nm lg : ByteArray) (wt : Bool) (A : Option Addr) (dt : List UInt8) (w : World) (hn : dt.length = n) (h6 : nm.data.toList.length = n6) (h7 : lg.data.toList.length = n7) (hnb : (if wt then 1 else 0) = nb) (s6 : nm.size ≤ maxLen) (s7 : lg.size ≤ maxLen) (hb : base ≤ w.heap.size) (hd : TK w base A c dt) :
    Calls Tryd.prog 20 #[.agg #[.int .i64 94, .int .u32 ch, .int .u32 se, .int .u32 wi, .int .u32 pa, .int .u32 co, .string nm, .string lg, .bool wt, .slice A n c]] w fun e w' => Hid (Below w.heap.size w w') ∧ ∃ A', e = .returned (.tuple #[.slice A' 2 2, .bool true]) ∧ Hid (∃ cs, Lies w' w'.heap.size A' cs ∧ FlatK w' base [⟨3, ch, [], []⟩, ⟨4, 0, dt, []⟩] cs) := by
  have HD := hid hd
  have HNB := hid hnb
  clear hd
  have HX0 : Hid (Box (w.alloc (.cells #[.int .i64 94, .int .u32 ch, .int .u32 se, .int .u32 wi, .int .u32 pa, .int .u32 co, .string nm, .string lg, .bool wt, .slice A n c] 25)) w.heap.size 25 #[.int .i64 94, .int .u32 ch, .int .u32 se, .int .u32 wi, .int .u32 pa, .int .u32 co, .string nm, .string lg, .bool wt, .slice A n c]) := hid (Box.new w 25 _)
  have HB0 : Hid (Below w.heap.size w (w.alloc (.cells #[.int .i64 94, .int .u32 ch, .int .u32 se, .int .u32 wi, .int .u32 pa, .int .u32 co, .string nm, .string lg, .bool wt, .slice A n c] 25))) := bel1 w _
  have HZ0 : (w.alloc (.cells #[.int .i64 94, .int .u32 ch, .int .u32 se, .int .u32 wi, .int .u32 pa, .int .u32 co, .string nm, .string lg, .bool wt, .slice A n c] 25)).heap.size = w.heap.size + 1 := by simp
  have HBASE0 : base ≤ (w.alloc (.cells #[.int .i64 94, .int .u32 ch, .int .u32 se, .int .u32 wi, .int .u32 pa, .int .u32 co, .string nm, .string lg, .bool wt, .slice A n c] 25)).drew.heap.size := by show base ≤ (w.alloc (.cells #[.int .i64 94, .int .u32 ch, .int .u32 se, .int .u32 wi, .int .u32 pa, .int .u32 co, .string nm, .string lg, .bool wt, .slice A n c] 25)).heap.size; omega
  go_enter Tryd.func20, Tryd.ntmps20
  go_wp2
  generalize hW : w.alloc _ = u0 at HX0 HB0 HZ0 HBASE0
  have HW := hid hW
  clear hW
  have HS0 : u0.cell? ⟨w.heap.size, 0, none⟩ = some (.int .i64 94) ∧ u0.cell? ⟨w.heap.size, 1, none⟩ = some (.int .u32 ch) ∧ u0.cell? ⟨w.heap.size, 2, none⟩ = some (.int .u32 se) ∧ u0.cell? ⟨w.heap.size, 3, none⟩ = some (.int .u32 wi) ∧ u0.cell? ⟨w.heap.size, 4, none⟩ = some (.int .u32 pa) ∧ u0.cell? ⟨w.heap.size, 5, none⟩ = some (.int .u32 co) ∧ u0.cell? ⟨w.heap.size, 6, none⟩ = some (.string nm) ∧ u0.cell? ⟨w.heap.size, 7, none⟩ = some (.string lg) ∧ u0.cell? ⟨w.heap.size, 8, none⟩ = some (.bool wt) ∧ u0.cell? ⟨w.heap.size, 9, none⟩ = some (.slice A n c) := ⟨HX0.out.cell 0, HX0.out.cell 1, HX0.out.cell 2, HX0.out.cell 3, HX0.out.cell 4, HX0.out.cell 5, HX0.out.cell 6, HX0.out.cell 7, HX0.out.cell 8, HX0.out.cell 9⟩
  go_region_held3 (fun u => u.cell? ⟨w.heap.size, 0, none⟩ = some (.int .i64 94) ∧ u.cell? ⟨w.heap.size, 1, none⟩ = some (.int .u32 ch) ∧ u.cell? ⟨w.heap.size, 2, none⟩ = some (.int .u32 se) ∧ u.cell? ⟨w.heap.size, 3, none⟩ = some (.int .u32 wi) ∧ u.cell? ⟨w.heap.size, 4, none⟩ = some (.int .u32 pa) ∧ u.cell? ⟨w.heap.size, 5, none⟩ = some (.int .u32 co) ∧ u.cell? ⟨w.heap.size, 6, none⟩ = some (.string nm) ∧ u.cell? ⟨w.heap.size, 7, none⟩ = some (.string lg) ∧ u.cell? ⟨w.heap.size, 8, none⟩ = some (.bool wt) ∧ u.cell? ⟨w.heap.size, 9, none⟩ = some (.slice A n c)) (first | exact HS0 | exact HS1 | exact HS2 | exact HSA _) ((first
        | (go_at_call 28
           ((with_reducible refine (made28 ch u0.drew).mono ?_); rintro e u1 ⟨rfl, HB1'⟩)
           have HB1 : Hid (Below u0.heap.size u0 u1) := hid ⟨HB1'.out.os, HB1'.out.tape, HB1'.out.output, HB1'.out.size, HB1'.out.block⟩
           have HX1 := box_p HX0 HB1
           have HBASE1 : base ≤ u1.heap.size := by have := HB1.out.size; omega
           have HS1 : u1.cell? ⟨w.heap.size, 0, none⟩ = some (.int .i64 94) ∧ u1.cell? ⟨w.heap.size, 1, none⟩ = some (.int .u32 ch) ∧ u1.cell? ⟨w.heap.size, 2, none⟩ = some (.int .u32 se) ∧ u1.cell? ⟨w.heap.size, 3, none⟩ = some (.int .u32 wi) ∧ u1.cell? ⟨w.heap.size, 4, none⟩ = some (.int .u32 pa) ∧ u1.cell? ⟨w.heap.size, 5, none⟩ = some (.int .u32 co) ∧ u1.cell? ⟨w.heap.size, 6, none⟩ = some (.string nm) ∧ u1.cell? ⟨w.heap.size, 7, none⟩ = some (.string lg) ∧ u1.cell? ⟨w.heap.size, 8, none⟩ = some (.bool wt) ∧ u1.cell? ⟨w.heap.size, 9, none⟩ = some (.slice A n c) := ⟨HX1.out.cell 0, HX1.out.cell 1, HX1.out.cell 2, HX1.out.cell 3, HX1.out.cell 4, HX1.out.cell 5, HX1.out.cell 6, HX1.out.cell 7, HX1.out.cell 8, HX1.out.cell 9⟩)
        | (go_at_call 29
           ((with_reducible refine (made29 n c A u1).mono ?_); rintro e u2 ⟨rfl, HB2'⟩)
           have HB2 := bel_trans HB1 HB2'
           have HX2 := box_p HX0 HB2
           have HBASE2 : base ≤ u2.heap.size := by have := HB2.out.size; omega
           have HS2 : u2.cell? ⟨w.heap.size, 0, none⟩ = some (.int .i64 94) ∧ u2.cell? ⟨w.heap.size, 1, none⟩ = some (.int .u32 ch) ∧ u2.cell? ⟨w.heap.size, 2, none⟩ = some (.int .u32 se) ∧ u2.cell? ⟨w.heap.size, 3, none⟩ = some (.int .u32 wi) ∧ u2.cell? ⟨w.heap.size, 4, none⟩ = some (.int .u32 pa) ∧ u2.cell? ⟨w.heap.size, 5, none⟩ = some (.int .u32 co) ∧ u2.cell? ⟨w.heap.size, 6, none⟩ = some (.string nm) ∧ u2.cell? ⟨w.heap.size, 7, none⟩ = some (.string lg) ∧ u2.cell? ⟨w.heap.size, 8, none⟩ = some (.bool wt) ∧ u2.cell? ⟨w.heap.size, 9, none⟩ = some (.slice A n c) := ⟨HX2.out.cell 0, HX2.out.cell 1, HX2.out.cell 2, HX2.out.cell 3, HX2.out.cell 4, HX2.out.cell 5, HX2.out.cell 6, HX2.out.cell 7, HX2.out.cell 8, HX2.out.cell 9⟩
           have HSA : ∀ o, (u2.alloc o).cell? ⟨w.heap.size, 0, none⟩ = some (.int .i64 94) ∧ (u2.alloc o).cell? ⟨w.heap.size, 1, none⟩ = some (.int .u32 ch) ∧ (u2.alloc o).cell? ⟨w.heap.size, 2, none⟩ = some (.int .u32 se) ∧ (u2.alloc o).cell? ⟨w.heap.size, 3, none⟩ = some (.int .u32 wi) ∧ (u2.alloc o).cell? ⟨w.heap.size, 4, none⟩ = some (.int .u32 pa) ∧ (u2.alloc o).cell? ⟨w.heap.size, 5, none⟩ = some (.int .u32 co) ∧ (u2.alloc o).cell? ⟨w.heap.size, 6, none⟩ = some (.string nm) ∧ (u2.alloc o).cell? ⟨w.heap.size, 7, none⟩ = some (.string lg) ∧ (u2.alloc o).cell? ⟨w.heap.size, 8, none⟩ = some (.bool wt) ∧ (u2.alloc o).cell? ⟨w.heap.size, 9, none⟩ = some (.slice A n c) := fun o => ⟨(box_a HX2 o).out.cell 0, (box_a HX2 o).out.cell 1, (box_a HX2 o).out.cell 2, (box_a HX2 o).out.cell 3, (box_a HX2 o).out.cell 4, (box_a HX2 o).out.cell 5, (box_a HX2 o).out.cell 6, (box_a HX2 o).out.cell 7, (box_a HX2 o).out.cell 8, (box_a HX2 o).out.cell 9⟩)))
  all_goals
    go_wp2
    go_ret2
    have HDN := (HD.out.below HB0.out).below HB2.out
    have hl := lit_lies u2 #[.int .i64 3, .int .u32 ch, .slice none 0 0, .slice none 0 0, .int .i64 4, .int .u32 0, .slice A n c, .slice none 0 0] 50 (0, 0) u2.heap.size rfl
    subst hn
    exact ⟨HB0.out.trans ((HB2.out.mono (by omega)).trans ((bel1 u2 _).mono (by have := HB2.out.size; omega))), _, rfl, _, hl.more (by simp), ⟨none, 0, _, rfl, rfl, TK.nil_ _ _, ⟨A, c, _, rfl, rfl, tk_alloc HDN _, rfl⟩⟩⟩
set_option maxHeartbeats 4000000 in
set_option maxRecDepth 100000 in
theorem fields20_95 (base ch se wi pa co n n6 n7 nb c : Nat) (nm lg : ByteArray) (wt : Bool) (A : Option Addr) (dt : List UInt8) (w : World) (hn : dt.length = n) (h6 : nm.data.toList.length = n6) (h7 : lg.data.toList.length = n7) (hnb : (if wt then 1 else 0) = nb) (s6 : nm.size ≤ maxLen) (s7 : lg.size ≤ maxLen) (hb : base ≤ w.heap.size) (hd : TK w base A c dt) :
    Calls Tryd.prog 20 #[.agg #[.int .i64 95, .int .u32 ch, .int .u32 se, .int .u32 wi, .int .u32 pa, .int .u32 co, .string nm, .string lg, .bool wt, .slice A n c]] w fun e w' => Hid (Below w.heap.size w w') ∧ ∃ A', e = .returned (.tuple #[.slice A' 3 3, .bool true]) ∧ Hid (∃ cs, Lies w' w'.heap.size A' cs ∧ FlatK w' base [⟨3, ch, [], []⟩, ⟨3, co, [], []⟩, ⟨4, 0, dt, []⟩] cs) := by
  have HD := hid hd
  have HNB := hid hnb
  clear hd
  have HX0 : Hid (Box (w.alloc (.cells #[.int .i64 95, .int .u32 ch, .int .u32 se, .int .u32 wi, .int .u32 pa, .int .u32 co, .string nm, .string lg, .bool wt, .slice A n c] 25)) w.heap.size 25 #[.int .i64 95, .int .u32 ch, .int .u32 se, .int .u32 wi, .int .u32 pa, .int .u32 co, .string nm, .string lg, .bool wt, .slice A n c]) := hid (Box.new w 25 _)
  have HB0 : Hid (Below w.heap.size w (w.alloc (.cells #[.int .i64 95, .int .u32 ch, .int .u32 se, .int .u32 wi, .int .u32 pa, .int .u32 co, .string nm, .string lg, .bool wt, .slice A n c] 25))) := bel1 w _
  have HZ0 : (w.alloc (.cells #[.int .i64 95, .int .u32 ch, .int .u32 se, .int .u32 wi, .int .u32 pa, .int .u32 co, .string nm, .string lg, .bool wt, .slice A n c] 25)).heap.size = w.heap.size + 1 := by simp
  have HBASE0 : base ≤ (w.alloc (.cells #[.int .i64 95, .int .u32 ch, .int .u32 se, .int .u32 wi, .int .u32 pa, .int .u32 co, .string nm, .string lg, .bool wt, .slice A n c] 25)).drew.heap.size := by show base ≤ (w.alloc (.cells #[.int .i64 95, .int .u32 ch, .int .u32 se, .int .u32 wi, .int .u32 pa, .int .u32 co, .string nm, .string lg, .bool wt, .slice A n c] 25)).heap.size; omega
  go_enter Tryd.func20, Tryd.ntmps20
  go_wp2
  generalize hW : w.alloc _ = u0 at HX0 HB0 HZ0 HBASE0
  have HW := hid hW
  clear hW
  have HS0 : u0.cell? ⟨w.heap.size, 0, none⟩ = some (.int .i64 95) ∧ u0.cell? ⟨w.heap.size, 1, none⟩ = some (.int .u32 ch) ∧ u0.cell? ⟨w.heap.size, 2, none⟩ = some (.int .u32 se) ∧ u0.cell? ⟨w.heap.size, 3, none⟩ = some (.int .u32 wi) ∧ u0.cell? ⟨w.heap.size, 4, none⟩ = some (.int .u32 pa) ∧ u0.cell? ⟨w.heap.size, 5, none⟩ = some (.int .u32 co) ∧ u0.cell? ⟨w.heap.size, 6, none⟩ = some (.string nm) ∧ u0.cell? ⟨w.heap.size, 7, none⟩ = some (.string lg) ∧ u0.cell? ⟨w.heap.size, 8, none⟩ = some (.bool wt) ∧ u0.cell? ⟨w.heap.size, 9, none⟩ = some (.slice A n c) := ⟨HX0.out.cell 0, HX0.out.cell 1, HX0.out.cell 2, HX0.out.cell 3, HX0.out.cell 4, HX0.out.cell 5, HX0.out.cell 6, HX0.out.cell 7, HX0.out.cell 8, HX0.out.cell 9⟩
  go_region_held3 (fun u => u.cell? ⟨w.heap.size, 0, none⟩ = some (.int .i64 95) ∧ u.cell? ⟨w.heap.size, 1, none⟩ = some (.int .u32 ch) ∧ u.cell? ⟨w.heap.size, 2, none⟩ = some (.int .u32 se) ∧ u.cell? ⟨w.heap.size, 3, none⟩ = some (.int .u32 wi) ∧ u.cell? ⟨w.heap.size, 4, none⟩ = some (.int .u32 pa) ∧ u.cell? ⟨w.heap.size, 5, none⟩ = some (.int .u32 co) ∧ u.cell? ⟨w.heap.size, 6, none⟩ = some (.string nm) ∧ u.cell? ⟨w.heap.size, 7, none⟩ = some (.string lg) ∧ u.cell? ⟨w.heap.size, 8, none⟩ = some (.bool wt) ∧ u.cell? ⟨w.heap.size, 9, none⟩ = some (.slice A n c)) (first | exact HS0 | exact HS1 | exact HS2 | exact HS3 | exact HSA _) ((first
        | (go_at_call 28
           ((with_reducible refine (made28 ch u0.drew).mono ?_); rintro e u1 ⟨rfl, HB1'⟩)
           have HB1 : Hid (Below u0.heap.size u0 u1) := hid ⟨HB1'.out.os, HB1'.out.tape, HB1'.out.output, HB1'.out.size, HB1'.out.block⟩
           have HX1 := box_p HX0 HB1
           have HBASE1 : base ≤ u1.heap.size := by have := HB1.out.size; omega
           have HS1 : u1.cell? ⟨w.heap.size, 0, none⟩ = some (.int .i64 95) ∧ u1.cell? ⟨w.heap.size, 1, none⟩ = some (.int .u32 ch) ∧ u1.cell? ⟨w.heap.size, 2, none⟩ = some (.int .u32 se) ∧ u1.cell? ⟨w.heap.size, 3, none⟩ = some (.int .u32 wi) ∧ u1.cell? ⟨w.heap.size, 4, none⟩ = some (.int .u32 pa) ∧ u1.cell? ⟨w.heap.size, 5, none⟩ = some (.int .u32 co) ∧ u1.cell? ⟨w.heap.size, 6, none⟩ = some (.string nm) ∧ u1.cell? ⟨w.heap.size, 7, none⟩ = some (.string lg) ∧ u1.cell? ⟨w.heap.size, 8, none⟩ = some (.bool wt) ∧ u1.cell? ⟨w.heap.size, 9, none⟩ = some (.slice A n c) := ⟨HX1.out.cell 0, HX1.out.cell 1, HX1.out.cell 2, HX1.out.cell 3, HX1.out.cell 4, HX1.out.cell 5, HX1.out.cell 6, HX1.out.cell 7, HX1.out.cell 8, HX1.out.cell 9⟩)
        | (go_at_call 28
           ((with_reducible refine (made28 co u1).mono ?_); rintro e u2 ⟨rfl, HB2'⟩)
           have HB2 := bel_trans HB1 HB2'
           have HX2 := box_p HX0 HB2
           have HBASE2 : base ≤ u2.heap.size := by have := HB2.out.size; omega
           have HS2 : u2.cell? ⟨w.heap.size, 0, none⟩ = some (.int .i64 95) ∧ u2.cell? ⟨w.heap.size, 1, none⟩ = some (.int .u32 ch) ∧ u2.cell? ⟨w.heap.size, 2, none⟩ = some (.int .u32 se) ∧ u2.cell? ⟨w.heap.size, 3, none⟩ = some (.int .u32 wi) ∧ u2.cell? ⟨w.heap.size, 4, none⟩ = some (.int .u32 pa) ∧ u2.cell? ⟨w.heap.size, 5, none⟩ = some (.int .u32 co) ∧ u2.cell? ⟨w.heap.size, 6, none⟩ = some (.string nm) ∧ u2.cell? ⟨w.heap.size, 7, none⟩ = some (.string lg) ∧ u2.cell? ⟨w.heap.size, 8, none⟩ = some (.bool wt) ∧ u2.cell? ⟨w.heap.size, 9, none⟩ = some (.slice A n c) := ⟨HX2.out.cell 0, HX2.out.cell 1, HX2.out.cell 2, HX2.out.cell 3, HX2.out.cell 4, HX2.out.cell 5, HX2.out.cell 6, HX2.out.cell 7, HX2.out.cell 8, HX2.out.cell 9⟩)
        | (go_at_call 29
           ((with_reducible refine (made29 n c A u2).mono ?_); rintro e u3 ⟨rfl, HB3'⟩)
           have HB3 := bel_trans HB2 HB3'
           have HX3 := box_p HX0 HB3
           have HBASE3 : base ≤ u3.heap.size := by have := HB3.out.size; omega
           have HS3 : u3.cell? ⟨w.heap.size, 0, none⟩ = some (.int .i64 95) ∧ u3.cell? ⟨w.heap.size, 1, none⟩ = some (.int .u32 ch) ∧ u3.cell? ⟨w.heap.size, 2, none⟩ = some (.int .u32 se) ∧ u3.cell? ⟨w.heap.size, 3, none⟩ = some (.int .u32 wi) ∧ u3.cell? ⟨w.heap.size, 4, none⟩ = some (.int .u32 pa) ∧ u3.cell? ⟨w.heap.size, 5, none⟩ = some (.int .u32 co) ∧ u3.cell? ⟨w.heap.size, 6, none⟩ = some (.string nm) ∧ u3.cell? ⟨w.heap.size, 7, none⟩ = some (.string lg) ∧ u3.cell? ⟨w.heap.size, 8, none⟩ = some (.bool wt) ∧ u3.cell? ⟨w.heap.size, 9, none⟩ = some (.slice A n c) := ⟨HX3.out.cell 0, HX3.out.cell 1, HX3.out.cell 2, HX3.out.cell 3, HX3.out.cell 4, HX3.out.cell 5, HX3.out.cell 6, HX3.out.cell 7, HX3.out.cell 8, HX3.out.cell 9⟩
           have HSA : ∀ o, (u3.alloc o).cell? ⟨w.heap.size, 0, none⟩ = some (.int .i64 95) ∧ (u3.alloc o).cell? ⟨w.heap.size, 1, none⟩ = some (.int .u32 ch) ∧ (u3.alloc o).cell? ⟨w.heap.size, 2, none⟩ = some (.int .u32 se) ∧ (u3.alloc o).cell? ⟨w.heap.size, 3, none⟩ = some (.int .u32 wi) ∧ (u3.alloc o).cell? ⟨w.heap.size, 4, none⟩ = some (.int .u32 pa) ∧ (u3.alloc o).cell? ⟨w.heap.size, 5, none⟩ = some (.int .u32 co) ∧ (u3.alloc o).cell? ⟨w.heap.size, 6, none⟩ = some (.string nm) ∧ (u3.alloc o).cell? ⟨w.heap.size, 7, none⟩ = some (.string lg) ∧ (u3.alloc o).cell? ⟨w.heap.size, 8, none⟩ = some (.bool wt) ∧ (u3.alloc o).cell? ⟨w.heap.size, 9, none⟩ = some (.slice A n c) := fun o => ⟨(box_a HX3 o).out.cell 0, (box_a HX3 o).out.cell 1, (box_a HX3 o).out.cell 2, (box_a HX3 o).out.cell 3, (box_a HX3 o).out.cell 4, (box_a HX3 o).out.cell 5, (box_a HX3 o).out.cell 6, (box_a HX3 o).out.cell 7, (box_a HX3 o).out.cell 8, (box_a HX3 o).out.cell 9⟩)))
  all_goals
    go_wp2
    go_ret2
    have HDN := (HD.out.below HB0.out).below HB3.out
    have hl := lit_lies u3 #[.int .i64 3, .int .u32 ch, .slice none 0 0, .slice none 0 0, .int .i64 3, .int .u32 co, .slice none 0 0, .slice none 0 0, .int .i64 4, .int .u32 0, .slice A n c, .slice none 0 0] 50 (0, 0) u3.heap.size rfl
    subst hn
    exact ⟨HB0.out.trans ((HB3.out.mono (by omega)).trans ((bel1 u3 _).mono (by have := HB3.out.size; omega))), _, rfl, _, hl.more (by simp), ⟨none, 0, _, rfl, rfl, TK.nil_ _ _, ⟨none, 0, _, rfl, rfl, TK.nil_ _ _, ⟨A, c, _, rfl, rfl, tk_alloc HDN _, rfl⟩⟩⟩⟩
set_option maxHeartbeats 4000000 in
set_option maxRecDepth 100000 in
theorem fields20_96 (base ch se wi pa co n n6 n7 nb c : Nat) (nm lg : ByteArray) (wt : Bool) (A : Option Addr) (dt : List UInt8) (w : World) (hn : dt.length = n) (h6 : nm.data.toList.length = n6) (h7 : lg.data.toList.length = n7) (hnb : (if wt then 1 else 0) = nb) (s6 : nm.size ≤ maxLen) (s7 : lg.size ≤ maxLen) (hb : base ≤ w.heap.size) (hd : TK w base A c dt) :
    Calls Tryd.prog 20 #[.agg #[.int .i64 96, .int .u32 ch, .int .u32 se, .int .u32 wi, .int .u32 pa, .int .u32 co, .string nm, .string lg, .bool wt, .slice A n c]] w fun e w' => Hid (Below w.heap.size w w') ∧ ∃ A', e = .returned (.tuple #[.slice A' 1 1, .bool true]) ∧ Hid (∃ cs, Lies w' w'.heap.size A' cs ∧ FlatK w' base [⟨3, ch, [], []⟩] cs) := by
  have HD := hid hd
  have HNB := hid hnb
  clear hd
  have HX0 : Hid (Box (w.alloc (.cells #[.int .i64 96, .int .u32 ch, .int .u32 se, .int .u32 wi, .int .u32 pa, .int .u32 co, .string nm, .string lg, .bool wt, .slice A n c] 25)) w.heap.size 25 #[.int .i64 96, .int .u32 ch, .int .u32 se, .int .u32 wi, .int .u32 pa, .int .u32 co, .string nm, .string lg, .bool wt, .slice A n c]) := hid (Box.new w 25 _)
  have HB0 : Hid (Below w.heap.size w (w.alloc (.cells #[.int .i64 96, .int .u32 ch, .int .u32 se, .int .u32 wi, .int .u32 pa, .int .u32 co, .string nm, .string lg, .bool wt, .slice A n c] 25))) := bel1 w _
  have HZ0 : (w.alloc (.cells #[.int .i64 96, .int .u32 ch, .int .u32 se, .int .u32 wi, .int .u32 pa, .int .u32 co, .string nm, .string lg, .bool wt, .slice A n c] 25)).heap.size = w.heap.size + 1 := by simp
  go_enter Tryd.func20, Tryd.ntmps20
  go_wp2_with (go_at_call 28
               ((with_reducible refine (made28 ch (w.alloc (.cells #[.int .i64 96, .int .u32 ch, .int .u32 se, .int .u32 wi, .int .u32 pa, .int .u32 co, .string nm, .string lg, .bool wt, .slice A n c] 25))).mono ?_); rintro e u1 ⟨rfl, HB1'⟩))
  go_ret2
  have HT := (HD.out.below (bel1 w (.cells #[.int .i64 96, .int .u32 ch, .int .u32 se, .int .u32 wi, .int .u32 pa, .int .u32 co, .string nm, .string lg, .bool wt, .slice A n c] 25))).below HB1'.out
  have hl := lit_lies u1 #[.int .i64 3, .int .u32 ch, .slice none 0 0, .slice none 0 0] 50 (0, 0) u1.heap.size rfl
  exact ⟨(bel1 w _).trans ((HB1'.out.mono (by simp)).trans ((bel1 u1 _).mono (by have := HB1'.out.size; simp at this; omega))), _, rfl, _, hl.more (by simp), ⟨none, 0, [], rfl, rfl, TK.nil_ _ _, rfl⟩⟩
set_option maxHeartbeats 4000000 in
set_option maxRecDepth 100000 in
theorem fields20_97 (base ch se wi pa co n n6 n7 nb c : Nat) (nm lg : ByteArray) (wt : Bool) (A : Option Addr) (dt : List UInt8) (w : World) (hn : dt.length = n) (h6 : nm.data.toList.length = n6) (h7 : lg.data.toList.length = n7) (hnb : (if wt then 1 else 0) = nb) (s6 : nm.size ≤ maxLen) (s7 : lg.size ≤ maxLen) (hb : base ≤ w.heap.size) (hd : TK w base A c dt) :
    Calls Tryd.prog 20 #[.agg #[.int .i64 97, .int .u32 ch, .int .u32 se, .int .u32 wi, .int .u32 pa, .int .u32 co, .string nm, .string lg, .bool wt, .slice A n c]] w fun e w' => Hid (Below w.heap.size w w') ∧ ∃ A', e = .returned (.tuple #[.slice A' 1 1, .bool true]) ∧ Hid (∃ cs, Lies w' w'.heap.size A' cs ∧ FlatK w' base [⟨3, ch, [], []⟩] cs) := by
  have HD := hid hd
  have HNB := hid hnb
  clear hd
  have HX0 : Hid (Box (w.alloc (.cells #[.int .i64 97, .int .u32 ch, .int .u32 se, .int .u32 wi, .int .u32 pa, .int .u32 co, .string nm, .string lg, .bool wt, .slice A n c] 25)) w.heap.size 25 #[.int .i64 97, .int .u32 ch, .int .u32 se, .int .u32 wi, .int .u32 pa, .int .u32 co, .string nm, .string lg, .bool wt, .slice A n c]) := hid (Box.new w 25 _)
  have HB0 : Hid (Below w.heap.size w (w.alloc (.cells #[.int .i64 97, .int .u32 ch, .int .u32 se, .int .u32 wi, .int .u32 pa, .int .u32 co, .string nm, .string lg, .bool wt, .slice A n c] 25))) := bel1 w _
  have HZ0 : (w.alloc (.cells #[.int .i64 97, .int .u32 ch, .int .u32 se, .int .u32 wi, .int .u32 pa, .int .u32 co, .string nm, .string lg, .bool wt, .slice A n c] 25)).heap.size = w.heap.size + 1 := by simp
  go_enter Tryd.func20, Tryd.ntmps20
  go_wp2_with (go_at_call 28
               ((with_reducible refine (made28 ch (w.alloc (.cells #[.int .i64 97, .int .u32 ch, .int .u32 se, .int .u32 wi, .int .u32 pa, .int .u32 co, .string nm, .string lg, .bool wt, .slice A n c] 25))).mono ?_); rintro e u1 ⟨rfl, HB1'⟩))
  go_ret2
  have HT := (HD.out.below (bel1 w (.cells #[.int .i64 97, .int .u32 ch, .int .u32 se, .int .u32 wi, .int .u32 pa, .int .u32 co, .string nm, .string lg, .bool wt, .slice A n c] 25))).below HB1'.out
  have hl := lit_lies u1 #[.int .i64 3, .int .u32 ch, .slice none 0 0, .slice none 0 0] 50 (0, 0) u1.heap.size rfl
  exact ⟨(bel1 w _).trans ((HB1'.out.mono (by simp)).trans ((bel1 u1 _).mono (by have := HB1'.out.size; simp at this; omega))), _, rfl, _, hl.more (by simp), ⟨none, 0, [], rfl, rfl, TK.nil_ _ _, rfl⟩⟩
set_option maxHeartbeats 4000000 in
set_option maxRecDepth 100000 in
theorem fields20_98true (base ch se wi pa co n n6 n7 c : Nat) (nm lg : ByteArray) (A : Option Addr) (dt : List UInt8) (w : World) (hn : dt.length = n) (h6 : nm.data.toList.length = n6) (h7 : lg.data.toList.length = n7) (s6 : nm.size ≤ maxLen) (s7 : lg.size ≤ maxLen) (hb : base ≤ w.heap.size) (hd : TK w base A c dt) :
    Calls Tryd.prog 20 #[.agg #[.int .i64 98, .int .u32 ch, .int .u32 se, .int .u32 wi, .int .u32 pa, .int .u32 co, .string nm, .string lg, .bool true, .slice A n c]] w fun e w' => Hid (Below w.heap.size w w') ∧ ∃ A', e = .returned (.tuple #[.slice A' 4 4, .bool true]) ∧ Hid (∃ cs, Lies w' w'.heap.size A' cs ∧ FlatK w' base [⟨3, ch, [], []⟩, ⟨4, 0, nm.data.toList, []⟩, ⟨2, if true then 1 else 0, [], []⟩, ⟨6, 0, dt, []⟩] cs) := by
  have HD := hid hd
  clear hd
  have HX0 : Hid (Box (w.alloc (.cells #[.int .i64 98, .int .u32 ch, .int .u32 se, .int .u32 wi, .int .u32 pa, .int .u32 co, .string nm, .string lg, .bool true, .slice A n c] 25)) w.heap.size 25 #[.int .i64 98, .int .u32 ch, .int .u32 se, .int .u32 wi, .int .u32 pa, .int .u32 co, .string nm, .string lg, .bool true, .slice A n c]) := hid (Box.new w 25 _)
  have HB0 : Hid (Below w.heap.size w (w.alloc (.cells #[.int .i64 98, .int .u32 ch, .int .u32 se, .int .u32 wi, .int .u32 pa, .int .u32 co, .string nm, .string lg, .bool true, .slice A n c] 25))) := bel1 w _
  have HZ0 : (w.alloc (.cells #[.int .i64 98, .int .u32 ch, .int .u32 se, .int .u32 wi, .int .u32 pa, .int .u32 co, .string nm, .string lg, .bool true, .slice A n c] 25)).heap.size = w.heap.size + 1 := by simp
  have HBASE0 : base ≤ (w.alloc (.cells #[.int .i64 98, .int .u32 ch, .int .u32 se, .int .u32 wi, .int .u32 pa, .int .u32 co, .string nm, .string lg, .bool true, .slice A n c] 25)).drew.heap.size := by show base ≤ (w.alloc (.cells #[.int .i64 98, .int .u32 ch, .int .u32 se, .int .u32 wi, .int .u32 pa, .int .u32 co, .string nm, .string lg, .bool true, .slice A n c] 25)).heap.size; omega
  go_enter Tryd.func20, Tryd.ntmps20
  go_wp2
  generalize hW : w.alloc _ = u0 at HX0 HB0 HZ0 HBASE0
  have HW := hid hW
  clear hW
  have HS0 : u0.cell? ⟨w.heap.size, 0, none⟩ = some (.int .i64 98) ∧ u0.cell? ⟨w.heap.size, 1, none⟩ = some (.int .u32 ch) ∧ u0.cell? ⟨w.heap.size, 2, none⟩ = some (.int .u32 se) ∧ u0.cell? ⟨w.heap.size, 3, none⟩ = some (.int .u32 wi) ∧ u0.cell? ⟨w.heap.size, 4, none⟩ = some (.int .u32 pa) ∧ u0.cell? ⟨w.heap.size, 5, none⟩ = some (.int .u32 co) ∧ u0.cell? ⟨w.heap.size, 6, none⟩ = some (.string nm) ∧ u0.cell? ⟨w.heap.size, 7, none⟩ = some (.string lg) ∧ u0.cell? ⟨w.heap.size, 8, none⟩ = some (.bool true) ∧ u0.cell? ⟨w.heap.size, 9, none⟩ = some (.slice A n c) := ⟨HX0.out.cell 0, HX0.out.cell 1, HX0.out.cell 2, HX0.out.cell 3, HX0.out.cell 4, HX0.out.cell 5, HX0.out.cell 6, HX0.out.cell 7, HX0.out.cell 8, HX0.out.cell 9⟩
  go_region_held3 (fun u => u.cell? ⟨w.heap.size, 0, none⟩ = some (.int .i64 98) ∧ u.cell? ⟨w.heap.size, 1, none⟩ = some (.int .u32 ch) ∧ u.cell? ⟨w.heap.size, 2, none⟩ = some (.int .u32 se) ∧ u.cell? ⟨w.heap.size, 3, none⟩ = some (.int .u32 wi) ∧ u.cell? ⟨w.heap.size, 4, none⟩ = some (.int .u32 pa) ∧ u.cell? ⟨w.heap.size, 5, none⟩ = some (.int .u32 co) ∧ u.cell? ⟨w.heap.size, 6, none⟩ = some (.string nm) ∧ u.cell? ⟨w.heap.size, 7, none⟩ = some (.string lg) ∧ u.cell? ⟨w.heap.size, 8, none⟩ = some (.bool true) ∧ u.cell? ⟨w.heap.size, 9, none⟩ = some (.slice A n c)) (first | exact HS0 | exact HS1 | exact HS2 | exact HS3 | exact HS4 | exact HSA _) ((first
        | (go_at_call 28
           ((with_reducible refine (made28 ch u0.drew).mono ?_); rintro e u1 ⟨rfl, HB1'⟩)
           have HB1 : Hid (Below u0.heap.size u0 u1) := hid ⟨HB1'.out.os, HB1'.out.tape, HB1'.out.output, HB1'.out.size, HB1'.out.block⟩
           have HX1 := box_p HX0 HB1
           have HBASE1 : base ≤ u1.heap.size := by have := HB1.out.size; omega
           have HS1 : u1.cell? ⟨w.heap.size, 0, none⟩ = some (.int .i64 98) ∧ u1.cell? ⟨w.heap.size, 1, none⟩ = some (.int .u32 ch) ∧ u1.cell? ⟨w.heap.size, 2, none⟩ = some (.int .u32 se) ∧ u1.cell? ⟨w.heap.size, 3, none⟩ = some (.int .u32 wi) ∧ u1.cell? ⟨w.heap.size, 4, none⟩ = some (.int .u32 pa) ∧ u1.cell? ⟨w.heap.size, 5, none⟩ = some (.int .u32 co) ∧ u1.cell? ⟨w.heap.size, 6, none⟩ = some (.string nm) ∧ u1.cell? ⟨w.heap.size, 7, none⟩ = some (.string lg) ∧ u1.cell? ⟨w.heap.size, 8, none⟩ = some (.bool true) ∧ u1.cell? ⟨w.heap.size, 9, none⟩ = some (.slice A n c) := ⟨HX1.out.cell 0, HX1.out.cell 1, HX1.out.cell 2, HX1.out.cell 3, HX1.out.cell 4, HX1.out.cell 5, HX1.out.cell 6, HX1.out.cell 7, HX1.out.cell 8, HX1.out.cell 9⟩)
        | (go_at_call 30
           ((with_reducible refine (made30 base n6 nm u1 h6 s6 HBASE1).mono ?_); rintro e u2 ⟨tA2, tc2, rfl, HB2', HT2⟩)
           have HB2 := bel_trans HB1 HB2'
           have HX2 := box_p HX0 HB2
           have HBASE2 : base ≤ u2.heap.size := by have := HB2.out.size; omega
           have HS2 : u2.cell? ⟨w.heap.size, 0, none⟩ = some (.int .i64 98) ∧ u2.cell? ⟨w.heap.size, 1, none⟩ = some (.int .u32 ch) ∧ u2.cell? ⟨w.heap.size, 2, none⟩ = some (.int .u32 se) ∧ u2.cell? ⟨w.heap.size, 3, none⟩ = some (.int .u32 wi) ∧ u2.cell? ⟨w.heap.size, 4, none⟩ = some (.int .u32 pa) ∧ u2.cell? ⟨w.heap.size, 5, none⟩ = some (.int .u32 co) ∧ u2.cell? ⟨w.heap.size, 6, none⟩ = some (.string nm) ∧ u2.cell? ⟨w.heap.size, 7, none⟩ = some (.string lg) ∧ u2.cell? ⟨w.heap.size, 8, none⟩ = some (.bool true) ∧ u2.cell? ⟨w.heap.size, 9, none⟩ = some (.slice A n c) := ⟨HX2.out.cell 0, HX2.out.cell 1, HX2.out.cell 2, HX2.out.cell 3, HX2.out.cell 4, HX2.out.cell 5, HX2.out.cell 6, HX2.out.cell 7, HX2.out.cell 8, HX2.out.cell 9⟩)
        | (go_at_call 31
           ((with_reducible refine (made31 true 1 rfl u2).mono ?_); rintro e u3 ⟨rfl, HB3'⟩)
           have HB3 := bel_trans HB2 HB3'
           have HX3 := box_p HX0 HB3
           have HBASE3 : base ≤ u3.heap.size := by have := HB3.out.size; omega
           have HS3 : u3.cell? ⟨w.heap.size, 0, none⟩ = some (.int .i64 98) ∧ u3.cell? ⟨w.heap.size, 1, none⟩ = some (.int .u32 ch) ∧ u3.cell? ⟨w.heap.size, 2, none⟩ = some (.int .u32 se) ∧ u3.cell? ⟨w.heap.size, 3, none⟩ = some (.int .u32 wi) ∧ u3.cell? ⟨w.heap.size, 4, none⟩ = some (.int .u32 pa) ∧ u3.cell? ⟨w.heap.size, 5, none⟩ = some (.int .u32 co) ∧ u3.cell? ⟨w.heap.size, 6, none⟩ = some (.string nm) ∧ u3.cell? ⟨w.heap.size, 7, none⟩ = some (.string lg) ∧ u3.cell? ⟨w.heap.size, 8, none⟩ = some (.bool true) ∧ u3.cell? ⟨w.heap.size, 9, none⟩ = some (.slice A n c) := ⟨HX3.out.cell 0, HX3.out.cell 1, HX3.out.cell 2, HX3.out.cell 3, HX3.out.cell 4, HX3.out.cell 5, HX3.out.cell 6, HX3.out.cell 7, HX3.out.cell 8, HX3.out.cell 9⟩)
        | (go_at_call 32
           ((with_reducible refine (made32 n c A u3).mono ?_); rintro e u4 ⟨rfl, HB4'⟩)
           have HB4 := bel_trans HB3 HB4'
           have HX4 := box_p HX0 HB4
           have HBASE4 : base ≤ u4.heap.size := by have := HB4.out.size; omega
           have HS4 : u4.cell? ⟨w.heap.size, 0, none⟩ = some (.int .i64 98) ∧ u4.cell? ⟨w.heap.size, 1, none⟩ = some (.int .u32 ch) ∧ u4.cell? ⟨w.heap.size, 2, none⟩ = some (.int .u32 se) ∧ u4.cell? ⟨w.heap.size, 3, none⟩ = some (.int .u32 wi) ∧ u4.cell? ⟨w.heap.size, 4, none⟩ = some (.int .u32 pa) ∧ u4.cell? ⟨w.heap.size, 5, none⟩ = some (.int .u32 co) ∧ u4.cell? ⟨w.heap.size, 6, none⟩ = some (.string nm) ∧ u4.cell? ⟨w.heap.size, 7, none⟩ = some (.string lg) ∧ u4.cell? ⟨w.heap.size, 8, none⟩ = some (.bool true) ∧ u4.cell? ⟨w.heap.size, 9, none⟩ = some (.slice A n c) := ⟨HX4.out.cell 0, HX4.out.cell 1, HX4.out.cell 2, HX4.out.cell 3, HX4.out.cell 4, HX4.out.cell 5, HX4.out.cell 6, HX4.out.cell 7, HX4.out.cell 8, HX4.out.cell 9⟩
           have HSA : ∀ o, (u4.alloc o).cell? ⟨w.heap.size, 0, none⟩ = some (.int .i64 98) ∧ (u4.alloc o).cell? ⟨w.heap.size, 1, none⟩ = some (.int .u32 ch) ∧ (u4.alloc o).cell? ⟨w.heap.size, 2, none⟩ = some (.int .u32 se) ∧ (u4.alloc o).cell? ⟨w.heap.size, 3, none⟩ = some (.int .u32 wi) ∧ (u4.alloc o).cell? ⟨w.heap.size, 4, none⟩ = some (.int .u32 pa) ∧ (u4.alloc o).cell? ⟨w.heap.size, 5, none⟩ = some (.int .u32 co) ∧ (u4.alloc o).cell? ⟨w.heap.size, 6, none⟩ = some (.string nm) ∧ (u4.alloc o).cell? ⟨w.heap.size, 7, none⟩ = some (.string lg) ∧ (u4.alloc o).cell? ⟨w.heap.size, 8, none⟩ = some (.bool true) ∧ (u4.alloc o).cell? ⟨w.heap.size, 9, none⟩ = some (.slice A n c) := fun o => ⟨(box_a HX4 o).out.cell 0, (box_a HX4 o).out.cell 1, (box_a HX4 o).out.cell 2, (box_a HX4 o).out.cell 3, (box_a HX4 o).out.cell 4, (box_a HX4 o).out.cell 5, (box_a HX4 o).out.cell 6, (box_a HX4 o).out.cell 7, (box_a HX4 o).out.cell 8, (box_a HX4 o).out.cell 9⟩)))
  all_goals
    go_wp2
    go_ret2
    have HDN := (HD.out.below HB0.out).below HB4.out
    have HT2N := ((HT2.out).below HB3'.out).below HB4'.out
    have hl := lit_lies u4 #[.int .i64 3, .int .u32 ch, .slice none 0 0, .slice none 0 0, .int .i64 4, .int .u32 0, .slice tA2 n6 tc2, .slice none 0 0, .int .i64 2, .int .u32 1, .slice none 0 0, .slice none 0 0, .int .i64 6, .int .u32 0, .slice A n c, .slice none 0 0] 50 (0, 0) u4.heap.size rfl
    subst h6
    subst hn
    exact ⟨HB0.out.trans ((HB4.out.mono (by omega)).trans ((bel1 u4 _).mono (by have := HB4.out.size; omega))), _, rfl, _, hl.more (by simp), ⟨none, 0, _, rfl, rfl, TK.nil_ _ _, ⟨tA2, tc2, _, rfl, rfl, tk_alloc HT2N _, ⟨none, 0, _, rfl, rfl, TK.nil_ _ _, ⟨A, c, _, rfl, rfl, tk_alloc HDN _, rfl⟩⟩⟩⟩⟩
set_option maxHeartbeats 4000000 in
set_option maxRecDepth 100000 in
theorem fields20_98false (base ch se wi pa co n n6 n7 c : Nat) (nm lg : ByteArray) (A : Option Addr) (dt : List UInt8) (w : World) (hn : dt.length = n) (h6 : nm.data.toList.length = n6) (h7 : lg.data.toList.length = n7) (s6 : nm.size ≤ maxLen) (s7 : lg.size ≤ maxLen) (hb : base ≤ w.heap.size) (hd : TK w base A c dt) :
    Calls Tryd.prog 20 #[.agg #[.int .i64 98, .int .u32 ch, .int .u32 se, .int .u32 wi, .int .u32 pa, .int .u32 co, .string nm, .string lg, .bool false, .slice A n c]] w fun e w' => Hid (Below w.heap.size w w') ∧ ∃ A', e = .returned (.tuple #[.slice A' 4 4, .bool true]) ∧ Hid (∃ cs, Lies w' w'.heap.size A' cs ∧ FlatK w' base [⟨3, ch, [], []⟩, ⟨4, 0, nm.data.toList, []⟩, ⟨2, if false then 1 else 0, [], []⟩, ⟨6, 0, dt, []⟩] cs) := by
  have HD := hid hd
  clear hd
  have HX0 : Hid (Box (w.alloc (.cells #[.int .i64 98, .int .u32 ch, .int .u32 se, .int .u32 wi, .int .u32 pa, .int .u32 co, .string nm, .string lg, .bool false, .slice A n c] 25)) w.heap.size 25 #[.int .i64 98, .int .u32 ch, .int .u32 se, .int .u32 wi, .int .u32 pa, .int .u32 co, .string nm, .string lg, .bool false, .slice A n c]) := hid (Box.new w 25 _)
  have HB0 : Hid (Below w.heap.size w (w.alloc (.cells #[.int .i64 98, .int .u32 ch, .int .u32 se, .int .u32 wi, .int .u32 pa, .int .u32 co, .string nm, .string lg, .bool false, .slice A n c] 25))) := bel1 w _
  have HZ0 : (w.alloc (.cells #[.int .i64 98, .int .u32 ch, .int .u32 se, .int .u32 wi, .int .u32 pa, .int .u32 co, .string nm, .string lg, .bool false, .slice A n c] 25)).heap.size = w.heap.size + 1 := by simp
  have HBASE0 : base ≤ (w.alloc (.cells #[.int .i64 98, .int .u32 ch, .int .u32 se, .int .u32 wi, .int .u32 pa, .int .u32 co, .string nm, .string lg, .bool false, .slice A n c] 25)).drew.heap.size := by show base ≤ (w.alloc (.cells #[.int .i64 98, .int .u32 ch, .int .u32 se, .int .u32 wi, .int .u32 pa, .int .u32 co, .string nm, .string lg, .bool false, .slice A n c] 25)).heap.size; omega
  go_enter Tryd.func20, Tryd.ntmps20
  go_wp2
  generalize hW : w.alloc _ = u0 at HX0 HB0 HZ0 HBASE0
  have HW := hid hW
  clear hW
  have HS0 : u0.cell? ⟨w.heap.size, 0, none⟩ = some (.int .i64 98) ∧ u0.cell? ⟨w.heap.size, 1, none⟩ = some (.int .u32 ch) ∧ u0.cell? ⟨w.heap.size, 2, none⟩ = some (.int .u32 se) ∧ u0.cell? ⟨w.heap.size, 3, none⟩ = some (.int .u32 wi) ∧ u0.cell? ⟨w.heap.size, 4, none⟩ = some (.int .u32 pa) ∧ u0.cell? ⟨w.heap.size, 5, none⟩ = some (.int .u32 co) ∧ u0.cell? ⟨w.heap.size, 6, none⟩ = some (.string nm) ∧ u0.cell? ⟨w.heap.size, 7, none⟩ = some (.string lg) ∧ u0.cell? ⟨w.heap.size, 8, none⟩ = some (.bool false) ∧ u0.cell? ⟨w.heap.size, 9, none⟩ = some (.slice A n c) := ⟨HX0.out.cell 0, HX0.out.cell 1, HX0.out.cell 2, HX0.out.cell 3, HX0.out.cell 4, HX0.out.cell 5, HX0.out.cell 6, HX0.out.cell 7, HX0.out.cell 8, HX0.out.cell 9⟩
  go_region_held3 (fun u => u.cell? ⟨w.heap.size, 0, none⟩ = some (.int .i64 98) ∧ u.cell? ⟨w.heap.size, 1, none⟩ = some (.int .u32 ch) ∧ u.cell? ⟨w.heap.size, 2, none⟩ = some (.int .u32 se) ∧ u.cell? ⟨w.heap.size, 3, none⟩ = some (.int .u32 wi) ∧ u.cell? ⟨w.heap.size, 4, none⟩ = some (.int .u32 pa) ∧ u.cell? ⟨w.heap.size, 5, none⟩ = some (.int .u32 co) ∧ u.cell? ⟨w.heap.size, 6, none⟩ = some (.string nm) ∧ u.cell? ⟨w.heap.size, 7, none⟩ = some (.string lg) ∧ u.cell? ⟨w.heap.size, 8, none⟩ = some (.bool false) ∧ u.cell? ⟨w.heap.size, 9, none⟩ = some (.slice A n c)) (first | exact HS0 | exact HS1 | exact HS2 | exact HS3 | exact HS4 | exact HSA _) ((first
        | (go_at_call 28
           ((with_reducible refine (made28 ch u0.drew).mono ?_); rintro e u1 ⟨rfl, HB1'⟩)
           have HB1 : Hid (Below u0.heap.size u0 u1) := hid ⟨HB1'.out.os, HB1'.out.tape, HB1'.out.output, HB1'.out.size, HB1'.out.block⟩
           have HX1 := box_p HX0 HB1
           have HBASE1 : base ≤ u1.heap.size := by have := HB1.out.size; omega
           have HS1 : u1.cell? ⟨w.heap.size, 0, none⟩ = some (.int .i64 98) ∧ u1.cell? ⟨w.heap.size, 1, none⟩ = some (.int .u32 ch) ∧ u1.cell? ⟨w.heap.size, 2, none⟩ = some (.int .u32 se) ∧ u1.cell? ⟨w.heap.size, 3, none⟩ = some (.int .u32 wi) ∧ u1.cell? ⟨w.heap.size, 4, none⟩ = some (.int .u32 pa) ∧ u1.cell? ⟨w.heap.size, 5, none⟩ = some (.int .u32 co) ∧ u1.cell? ⟨w.heap.size, 6, none⟩ = some (.string nm) ∧ u1.cell? ⟨w.heap.size, 7, none⟩ = some (.string lg) ∧ u1.cell? ⟨w.heap.size, 8, none⟩ = some (.bool false) ∧ u1.cell? ⟨w.heap.size, 9, none⟩ = some (.slice A n c) := ⟨HX1.out.cell 0, HX1.out.cell 1, HX1.out.cell 2, HX1.out.cell 3, HX1.out.cell 4, HX1.out.cell 5, HX1.out.cell 6, HX1.out.cell 7, HX1.out.cell 8, HX1.out.cell 9⟩)
        | (go_at_call 30
           ((with_reducible refine (made30 base n6 nm u1 h6 s6 HBASE1).mono ?_); rintro e u2 ⟨tA2, tc2, rfl, HB2', HT2⟩)
           have HB2 := bel_trans HB1 HB2'
           have HX2 := box_p HX0 HB2
           have HBASE2 : base ≤ u2.heap.size := by have := HB2.out.size; omega
           have HS2 : u2.cell? ⟨w.heap.size, 0, none⟩ = some (.int .i64 98) ∧ u2.cell? ⟨w.heap.size, 1, none⟩ = some (.int .u32 ch) ∧ u2.cell? ⟨w.heap.size, 2, none⟩ = some (.int .u32 se) ∧ u2.cell? ⟨w.heap.size, 3, none⟩ = some (.int .u32 wi) ∧ u2.cell? ⟨w.heap.size, 4, none⟩ = some (.int .u32 pa) ∧ u2.cell? ⟨w.heap.size, 5, none⟩ = some (.int .u32 co) ∧ u2.cell? ⟨w.heap.size, 6, none⟩ = some (.string nm) ∧ u2.cell? ⟨w.heap.size, 7, none⟩ = some (.string lg) ∧ u2.cell? ⟨w.heap.size, 8, none⟩ = some (.bool false) ∧ u2.cell? ⟨w.heap.size, 9, none⟩ = some (.slice A n c) := ⟨HX2.out.cell 0, HX2.out.cell 1, HX2.out.cell 2, HX2.out.cell 3, HX2.out.cell 4, HX2.out.cell 5, HX2.out.cell 6, HX2.out.cell 7, HX2.out.cell 8, HX2.out.cell 9⟩)
        | (go_at_call 31
           ((with_reducible refine (made31 false 0 rfl u2).mono ?_); rintro e u3 ⟨rfl, HB3'⟩)
           have HB3 := bel_trans HB2 HB3'
           have HX3 := box_p HX0 HB3
           have HBASE3 : base ≤ u3.heap.size := by have := HB3.out.size; omega
           have HS3 : u3.cell? ⟨w.heap.size, 0, none⟩ = some (.int .i64 98) ∧ u3.cell? ⟨w.heap.size, 1, none⟩ = some (.int .u32 ch) ∧ u3.cell? ⟨w.heap.size, 2, none⟩ = some (.int .u32 se) ∧ u3.cell? ⟨w.heap.size, 3, none⟩ = some (.int .u32 wi) ∧ u3.cell? ⟨w.heap.size, 4, none⟩ = some (.int .u32 pa) ∧ u3.cell? ⟨w.heap.size, 5, none⟩ = some (.int .u32 co) ∧ u3.cell? ⟨w.heap.size, 6, none⟩ = some (.string nm) ∧ u3.cell? ⟨w.heap.size, 7, none⟩ = some (.string lg) ∧ u3.cell? ⟨w.heap.size, 8, none⟩ = some (.bool false) ∧ u3.cell? ⟨w.heap.size, 9, none⟩ = some (.slice A n c) := ⟨HX3.out.cell 0, HX3.out.cell 1, HX3.out.cell 2, HX3.out.cell 3, HX3.out.cell 4, HX3.out.cell 5, HX3.out.cell 6, HX3.out.cell 7, HX3.out.cell 8, HX3.out.cell 9⟩)
        | (go_at_call 32
           ((with_reducible refine (made32 n c A u3).mono ?_); rintro e u4 ⟨rfl, HB4'⟩)
           have HB4 := bel_trans HB3 HB4'
           have HX4 := box_p HX0 HB4
           have HBASE4 : base ≤ u4.heap.size := by have := HB4.out.size; omega
           have HS4 : u4.cell? ⟨w.heap.size, 0, none⟩ = some (.int .i64 98) ∧ u4.cell? ⟨w.heap.size, 1, none⟩ = some (.int .u32 ch) ∧ u4.cell? ⟨w.heap.size, 2, none⟩ = some (.int .u32 se) ∧ u4.cell? ⟨w.heap.size, 3, none⟩ = some (.int .u32 wi) ∧ u4.cell? ⟨w.heap.size, 4, none⟩ = some (.int .u32 pa) ∧ u4.cell? ⟨w.heap.size, 5, none⟩ = some (.int .u32 co) ∧ u4.cell? ⟨w.heap.size, 6, none⟩ = some (.string nm) ∧ u4.cell? ⟨w.heap.size, 7, none⟩ = some (.string lg) ∧ u4.cell? ⟨w.heap.size, 8, none⟩ = some (.bool false) ∧ u4.cell? ⟨w.heap.size, 9, none⟩ = some (.slice A n c) := ⟨HX4.out.cell 0, HX4.out.cell 1, HX4.out.cell 2, HX4.out.cell 3, HX4.out.cell 4, HX4.out.cell 5, HX4.out.cell 6, HX4.out.cell 7, HX4.out.cell 8, HX4.out.cell 9⟩
           have HSA : ∀ o, (u4.alloc o).cell? ⟨w.heap.size, 0, none⟩ = some (.int .i64 98) ∧ (u4.alloc o).cell? ⟨w.heap.size, 1, none⟩ = some (.int .u32 ch) ∧ (u4.alloc o).cell? ⟨w.heap.size, 2, none⟩ = some (.int .u32 se) ∧ (u4.alloc o).cell? ⟨w.heap.size, 3, none⟩ = some (.int .u32 wi) ∧ (u4.alloc o).cell? ⟨w.heap.size, 4, none⟩ = some (.int .u32 pa) ∧ (u4.alloc o).cell? ⟨w.heap.size, 5, none⟩ = some (.int .u32 co) ∧ (u4.alloc o).cell? ⟨w.heap.size, 6, none⟩ = some (.string nm) ∧ (u4.alloc o).cell? ⟨w.heap.size, 7, none⟩ = some (.string lg) ∧ (u4.alloc o).cell? ⟨w.heap.size, 8, none⟩ = some (.bool false) ∧ (u4.alloc o).cell? ⟨w.heap.size, 9, none⟩ = some (.slice A n c) := fun o => ⟨(box_a HX4 o).out.cell 0, (box_a HX4 o).out.cell 1, (box_a HX4 o).out.cell 2, (box_a HX4 o).out.cell 3, (box_a HX4 o).out.cell 4, (box_a HX4 o).out.cell 5, (box_a HX4 o).out.cell 6, (box_a HX4 o).out.cell 7, (box_a HX4 o).out.cell 8, (box_a HX4 o).out.cell 9⟩)))
  all_goals
    go_wp2
    go_ret2
    have HDN := (HD.out.below HB0.out).below HB4.out
    have HT2N := ((HT2.out).below HB3'.out).below HB4'.out
    have hl := lit_lies u4 #[.int .i64 3, .int .u32 ch, .slice none 0 0, .slice none 0 0, .int .i64 4, .int .u32 0, .slice tA2 n6 tc2, .slice none 0 0, .int .i64 2, .int .u32 0, .slice none 0 0, .slice none 0 0, .int .i64 6, .int .u32 0, .slice A n c, .slice none 0 0] 50 (0, 0) u4.heap.size rfl
    subst h6
    subst hn
    exact ⟨HB0.out.trans ((HB4.out.mono (by omega)).trans ((bel1 u4 _).mono (by have := HB4.out.size; omega))), _, rfl, _, hl.more (by simp), ⟨none, 0, _, rfl, rfl, TK.nil_ _ _, ⟨tA2, tc2, _, rfl, rfl, tk_alloc HT2N _, ⟨none, 0, _, rfl, rfl, TK.nil_ _ _, ⟨A, c, _, rfl, rfl, tk_alloc HDN _, rfl⟩⟩⟩⟩⟩
set_option maxHeartbeats 4000000 in
set_option maxRecDepth 100000 in
theorem fields20_98 (base ch se wi pa co n n6 n7 nb c : Nat) (nm lg : ByteArray) (wt : Bool) (A : Option Addr) (dt : List UInt8) (w : World) (hn : dt.length = n) (h6 : nm.data.toList.length = n6) (h7 : lg.data.toList.length = n7) (hnb : (if wt then 1 else 0) = nb) (s6 : nm.size ≤ maxLen) (s7 : lg.size ≤ maxLen) (hb : base ≤ w.heap.size) (hd : TK w base A c dt) :
    Calls Tryd.prog 20 #[.agg #[.int .i64 98, .int .u32 ch, .int .u32 se, .int .u32 wi, .int .u32 pa, .int .u32 co, .string nm, .string lg, .bool wt, .slice A n c]] w fun e w' => Hid (Below w.heap.size w w') ∧ ∃ A', e = .returned (.tuple #[.slice A' 4 4, .bool true]) ∧ Hid (∃ cs, Lies w' w'.heap.size A' cs ∧ FlatK w' base [⟨3, ch, [], []⟩, ⟨4, 0, nm.data.toList, []⟩, ⟨2, if wt then 1 else 0, [], []⟩, ⟨6, 0, dt, []⟩] cs) := by
  cases wt with
  | true => exact fields20_98true base ch se wi pa co n n6 n7 c nm lg A dt w hn h6 h7 s6 s7 hb hd
  | false => exact fields20_98false base ch se wi pa co n n6 n7 c nm lg A dt w hn h6 h7 s6 s7 hb hd
set_option maxHeartbeats 4000000 in
set_option maxRecDepth 100000 in
theorem fields20_99 (base ch se wi pa co n n6 n7 nb c : Nat) (nm lg : ByteArray) (wt : Bool) (A : Option Addr) (dt : List UInt8) (w : World) (hn : dt.length = n) (h6 : nm.data.toList.length = n6) (h7 : lg.data.toList.length = n7) (hnb : (if wt then 1 else 0) = nb) (s6 : nm.size ≤ maxLen) (s7 : lg.size ≤ maxLen) (hb : base ≤ w.heap.size) (hd : TK w base A c dt) :
    Calls Tryd.prog 20 #[.agg #[.int .i64 99, .int .u32 ch, .int .u32 se, .int .u32 wi, .int .u32 pa, .int .u32 co, .string nm, .string lg, .bool wt, .slice A n c]] w fun e w' => Hid (Below w.heap.size w w') ∧ ∃ A', e = .returned (.tuple #[.slice A' 1 1, .bool true]) ∧ Hid (∃ cs, Lies w' w'.heap.size A' cs ∧ FlatK w' base [⟨3, ch, [], []⟩] cs) := by
  have HD := hid hd
  have HNB := hid hnb
  clear hd
  have HX0 : Hid (Box (w.alloc (.cells #[.int .i64 99, .int .u32 ch, .int .u32 se, .int .u32 wi, .int .u32 pa, .int .u32 co, .string nm, .string lg, .bool wt, .slice A n c] 25)) w.heap.size 25 #[.int .i64 99, .int .u32 ch, .int .u32 se, .int .u32 wi, .int .u32 pa, .int .u32 co, .string nm, .string lg, .bool wt, .slice A n c]) := hid (Box.new w 25 _)
  have HB0 : Hid (Below w.heap.size w (w.alloc (.cells #[.int .i64 99, .int .u32 ch, .int .u32 se, .int .u32 wi, .int .u32 pa, .int .u32 co, .string nm, .string lg, .bool wt, .slice A n c] 25))) := bel1 w _
  have HZ0 : (w.alloc (.cells #[.int .i64 99, .int .u32 ch, .int .u32 se, .int .u32 wi, .int .u32 pa, .int .u32 co, .string nm, .string lg, .bool wt, .slice A n c] 25)).heap.size = w.heap.size + 1 := by simp
  go_enter Tryd.func20, Tryd.ntmps20
  go_wp2_with (go_at_call 28
               ((with_reducible refine (made28 ch (w.alloc (.cells #[.int .i64 99, .int .u32 ch, .int .u32 se, .int .u32 wi, .int .u32 pa, .int .u32 co, .string nm, .string lg, .bool wt, .slice A n c] 25))).mono ?_); rintro e u1 ⟨rfl, HB1'⟩))
  go_ret2
  have HT := (HD.out.below (bel1 w (.cells #[.int .i64 99, .int .u32 ch, .int .u32 se, .int .u32 wi, .int .u32 pa, .int .u32 co, .string nm, .string lg, .bool wt, .slice A n c] 25))).below HB1'.out
  have hl := lit_lies u1 #[.int .i64 3, .int .u32 ch, .slice none 0 0, .slice none 0 0] 50 (0, 0) u1.heap.size rfl
  exact ⟨(bel1 w _).trans ((HB1'.out.mono (by simp)).trans ((bel1 u1 _).mono (by have := HB1'.out.size; simp at this; omega))), _, rfl, _, hl.more (by simp), ⟨none, 0, [], rfl, rfl, TK.nil_ _ _, rfl⟩⟩
set_option maxHeartbeats 4000000 in
set_option maxRecDepth 100000 in
theorem fields20_100 (base ch se wi pa co n n6 n7 nb c : Nat) (nm lg : ByteArray) (wt : Bool) (A : Option Addr) (dt : List UInt8) (w : World) (hn : dt.length = n) (h6 : nm.data.toList.length = n6) (h7 : lg.data.toList.length = n7) (hnb : (if wt then 1 else 0) = nb) (s6 : nm.size ≤ maxLen) (s7 : lg.size ≤ maxLen) (hb : base ≤ w.heap.size) (hd : TK w base A c dt) :
    Calls Tryd.prog 20 #[.agg #[.int .i64 100, .int .u32 ch, .int .u32 se, .int .u32 wi, .int .u32 pa, .int .u32 co, .string nm, .string lg, .bool wt, .slice A n c]] w fun e w' => Hid (Below w.heap.size w w') ∧ ∃ A', e = .returned (.tuple #[.slice A' 1 1, .bool true]) ∧ Hid (∃ cs, Lies w' w'.heap.size A' cs ∧ FlatK w' base [⟨3, ch, [], []⟩] cs) := by
  have HD := hid hd
  have HNB := hid hnb
  clear hd
  have HX0 : Hid (Box (w.alloc (.cells #[.int .i64 100, .int .u32 ch, .int .u32 se, .int .u32 wi, .int .u32 pa, .int .u32 co, .string nm, .string lg, .bool wt, .slice A n c] 25)) w.heap.size 25 #[.int .i64 100, .int .u32 ch, .int .u32 se, .int .u32 wi, .int .u32 pa, .int .u32 co, .string nm, .string lg, .bool wt, .slice A n c]) := hid (Box.new w 25 _)
  have HB0 : Hid (Below w.heap.size w (w.alloc (.cells #[.int .i64 100, .int .u32 ch, .int .u32 se, .int .u32 wi, .int .u32 pa, .int .u32 co, .string nm, .string lg, .bool wt, .slice A n c] 25))) := bel1 w _
  have HZ0 : (w.alloc (.cells #[.int .i64 100, .int .u32 ch, .int .u32 se, .int .u32 wi, .int .u32 pa, .int .u32 co, .string nm, .string lg, .bool wt, .slice A n c] 25)).heap.size = w.heap.size + 1 := by simp
  go_enter Tryd.func20, Tryd.ntmps20
  go_wp2_with (go_at_call 28
               ((with_reducible refine (made28 ch (w.alloc (.cells #[.int .i64 100, .int .u32 ch, .int .u32 se, .int .u32 wi, .int .u32 pa, .int .u32 co, .string nm, .string lg, .bool wt, .slice A n c] 25))).mono ?_); rintro e u1 ⟨rfl, HB1'⟩))
  go_ret2
  have HT := (HD.out.below (bel1 w (.cells #[.int .i64 100, .int .u32 ch, .int .u32 se, .int .u32 wi, .int .u32 pa, .int .u32 co, .string nm, .string lg, .bool wt, .slice A n c] 25))).below HB1'.out
  have hl := lit_lies u1 #[.int .i64 3, .int .u32 ch, .slice none 0 0, .slice none 0 0] 50 (0, 0) u1.heap.size rfl
  exact ⟨(bel1 w _).trans ((HB1'.out.mono (by simp)).trans ((bel1 u1 _).mono (by have := HB1'.out.size; simp at this; omega))), _, rfl, _, hl.more (by simp), ⟨none, 0, [], rfl, rfl, TK.nil_ _ _, rfl⟩⟩

end Go.Proofs.YtlmdbcmaophhnaaDoor
