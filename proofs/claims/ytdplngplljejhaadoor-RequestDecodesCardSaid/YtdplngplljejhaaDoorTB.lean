import Derived.Test.YtdplngplljejhaaDoorTA
import Derived.Deep.RegionHeld3
namespace Go.Proofs.YtdplngplljejhaaDoor
open Go.RowKit

theorem qm_box_p {w w' : World} {g : Nat} {t : TypeId} {cs : Array Value} (h : Hid (Box w g t cs)) (hb : Hid (Below w.heap.size w w')) : Hid (Box w' g t cs) := box_below h.out hb.out
theorem qm_box_a {w : World} {g : Nat} {t : TypeId} {cs : Array Value} (h : Hid (Box w g t cs)) (o : Obj) : Hid (Box (w.alloc o) g t cs) := box_below h.out (bel1 w o)
theorem qm_tk_alloc {w : World} {base c : Nat} {A : Option Addr} {bs : List UInt8} (h : TK w base A c bs) (o : Obj) : TK (w.alloc o) base A c bs := h.below (bel1 w o)
set_option maxHeartbeats 1000000 in
set_option maxRecDepth 100000 in
theorem qmade_num (n : Nat) (w : World) : Calls Tryd.prog 40 #[.int .u32 n] w fun e w' => e = .returned (.agg #[.int .i64 3, .int .u32 n, .slice none 0 0, .slice none 0 0]) ∧ Hid (Below w.heap.size w w') := by
  go_enter Tryd.func40, Tryd.ntmps40
  go_wp2
  refine bodyPost_ret (v := .agg #[.int .i64 3, .int .u32 n, .slice none 0 0, .slice none 0 0]) (by simp [results, Tryd.results40, go_sem]) rfl ?_
  exact ⟨rfl, bel1 _ _⟩
set_option maxHeartbeats 1000000 in
set_option maxRecDepth 100000 in
theorem qmade_flag (b : Bool) (n : Nat) (hn : (if b then 1 else 0) = n) (w : World) : Calls Tryd.prog 39 #[.bool b] w fun e w' => e = .returned (.agg #[.int .i64 2, .int .u32 n, .slice none 0 0, .slice none 0 0]) ∧ Hid (Below w.heap.size w w') := by
  cases b with
  | true =>
    obtain rfl : 1 = n := hn
    go_enter Tryd.func39, Tryd.ntmps39
    go_wp2
    refine bodyPost_ret (v := .agg #[.int .i64 2, .int .u32 1, .slice none 0 0, .slice none 0 0]) (by simp [results, Tryd.results39, go_sem]) rfl ?_
    exact ⟨rfl, bel1 _ _⟩
  | false =>
    obtain rfl : 0 = n := hn
    go_enter Tryd.func39, Tryd.ntmps39
    go_wp2
    refine bodyPost_ret (v := .agg #[.int .i64 2, .int .u32 0, .slice none 0 0, .slice none 0 0]) (by simp [results, Tryd.results39, go_sem]) rfl ?_
    exact ⟨rfl, bel1 _ _⟩
set_option maxHeartbeats 1000000 in
set_option maxRecDepth 100000 in
theorem qmade_text (base n : Nat) (s : ByteArray) (w : World) (hn : s.data.toList.length = n) (hs : s.size ≤ maxLen) (hb : base ≤ w.heap.size) : Calls Tryd.prog 37 #[.string s] w fun e w' => ∃ tA tc, e = .returned (.agg #[.int .i64 4, .int .u32 0, .slice tA n tc, .slice none 0 0]) ∧ Hid (Below w.heap.size w w') ∧ Hid (TK w' base tA tc s.data.toList) := by
  rw [str_len] at hn
  subst hn
  have hcv := Lib.run_convert_string_bytes (P := Tryd.prog) (w.alloc (.cells #[.int .i64 0, .int .u32 0, .slice none 0 0, .slice none 0 0] 80)) 9 22 5 s Tryd.underlying9 Tryd.underlying22 Tryd.underlying5
  have htk := conv_tk (w.alloc (.cells #[.int .i64 0, .int .u32 0, .slice none 0 0, .slice none 0 0] 80)) base s hs
  have hbc := bel_conv (w.alloc (.cells #[.int .i64 0, .int .u32 0, .slice none 0 0, .slice none 0 0] 80)) s
  generalize Lib.bytesWorld (w.alloc (.cells #[.int .i64 0, .int .u32 0, .slice none 0 0, .slice none 0 0] 80)) 5 s = w2 at hcv htk hbc
  have hr1 : Box w2 w.heap.size 80 #[.int .i64 0, .int .u32 0, .slice none 0 0, .slice none 0 0] := (Box.new w 80 _).same (hbc.block _ (by simp))
  have d0 : w2.cell? ⟨w.heap.size, 0, none⟩ = some (.int .i64 0) := hr1.cell 0
  have d1 : w2.cell? ⟨w.heap.size, 1, none⟩ = some (.int .u32 0) := hr1.cell 1
  have d2 : w2.cell? ⟨w.heap.size, 2, none⟩ = some (.slice none 0 0) := hr1.cell 2
  have d3 : w2.cell? ⟨w.heap.size, 3, none⟩ = some (.slice none 0 0) := hr1.cell 3
  have f0 : w2.frozen? ⟨w.heap.size, 0, none⟩ = false := hr1.frozen 0
  have f1 : w2.frozen? ⟨w.heap.size, 1, none⟩ = false := hr1.frozen 1
  have f2 : w2.frozen? ⟨w.heap.size, 2, none⟩ = false := hr1.frozen 2
  have f3 : w2.frozen? ⟨w.heap.size, 3, none⟩ = false := hr1.frozen 3
  have HBW : Hid (Below w.heap.size w w2) := (bel1 w _).trans (hbc.mono (by simp))
  have HTK := hid htk
  have HR1 := hid hr1
  clear hr1 hbc htk
  go_enter Tryd.func37, Tryd.ntmps37
  go_wp2
  refine bodyPost_ret (v := .agg #[.int .i64 4, .int .u32 0, .slice (some ⟨(w.alloc (.cells #[.int .i64 0, .int .u32 0, .slice none 0 0, .slice none 0 0] 80)).heap.size, 0, none⟩) s.size (grownCap (w.alloc (.cells #[.int .i64 0, .int .u32 0, .slice none 0 0, .slice none 0 0] 80)) s.size 0 5), .slice none 0 0]) (by simp [results, Tryd.results37, go_sem, d0, d1, d2, d3]) rfl ?_
  refine ⟨_, _, rfl, (((HBW.out.setCell (by simp) _).setCell (by simp) _).setCell (by simp) _).setCell (by simp) _, ?_⟩
  exact HTK.out.kept (kept4 HR1.out hb _ _ _ _) (T := [80]) (by simp)
set_option maxHeartbeats 4000000 in
set_option maxRecDepth 100000 in
theorem qsize_any (base co ro wi he : Nat) (w : World) (hb : base ≤ w.heap.size) :
    Calls Tryd.prog 38 #[.agg #[.int .u32 co, .int .u32 ro, .int .u32 wi, .int .u32 he]] w fun e w' => Hid (Below w.heap.size w w') ∧ ∃ A', e = .returned (.slice A' 4 4) ∧ Hid (∃ cs, Lies w' w'.heap.size A' cs ∧ FlatK w' base [⟨3, co, [], []⟩, ⟨3, ro, [], []⟩, ⟨3, wi, [], []⟩, ⟨3, he, [], []⟩] cs) := by
  have HX0 : Hid (Box (w.alloc (.cells #[.int .u32 co, .int .u32 ro, .int .u32 wi, .int .u32 he] 26)) w.heap.size 26 #[.int .u32 co, .int .u32 ro, .int .u32 wi, .int .u32 he]) := hid (Box.new w 26 _)
  have HB0 : Hid (Below w.heap.size w (w.alloc (.cells #[.int .u32 co, .int .u32 ro, .int .u32 wi, .int .u32 he] 26))) := bel1 w _
  have HZ0 : (w.alloc (.cells #[.int .u32 co, .int .u32 ro, .int .u32 wi, .int .u32 he] 26)).heap.size = w.heap.size + 1 := by simp
  have HBASE0 : base ≤ (w.alloc (.cells #[.int .u32 co, .int .u32 ro, .int .u32 wi, .int .u32 he] 26)).drew.heap.size := by show base ≤ (w.alloc (.cells #[.int .u32 co, .int .u32 ro, .int .u32 wi, .int .u32 he] 26)).heap.size; omega
  go_enter Tryd.func38, Tryd.ntmps38
  go_wp2
  generalize hW : w.alloc _ = u0 at HX0 HB0 HZ0 HBASE0
  have HW := hid hW
  clear hW
  have HS0 : u0.cell? ⟨w.heap.size, 0, none⟩ = some (.int .u32 co) ∧ u0.cell? ⟨w.heap.size, 1, none⟩ = some (.int .u32 ro) ∧ u0.cell? ⟨w.heap.size, 2, none⟩ = some (.int .u32 wi) ∧ u0.cell? ⟨w.heap.size, 3, none⟩ = some (.int .u32 he) := ⟨HX0.out.cell 0, HX0.out.cell 1, HX0.out.cell 2, HX0.out.cell 3⟩
  go_region_held3 (fun u => u.cell? ⟨w.heap.size, 0, none⟩ = some (.int .u32 co) ∧ u.cell? ⟨w.heap.size, 1, none⟩ = some (.int .u32 ro) ∧ u.cell? ⟨w.heap.size, 2, none⟩ = some (.int .u32 wi) ∧ u.cell? ⟨w.heap.size, 3, none⟩ = some (.int .u32 he)) (first | exact HS0 | exact HS1 | exact HS2 | exact HS3 | exact HS4 | exact HSA _) ((first
    | (go_at_call 40
       ((with_reducible refine (qmade_num co u0.drew).mono ?_); rintro e u1 ⟨rfl, HB1'⟩)
       have HB1 : Hid (Below u0.heap.size u0 u1) := hid ⟨HB1'.out.os, HB1'.out.tape, HB1'.out.output, HB1'.out.size, HB1'.out.block⟩
       have HX1 := qm_box_p HX0 HB1
       have HBASE1 : base ≤ u1.heap.size := by have := HB1.out.size; omega
       have HS1 : u1.cell? ⟨w.heap.size, 0, none⟩ = some (.int .u32 co) ∧ u1.cell? ⟨w.heap.size, 1, none⟩ = some (.int .u32 ro) ∧ u1.cell? ⟨w.heap.size, 2, none⟩ = some (.int .u32 wi) ∧ u1.cell? ⟨w.heap.size, 3, none⟩ = some (.int .u32 he) := ⟨HX1.out.cell 0, HX1.out.cell 1, HX1.out.cell 2, HX1.out.cell 3⟩)
    | (go_at_call 40
       ((with_reducible refine (qmade_num ro u1).mono ?_); rintro e u2 ⟨rfl, HB2'⟩)
       have HB2 := bel_trans HB1 HB2'
       have HX2 := qm_box_p HX0 HB2
       have HBASE2 : base ≤ u2.heap.size := by have := HB2.out.size; omega
       have HS2 : u2.cell? ⟨w.heap.size, 0, none⟩ = some (.int .u32 co) ∧ u2.cell? ⟨w.heap.size, 1, none⟩ = some (.int .u32 ro) ∧ u2.cell? ⟨w.heap.size, 2, none⟩ = some (.int .u32 wi) ∧ u2.cell? ⟨w.heap.size, 3, none⟩ = some (.int .u32 he) := ⟨HX2.out.cell 0, HX2.out.cell 1, HX2.out.cell 2, HX2.out.cell 3⟩)
    | (go_at_call 40
       ((with_reducible refine (qmade_num wi u2).mono ?_); rintro e u3 ⟨rfl, HB3'⟩)
       have HB3 := bel_trans HB2 HB3'
       have HX3 := qm_box_p HX0 HB3
       have HBASE3 : base ≤ u3.heap.size := by have := HB3.out.size; omega
       have HS3 : u3.cell? ⟨w.heap.size, 0, none⟩ = some (.int .u32 co) ∧ u3.cell? ⟨w.heap.size, 1, none⟩ = some (.int .u32 ro) ∧ u3.cell? ⟨w.heap.size, 2, none⟩ = some (.int .u32 wi) ∧ u3.cell? ⟨w.heap.size, 3, none⟩ = some (.int .u32 he) := ⟨HX3.out.cell 0, HX3.out.cell 1, HX3.out.cell 2, HX3.out.cell 3⟩)
    | (go_at_call 40
       ((with_reducible refine (qmade_num he u3).mono ?_); rintro e u4 ⟨rfl, HB4'⟩)
       have HB4 := bel_trans HB3 HB4'
       have HX4 := qm_box_p HX0 HB4
       have HBASE4 : base ≤ u4.heap.size := by have := HB4.out.size; omega
       have HS4 : u4.cell? ⟨w.heap.size, 0, none⟩ = some (.int .u32 co) ∧ u4.cell? ⟨w.heap.size, 1, none⟩ = some (.int .u32 ro) ∧ u4.cell? ⟨w.heap.size, 2, none⟩ = some (.int .u32 wi) ∧ u4.cell? ⟨w.heap.size, 3, none⟩ = some (.int .u32 he) := ⟨HX4.out.cell 0, HX4.out.cell 1, HX4.out.cell 2, HX4.out.cell 3⟩
       have HSA : ∀ o, (u4.alloc o).cell? ⟨w.heap.size, 0, none⟩ = some (.int .u32 co) ∧ (u4.alloc o).cell? ⟨w.heap.size, 1, none⟩ = some (.int .u32 ro) ∧ (u4.alloc o).cell? ⟨w.heap.size, 2, none⟩ = some (.int .u32 wi) ∧ (u4.alloc o).cell? ⟨w.heap.size, 3, none⟩ = some (.int .u32 he) := fun o => ⟨(qm_box_a HX4 o).out.cell 0, (qm_box_a HX4 o).out.cell 1, (qm_box_a HX4 o).out.cell 2, (qm_box_a HX4 o).out.cell 3⟩)))
  all_goals
    go_wp2
    go_ret
    have hl := lit_lies u4 #[.int .i64 3, .int .u32 co, .slice none 0 0, .slice none 0 0, .int .i64 3, .int .u32 ro, .slice none 0 0, .slice none 0 0, .int .i64 3, .int .u32 wi, .slice none 0 0, .slice none 0 0, .int .i64 3, .int .u32 he, .slice none 0 0, .slice none 0 0] 80 (0, 0) u4.heap.size rfl
    exact ⟨HB0.out.trans ((HB4.out.mono (by omega)).trans ((bel1 u4 _).mono (by have := HB4.out.size; omega))), _, rfl, _, hl.more (by simp), ⟨none, 0, _, rfl, rfl, TK.nil_ _ _, ⟨none, 0, _, rfl, rfl, TK.nil_ _ _, ⟨none, 0, _, rfl, rfl, TK.nil_ _ _, ⟨none, 0, _, rfl, rfl, TK.nil_ _ _, rfl⟩⟩⟩⟩⟩
set_option maxHeartbeats 4000000 in
set_option maxRecDepth 100000 in
theorem qfields_env (base co ro wi he cd n c n_tx n_va n_la nb : Nat) (tx va la : ByteArray) (on : Bool) (A : Option Addr) (w : World) (hb : base ≤ w.heap.size) (hn_tx : tx.data.toList.length = n_tx) (hn_va : va.data.toList.length = n_va) (_hn_la : la.data.toList.length = n_la) (_hnb : (if on then 1 else 0) = nb) (hs_tx : tx.size ≤ maxLen) (hs_va : va.size ≤ maxLen) (_hs_la : la.size ≤ maxLen) :
    Calls Tryd.prog 24 #[.agg #[.int .i64 2, .string tx, .string va, .string la, .int .u32 co, .int .u32 ro, .int .u32 wi, .int .u32 he, .slice A n c, .bool on, .int .u32 cd]] w fun e w' => Hid (Below w.heap.size w w') ∧ ∃ A', e = .returned (.slice A' 2 2) ∧ Hid (∃ cs, Lies w' w'.heap.size A' cs ∧ FlatK w' base [⟨4, 0, tx.data.toList, []⟩, ⟨4, 0, va.data.toList, []⟩] cs) := by
  have HX0 : Hid (Box (w.alloc (.cells #[.int .i64 2, .string tx, .string va, .string la, .int .u32 co, .int .u32 ro, .int .u32 wi, .int .u32 he, .slice A n c, .bool on, .int .u32 cd] 28)) w.heap.size 28 #[.int .i64 2, .string tx, .string va, .string la, .int .u32 co, .int .u32 ro, .int .u32 wi, .int .u32 he, .slice A n c, .bool on, .int .u32 cd]) := hid (Box.new w 28 _)
  have HB0 : Hid (Below w.heap.size w (w.alloc (.cells #[.int .i64 2, .string tx, .string va, .string la, .int .u32 co, .int .u32 ro, .int .u32 wi, .int .u32 he, .slice A n c, .bool on, .int .u32 cd] 28))) := bel1 w _
  have HZ0 : (w.alloc (.cells #[.int .i64 2, .string tx, .string va, .string la, .int .u32 co, .int .u32 ro, .int .u32 wi, .int .u32 he, .slice A n c, .bool on, .int .u32 cd] 28)).heap.size = w.heap.size + 1 := by simp
  have HBASE0 : base ≤ (w.alloc (.cells #[.int .i64 2, .string tx, .string va, .string la, .int .u32 co, .int .u32 ro, .int .u32 wi, .int .u32 he, .slice A n c, .bool on, .int .u32 cd] 28)).drew.heap.size := by show base ≤ (w.alloc (.cells #[.int .i64 2, .string tx, .string va, .string la, .int .u32 co, .int .u32 ro, .int .u32 wi, .int .u32 he, .slice A n c, .bool on, .int .u32 cd] 28)).heap.size; omega
  go_enter Tryd.func24, Tryd.ntmps24
  go_wp2
  generalize hW : w.alloc _ = u0 at HX0 HB0 HZ0 HBASE0
  have HW := hid hW
  clear hW
  have HS0 : u0.cell? ⟨w.heap.size, 0, none⟩ = some (.int .i64 2) ∧ u0.cell? ⟨w.heap.size, 1, none⟩ = some (.string tx) ∧ u0.cell? ⟨w.heap.size, 2, none⟩ = some (.string va) ∧ u0.cell? ⟨w.heap.size, 3, none⟩ = some (.string la) ∧ u0.cell? ⟨w.heap.size, 4, none⟩ = some (.int .u32 co) ∧ u0.cell? ⟨w.heap.size, 5, none⟩ = some (.int .u32 ro) ∧ u0.cell? ⟨w.heap.size, 6, none⟩ = some (.int .u32 wi) ∧ u0.cell? ⟨w.heap.size, 7, none⟩ = some (.int .u32 he) ∧ u0.cell? ⟨w.heap.size, 8, none⟩ = some (.slice A n c) ∧ u0.cell? ⟨w.heap.size, 9, none⟩ = some (.bool on) ∧ u0.cell? ⟨w.heap.size, 10, none⟩ = some (.int .u32 cd) := ⟨HX0.out.cell 0, HX0.out.cell 1, HX0.out.cell 2, HX0.out.cell 3, HX0.out.cell 4, HX0.out.cell 5, HX0.out.cell 6, HX0.out.cell 7, HX0.out.cell 8, HX0.out.cell 9, HX0.out.cell 10⟩
  go_region_held3 (fun u => u.cell? ⟨w.heap.size, 0, none⟩ = some (.int .i64 2) ∧ u.cell? ⟨w.heap.size, 1, none⟩ = some (.string tx) ∧ u.cell? ⟨w.heap.size, 2, none⟩ = some (.string va) ∧ u.cell? ⟨w.heap.size, 3, none⟩ = some (.string la) ∧ u.cell? ⟨w.heap.size, 4, none⟩ = some (.int .u32 co) ∧ u.cell? ⟨w.heap.size, 5, none⟩ = some (.int .u32 ro) ∧ u.cell? ⟨w.heap.size, 6, none⟩ = some (.int .u32 wi) ∧ u.cell? ⟨w.heap.size, 7, none⟩ = some (.int .u32 he) ∧ u.cell? ⟨w.heap.size, 8, none⟩ = some (.slice A n c) ∧ u.cell? ⟨w.heap.size, 9, none⟩ = some (.bool on) ∧ u.cell? ⟨w.heap.size, 10, none⟩ = some (.int .u32 cd)) (first | exact HS0 | exact HS1 | exact HS2 | exact HSA _) ((first
    | (go_at_call 37
       ((with_reducible refine (qmade_text base n_tx tx u0.drew hn_tx hs_tx HBASE0).mono ?_); rintro e u1 ⟨tA1, tc1, rfl, HB1', HT1⟩)
       have HB1 : Hid (Below u0.heap.size u0 u1) := hid ⟨HB1'.out.os, HB1'.out.tape, HB1'.out.output, HB1'.out.size, HB1'.out.block⟩
       have HX1 := qm_box_p HX0 HB1
       have HBASE1 : base ≤ u1.heap.size := by have := HB1.out.size; omega
       have HS1 : u1.cell? ⟨w.heap.size, 0, none⟩ = some (.int .i64 2) ∧ u1.cell? ⟨w.heap.size, 1, none⟩ = some (.string tx) ∧ u1.cell? ⟨w.heap.size, 2, none⟩ = some (.string va) ∧ u1.cell? ⟨w.heap.size, 3, none⟩ = some (.string la) ∧ u1.cell? ⟨w.heap.size, 4, none⟩ = some (.int .u32 co) ∧ u1.cell? ⟨w.heap.size, 5, none⟩ = some (.int .u32 ro) ∧ u1.cell? ⟨w.heap.size, 6, none⟩ = some (.int .u32 wi) ∧ u1.cell? ⟨w.heap.size, 7, none⟩ = some (.int .u32 he) ∧ u1.cell? ⟨w.heap.size, 8, none⟩ = some (.slice A n c) ∧ u1.cell? ⟨w.heap.size, 9, none⟩ = some (.bool on) ∧ u1.cell? ⟨w.heap.size, 10, none⟩ = some (.int .u32 cd) := ⟨HX1.out.cell 0, HX1.out.cell 1, HX1.out.cell 2, HX1.out.cell 3, HX1.out.cell 4, HX1.out.cell 5, HX1.out.cell 6, HX1.out.cell 7, HX1.out.cell 8, HX1.out.cell 9, HX1.out.cell 10⟩)
    | (go_at_call 37
       ((with_reducible refine (qmade_text base n_va va u1 hn_va hs_va HBASE1).mono ?_); rintro e u2 ⟨tA2, tc2, rfl, HB2', HT2⟩)
       have HB2 := bel_trans HB1 HB2'
       have HX2 := qm_box_p HX0 HB2
       have HBASE2 : base ≤ u2.heap.size := by have := HB2.out.size; omega
       have HS2 : u2.cell? ⟨w.heap.size, 0, none⟩ = some (.int .i64 2) ∧ u2.cell? ⟨w.heap.size, 1, none⟩ = some (.string tx) ∧ u2.cell? ⟨w.heap.size, 2, none⟩ = some (.string va) ∧ u2.cell? ⟨w.heap.size, 3, none⟩ = some (.string la) ∧ u2.cell? ⟨w.heap.size, 4, none⟩ = some (.int .u32 co) ∧ u2.cell? ⟨w.heap.size, 5, none⟩ = some (.int .u32 ro) ∧ u2.cell? ⟨w.heap.size, 6, none⟩ = some (.int .u32 wi) ∧ u2.cell? ⟨w.heap.size, 7, none⟩ = some (.int .u32 he) ∧ u2.cell? ⟨w.heap.size, 8, none⟩ = some (.slice A n c) ∧ u2.cell? ⟨w.heap.size, 9, none⟩ = some (.bool on) ∧ u2.cell? ⟨w.heap.size, 10, none⟩ = some (.int .u32 cd) := ⟨HX2.out.cell 0, HX2.out.cell 1, HX2.out.cell 2, HX2.out.cell 3, HX2.out.cell 4, HX2.out.cell 5, HX2.out.cell 6, HX2.out.cell 7, HX2.out.cell 8, HX2.out.cell 9, HX2.out.cell 10⟩
       have HSA : ∀ o, (u2.alloc o).cell? ⟨w.heap.size, 0, none⟩ = some (.int .i64 2) ∧ (u2.alloc o).cell? ⟨w.heap.size, 1, none⟩ = some (.string tx) ∧ (u2.alloc o).cell? ⟨w.heap.size, 2, none⟩ = some (.string va) ∧ (u2.alloc o).cell? ⟨w.heap.size, 3, none⟩ = some (.string la) ∧ (u2.alloc o).cell? ⟨w.heap.size, 4, none⟩ = some (.int .u32 co) ∧ (u2.alloc o).cell? ⟨w.heap.size, 5, none⟩ = some (.int .u32 ro) ∧ (u2.alloc o).cell? ⟨w.heap.size, 6, none⟩ = some (.int .u32 wi) ∧ (u2.alloc o).cell? ⟨w.heap.size, 7, none⟩ = some (.int .u32 he) ∧ (u2.alloc o).cell? ⟨w.heap.size, 8, none⟩ = some (.slice A n c) ∧ (u2.alloc o).cell? ⟨w.heap.size, 9, none⟩ = some (.bool on) ∧ (u2.alloc o).cell? ⟨w.heap.size, 10, none⟩ = some (.int .u32 cd) := fun o => ⟨(qm_box_a HX2 o).out.cell 0, (qm_box_a HX2 o).out.cell 1, (qm_box_a HX2 o).out.cell 2, (qm_box_a HX2 o).out.cell 3, (qm_box_a HX2 o).out.cell 4, (qm_box_a HX2 o).out.cell 5, (qm_box_a HX2 o).out.cell 6, (qm_box_a HX2 o).out.cell 7, (qm_box_a HX2 o).out.cell 8, (qm_box_a HX2 o).out.cell 9, (qm_box_a HX2 o).out.cell 10⟩)))
  all_goals
    go_wp2
    go_ret
    have HTN2 := HT2.out
    have HTN1 := (HT1.out.below HB2'.out)
    have hl := lit_lies u2 #[.int .i64 4, .int .u32 0, .slice tA1 n_tx tc1, .slice none 0 0, .int .i64 4, .int .u32 0, .slice tA2 n_va tc2, .slice none 0 0] 80 (0, 0) u2.heap.size rfl
    subst hn_tx
    subst hn_va
    exact ⟨HB0.out.trans ((HB2.out.mono (by omega)).trans ((bel1 u2 _).mono (by have := HB2.out.size; omega))), _, rfl, _, hl.more (by simp), ⟨tA1, tc1, _, rfl, rfl, qm_tk_alloc HTN1 _, ⟨tA2, tc2, _, rfl, rfl, qm_tk_alloc HTN2 _, rfl⟩⟩⟩
set_option maxHeartbeats 4000000 in
set_option maxRecDepth 100000 in
theorem qfields_ends_true (base co ro wi he cd n c n_tx n_va n_la : Nat) (tx va la : ByteArray) (A : Option Addr) (w : World) (hb : base ≤ w.heap.size) (hn_tx : tx.data.toList.length = n_tx) (hn_va : va.data.toList.length = n_va) (hn_la : la.data.toList.length = n_la) (hs_tx : tx.size ≤ maxLen) (hs_va : va.size ≤ maxLen) (hs_la : la.size ≤ maxLen) :
    Calls Tryd.prog 24 #[.agg #[.int .i64 10, .string tx, .string va, .string la, .int .u32 co, .int .u32 ro, .int .u32 wi, .int .u32 he, .slice A n c, .bool true, .int .u32 cd]] w fun e w' => Hid (Below w.heap.size w w') ∧ ∃ A', e = .returned (.slice A' 4 4) ∧ Hid (∃ cs, Lies w' w'.heap.size A' cs ∧ FlatK w' base [⟨4, 0, tx.data.toList, []⟩, ⟨2, 1, [], []⟩, ⟨4, 0, va.data.toList, []⟩, ⟨4, 0, la.data.toList, []⟩] cs) := by
  have HX0 : Hid (Box (w.alloc (.cells #[.int .i64 10, .string tx, .string va, .string la, .int .u32 co, .int .u32 ro, .int .u32 wi, .int .u32 he, .slice A n c, .bool true, .int .u32 cd] 28)) w.heap.size 28 #[.int .i64 10, .string tx, .string va, .string la, .int .u32 co, .int .u32 ro, .int .u32 wi, .int .u32 he, .slice A n c, .bool true, .int .u32 cd]) := hid (Box.new w 28 _)
  have HB0 : Hid (Below w.heap.size w (w.alloc (.cells #[.int .i64 10, .string tx, .string va, .string la, .int .u32 co, .int .u32 ro, .int .u32 wi, .int .u32 he, .slice A n c, .bool true, .int .u32 cd] 28))) := bel1 w _
  have HZ0 : (w.alloc (.cells #[.int .i64 10, .string tx, .string va, .string la, .int .u32 co, .int .u32 ro, .int .u32 wi, .int .u32 he, .slice A n c, .bool true, .int .u32 cd] 28)).heap.size = w.heap.size + 1 := by simp
  have HBASE0 : base ≤ (w.alloc (.cells #[.int .i64 10, .string tx, .string va, .string la, .int .u32 co, .int .u32 ro, .int .u32 wi, .int .u32 he, .slice A n c, .bool true, .int .u32 cd] 28)).drew.heap.size := by show base ≤ (w.alloc (.cells #[.int .i64 10, .string tx, .string va, .string la, .int .u32 co, .int .u32 ro, .int .u32 wi, .int .u32 he, .slice A n c, .bool true, .int .u32 cd] 28)).heap.size; omega
  go_enter Tryd.func24, Tryd.ntmps24
  go_wp2
  generalize hW : w.alloc _ = u0 at HX0 HB0 HZ0 HBASE0
  have HW := hid hW
  clear hW
  have HS0 : u0.cell? ⟨w.heap.size, 0, none⟩ = some (.int .i64 10) ∧ u0.cell? ⟨w.heap.size, 1, none⟩ = some (.string tx) ∧ u0.cell? ⟨w.heap.size, 2, none⟩ = some (.string va) ∧ u0.cell? ⟨w.heap.size, 3, none⟩ = some (.string la) ∧ u0.cell? ⟨w.heap.size, 4, none⟩ = some (.int .u32 co) ∧ u0.cell? ⟨w.heap.size, 5, none⟩ = some (.int .u32 ro) ∧ u0.cell? ⟨w.heap.size, 6, none⟩ = some (.int .u32 wi) ∧ u0.cell? ⟨w.heap.size, 7, none⟩ = some (.int .u32 he) ∧ u0.cell? ⟨w.heap.size, 8, none⟩ = some (.slice A n c) ∧ u0.cell? ⟨w.heap.size, 9, none⟩ = some (.bool true) ∧ u0.cell? ⟨w.heap.size, 10, none⟩ = some (.int .u32 cd) := ⟨HX0.out.cell 0, HX0.out.cell 1, HX0.out.cell 2, HX0.out.cell 3, HX0.out.cell 4, HX0.out.cell 5, HX0.out.cell 6, HX0.out.cell 7, HX0.out.cell 8, HX0.out.cell 9, HX0.out.cell 10⟩
  go_region_held3 (fun u => u.cell? ⟨w.heap.size, 0, none⟩ = some (.int .i64 10) ∧ u.cell? ⟨w.heap.size, 1, none⟩ = some (.string tx) ∧ u.cell? ⟨w.heap.size, 2, none⟩ = some (.string va) ∧ u.cell? ⟨w.heap.size, 3, none⟩ = some (.string la) ∧ u.cell? ⟨w.heap.size, 4, none⟩ = some (.int .u32 co) ∧ u.cell? ⟨w.heap.size, 5, none⟩ = some (.int .u32 ro) ∧ u.cell? ⟨w.heap.size, 6, none⟩ = some (.int .u32 wi) ∧ u.cell? ⟨w.heap.size, 7, none⟩ = some (.int .u32 he) ∧ u.cell? ⟨w.heap.size, 8, none⟩ = some (.slice A n c) ∧ u.cell? ⟨w.heap.size, 9, none⟩ = some (.bool true) ∧ u.cell? ⟨w.heap.size, 10, none⟩ = some (.int .u32 cd)) (first | exact HS0 | exact HS1 | exact HS2 | exact HS3 | exact HS4 | exact HSA _) ((first
    | (go_at_call 37
       ((with_reducible refine (qmade_text base n_tx tx u0.drew hn_tx hs_tx HBASE0).mono ?_); rintro e u1 ⟨tA1, tc1, rfl, HB1', HT1⟩)
       have HB1 : Hid (Below u0.heap.size u0 u1) := hid ⟨HB1'.out.os, HB1'.out.tape, HB1'.out.output, HB1'.out.size, HB1'.out.block⟩
       have HX1 := qm_box_p HX0 HB1
       have HBASE1 : base ≤ u1.heap.size := by have := HB1.out.size; omega
       have HS1 : u1.cell? ⟨w.heap.size, 0, none⟩ = some (.int .i64 10) ∧ u1.cell? ⟨w.heap.size, 1, none⟩ = some (.string tx) ∧ u1.cell? ⟨w.heap.size, 2, none⟩ = some (.string va) ∧ u1.cell? ⟨w.heap.size, 3, none⟩ = some (.string la) ∧ u1.cell? ⟨w.heap.size, 4, none⟩ = some (.int .u32 co) ∧ u1.cell? ⟨w.heap.size, 5, none⟩ = some (.int .u32 ro) ∧ u1.cell? ⟨w.heap.size, 6, none⟩ = some (.int .u32 wi) ∧ u1.cell? ⟨w.heap.size, 7, none⟩ = some (.int .u32 he) ∧ u1.cell? ⟨w.heap.size, 8, none⟩ = some (.slice A n c) ∧ u1.cell? ⟨w.heap.size, 9, none⟩ = some (.bool true) ∧ u1.cell? ⟨w.heap.size, 10, none⟩ = some (.int .u32 cd) := ⟨HX1.out.cell 0, HX1.out.cell 1, HX1.out.cell 2, HX1.out.cell 3, HX1.out.cell 4, HX1.out.cell 5, HX1.out.cell 6, HX1.out.cell 7, HX1.out.cell 8, HX1.out.cell 9, HX1.out.cell 10⟩)
    | (go_at_call 39
       ((with_reducible refine (qmade_flag true 1 rfl u1).mono ?_); rintro e u2 ⟨rfl, HB2'⟩)
       have HB2 := bel_trans HB1 HB2'
       have HX2 := qm_box_p HX0 HB2
       have HBASE2 : base ≤ u2.heap.size := by have := HB2.out.size; omega
       have HS2 : u2.cell? ⟨w.heap.size, 0, none⟩ = some (.int .i64 10) ∧ u2.cell? ⟨w.heap.size, 1, none⟩ = some (.string tx) ∧ u2.cell? ⟨w.heap.size, 2, none⟩ = some (.string va) ∧ u2.cell? ⟨w.heap.size, 3, none⟩ = some (.string la) ∧ u2.cell? ⟨w.heap.size, 4, none⟩ = some (.int .u32 co) ∧ u2.cell? ⟨w.heap.size, 5, none⟩ = some (.int .u32 ro) ∧ u2.cell? ⟨w.heap.size, 6, none⟩ = some (.int .u32 wi) ∧ u2.cell? ⟨w.heap.size, 7, none⟩ = some (.int .u32 he) ∧ u2.cell? ⟨w.heap.size, 8, none⟩ = some (.slice A n c) ∧ u2.cell? ⟨w.heap.size, 9, none⟩ = some (.bool true) ∧ u2.cell? ⟨w.heap.size, 10, none⟩ = some (.int .u32 cd) := ⟨HX2.out.cell 0, HX2.out.cell 1, HX2.out.cell 2, HX2.out.cell 3, HX2.out.cell 4, HX2.out.cell 5, HX2.out.cell 6, HX2.out.cell 7, HX2.out.cell 8, HX2.out.cell 9, HX2.out.cell 10⟩)
    | (go_at_call 37
       ((with_reducible refine (qmade_text base n_va va u2 hn_va hs_va HBASE2).mono ?_); rintro e u3 ⟨tA3, tc3, rfl, HB3', HT3⟩)
       have HB3 := bel_trans HB2 HB3'
       have HX3 := qm_box_p HX0 HB3
       have HBASE3 : base ≤ u3.heap.size := by have := HB3.out.size; omega
       have HS3 : u3.cell? ⟨w.heap.size, 0, none⟩ = some (.int .i64 10) ∧ u3.cell? ⟨w.heap.size, 1, none⟩ = some (.string tx) ∧ u3.cell? ⟨w.heap.size, 2, none⟩ = some (.string va) ∧ u3.cell? ⟨w.heap.size, 3, none⟩ = some (.string la) ∧ u3.cell? ⟨w.heap.size, 4, none⟩ = some (.int .u32 co) ∧ u3.cell? ⟨w.heap.size, 5, none⟩ = some (.int .u32 ro) ∧ u3.cell? ⟨w.heap.size, 6, none⟩ = some (.int .u32 wi) ∧ u3.cell? ⟨w.heap.size, 7, none⟩ = some (.int .u32 he) ∧ u3.cell? ⟨w.heap.size, 8, none⟩ = some (.slice A n c) ∧ u3.cell? ⟨w.heap.size, 9, none⟩ = some (.bool true) ∧ u3.cell? ⟨w.heap.size, 10, none⟩ = some (.int .u32 cd) := ⟨HX3.out.cell 0, HX3.out.cell 1, HX3.out.cell 2, HX3.out.cell 3, HX3.out.cell 4, HX3.out.cell 5, HX3.out.cell 6, HX3.out.cell 7, HX3.out.cell 8, HX3.out.cell 9, HX3.out.cell 10⟩)
    | (go_at_call 37
       ((with_reducible refine (qmade_text base n_la la u3 hn_la hs_la HBASE3).mono ?_); rintro e u4 ⟨tA4, tc4, rfl, HB4', HT4⟩)
       have HB4 := bel_trans HB3 HB4'
       have HX4 := qm_box_p HX0 HB4
       have HBASE4 : base ≤ u4.heap.size := by have := HB4.out.size; omega
       have HS4 : u4.cell? ⟨w.heap.size, 0, none⟩ = some (.int .i64 10) ∧ u4.cell? ⟨w.heap.size, 1, none⟩ = some (.string tx) ∧ u4.cell? ⟨w.heap.size, 2, none⟩ = some (.string va) ∧ u4.cell? ⟨w.heap.size, 3, none⟩ = some (.string la) ∧ u4.cell? ⟨w.heap.size, 4, none⟩ = some (.int .u32 co) ∧ u4.cell? ⟨w.heap.size, 5, none⟩ = some (.int .u32 ro) ∧ u4.cell? ⟨w.heap.size, 6, none⟩ = some (.int .u32 wi) ∧ u4.cell? ⟨w.heap.size, 7, none⟩ = some (.int .u32 he) ∧ u4.cell? ⟨w.heap.size, 8, none⟩ = some (.slice A n c) ∧ u4.cell? ⟨w.heap.size, 9, none⟩ = some (.bool true) ∧ u4.cell? ⟨w.heap.size, 10, none⟩ = some (.int .u32 cd) := ⟨HX4.out.cell 0, HX4.out.cell 1, HX4.out.cell 2, HX4.out.cell 3, HX4.out.cell 4, HX4.out.cell 5, HX4.out.cell 6, HX4.out.cell 7, HX4.out.cell 8, HX4.out.cell 9, HX4.out.cell 10⟩
       have HSA : ∀ o, (u4.alloc o).cell? ⟨w.heap.size, 0, none⟩ = some (.int .i64 10) ∧ (u4.alloc o).cell? ⟨w.heap.size, 1, none⟩ = some (.string tx) ∧ (u4.alloc o).cell? ⟨w.heap.size, 2, none⟩ = some (.string va) ∧ (u4.alloc o).cell? ⟨w.heap.size, 3, none⟩ = some (.string la) ∧ (u4.alloc o).cell? ⟨w.heap.size, 4, none⟩ = some (.int .u32 co) ∧ (u4.alloc o).cell? ⟨w.heap.size, 5, none⟩ = some (.int .u32 ro) ∧ (u4.alloc o).cell? ⟨w.heap.size, 6, none⟩ = some (.int .u32 wi) ∧ (u4.alloc o).cell? ⟨w.heap.size, 7, none⟩ = some (.int .u32 he) ∧ (u4.alloc o).cell? ⟨w.heap.size, 8, none⟩ = some (.slice A n c) ∧ (u4.alloc o).cell? ⟨w.heap.size, 9, none⟩ = some (.bool true) ∧ (u4.alloc o).cell? ⟨w.heap.size, 10, none⟩ = some (.int .u32 cd) := fun o => ⟨(qm_box_a HX4 o).out.cell 0, (qm_box_a HX4 o).out.cell 1, (qm_box_a HX4 o).out.cell 2, (qm_box_a HX4 o).out.cell 3, (qm_box_a HX4 o).out.cell 4, (qm_box_a HX4 o).out.cell 5, (qm_box_a HX4 o).out.cell 6, (qm_box_a HX4 o).out.cell 7, (qm_box_a HX4 o).out.cell 8, (qm_box_a HX4 o).out.cell 9, (qm_box_a HX4 o).out.cell 10⟩)))
  all_goals
    go_wp2
    go_ret
    have HTN4 := HT4.out
    have HTN3 := (HT3.out.below HB4'.out)
    have HTN1 := (((HT1.out.below HB2'.out).below HB3'.out).below HB4'.out)
    have hl := lit_lies u4 #[.int .i64 4, .int .u32 0, .slice tA1 n_tx tc1, .slice none 0 0, .int .i64 2, .int .u32 1, .slice none 0 0, .slice none 0 0, .int .i64 4, .int .u32 0, .slice tA3 n_va tc3, .slice none 0 0, .int .i64 4, .int .u32 0, .slice tA4 n_la tc4, .slice none 0 0] 80 (0, 0) u4.heap.size rfl
    subst hn_tx
    subst hn_va
    subst hn_la
    exact ⟨HB0.out.trans ((HB4.out.mono (by omega)).trans ((bel1 u4 _).mono (by have := HB4.out.size; omega))), _, rfl, _, hl.more (by simp), ⟨tA1, tc1, _, rfl, rfl, qm_tk_alloc HTN1 _, ⟨none, 0, _, rfl, rfl, TK.nil_ _ _, ⟨tA3, tc3, _, rfl, rfl, qm_tk_alloc HTN3 _, ⟨tA4, tc4, _, rfl, rfl, qm_tk_alloc HTN4 _, rfl⟩⟩⟩⟩⟩
set_option maxHeartbeats 4000000 in
set_option maxRecDepth 100000 in
theorem qfields_ends_false (base co ro wi he cd n c n_tx n_va n_la : Nat) (tx va la : ByteArray) (A : Option Addr) (w : World) (hb : base ≤ w.heap.size) (hn_tx : tx.data.toList.length = n_tx) (hn_va : va.data.toList.length = n_va) (hn_la : la.data.toList.length = n_la) (hs_tx : tx.size ≤ maxLen) (hs_va : va.size ≤ maxLen) (hs_la : la.size ≤ maxLen) :
    Calls Tryd.prog 24 #[.agg #[.int .i64 10, .string tx, .string va, .string la, .int .u32 co, .int .u32 ro, .int .u32 wi, .int .u32 he, .slice A n c, .bool false, .int .u32 cd]] w fun e w' => Hid (Below w.heap.size w w') ∧ ∃ A', e = .returned (.slice A' 4 4) ∧ Hid (∃ cs, Lies w' w'.heap.size A' cs ∧ FlatK w' base [⟨4, 0, tx.data.toList, []⟩, ⟨2, 0, [], []⟩, ⟨4, 0, va.data.toList, []⟩, ⟨4, 0, la.data.toList, []⟩] cs) := by
  have HX0 : Hid (Box (w.alloc (.cells #[.int .i64 10, .string tx, .string va, .string la, .int .u32 co, .int .u32 ro, .int .u32 wi, .int .u32 he, .slice A n c, .bool false, .int .u32 cd] 28)) w.heap.size 28 #[.int .i64 10, .string tx, .string va, .string la, .int .u32 co, .int .u32 ro, .int .u32 wi, .int .u32 he, .slice A n c, .bool false, .int .u32 cd]) := hid (Box.new w 28 _)
  have HB0 : Hid (Below w.heap.size w (w.alloc (.cells #[.int .i64 10, .string tx, .string va, .string la, .int .u32 co, .int .u32 ro, .int .u32 wi, .int .u32 he, .slice A n c, .bool false, .int .u32 cd] 28))) := bel1 w _
  have HZ0 : (w.alloc (.cells #[.int .i64 10, .string tx, .string va, .string la, .int .u32 co, .int .u32 ro, .int .u32 wi, .int .u32 he, .slice A n c, .bool false, .int .u32 cd] 28)).heap.size = w.heap.size + 1 := by simp
  have HBASE0 : base ≤ (w.alloc (.cells #[.int .i64 10, .string tx, .string va, .string la, .int .u32 co, .int .u32 ro, .int .u32 wi, .int .u32 he, .slice A n c, .bool false, .int .u32 cd] 28)).drew.heap.size := by show base ≤ (w.alloc (.cells #[.int .i64 10, .string tx, .string va, .string la, .int .u32 co, .int .u32 ro, .int .u32 wi, .int .u32 he, .slice A n c, .bool false, .int .u32 cd] 28)).heap.size; omega
  go_enter Tryd.func24, Tryd.ntmps24
  go_wp2
  generalize hW : w.alloc _ = u0 at HX0 HB0 HZ0 HBASE0
  have HW := hid hW
  clear hW
  have HS0 : u0.cell? ⟨w.heap.size, 0, none⟩ = some (.int .i64 10) ∧ u0.cell? ⟨w.heap.size, 1, none⟩ = some (.string tx) ∧ u0.cell? ⟨w.heap.size, 2, none⟩ = some (.string va) ∧ u0.cell? ⟨w.heap.size, 3, none⟩ = some (.string la) ∧ u0.cell? ⟨w.heap.size, 4, none⟩ = some (.int .u32 co) ∧ u0.cell? ⟨w.heap.size, 5, none⟩ = some (.int .u32 ro) ∧ u0.cell? ⟨w.heap.size, 6, none⟩ = some (.int .u32 wi) ∧ u0.cell? ⟨w.heap.size, 7, none⟩ = some (.int .u32 he) ∧ u0.cell? ⟨w.heap.size, 8, none⟩ = some (.slice A n c) ∧ u0.cell? ⟨w.heap.size, 9, none⟩ = some (.bool false) ∧ u0.cell? ⟨w.heap.size, 10, none⟩ = some (.int .u32 cd) := ⟨HX0.out.cell 0, HX0.out.cell 1, HX0.out.cell 2, HX0.out.cell 3, HX0.out.cell 4, HX0.out.cell 5, HX0.out.cell 6, HX0.out.cell 7, HX0.out.cell 8, HX0.out.cell 9, HX0.out.cell 10⟩
  go_region_held3 (fun u => u.cell? ⟨w.heap.size, 0, none⟩ = some (.int .i64 10) ∧ u.cell? ⟨w.heap.size, 1, none⟩ = some (.string tx) ∧ u.cell? ⟨w.heap.size, 2, none⟩ = some (.string va) ∧ u.cell? ⟨w.heap.size, 3, none⟩ = some (.string la) ∧ u.cell? ⟨w.heap.size, 4, none⟩ = some (.int .u32 co) ∧ u.cell? ⟨w.heap.size, 5, none⟩ = some (.int .u32 ro) ∧ u.cell? ⟨w.heap.size, 6, none⟩ = some (.int .u32 wi) ∧ u.cell? ⟨w.heap.size, 7, none⟩ = some (.int .u32 he) ∧ u.cell? ⟨w.heap.size, 8, none⟩ = some (.slice A n c) ∧ u.cell? ⟨w.heap.size, 9, none⟩ = some (.bool false) ∧ u.cell? ⟨w.heap.size, 10, none⟩ = some (.int .u32 cd)) (first | exact HS0 | exact HS1 | exact HS2 | exact HS3 | exact HS4 | exact HSA _) ((first
    | (go_at_call 37
       ((with_reducible refine (qmade_text base n_tx tx u0.drew hn_tx hs_tx HBASE0).mono ?_); rintro e u1 ⟨tA1, tc1, rfl, HB1', HT1⟩)
       have HB1 : Hid (Below u0.heap.size u0 u1) := hid ⟨HB1'.out.os, HB1'.out.tape, HB1'.out.output, HB1'.out.size, HB1'.out.block⟩
       have HX1 := qm_box_p HX0 HB1
       have HBASE1 : base ≤ u1.heap.size := by have := HB1.out.size; omega
       have HS1 : u1.cell? ⟨w.heap.size, 0, none⟩ = some (.int .i64 10) ∧ u1.cell? ⟨w.heap.size, 1, none⟩ = some (.string tx) ∧ u1.cell? ⟨w.heap.size, 2, none⟩ = some (.string va) ∧ u1.cell? ⟨w.heap.size, 3, none⟩ = some (.string la) ∧ u1.cell? ⟨w.heap.size, 4, none⟩ = some (.int .u32 co) ∧ u1.cell? ⟨w.heap.size, 5, none⟩ = some (.int .u32 ro) ∧ u1.cell? ⟨w.heap.size, 6, none⟩ = some (.int .u32 wi) ∧ u1.cell? ⟨w.heap.size, 7, none⟩ = some (.int .u32 he) ∧ u1.cell? ⟨w.heap.size, 8, none⟩ = some (.slice A n c) ∧ u1.cell? ⟨w.heap.size, 9, none⟩ = some (.bool false) ∧ u1.cell? ⟨w.heap.size, 10, none⟩ = some (.int .u32 cd) := ⟨HX1.out.cell 0, HX1.out.cell 1, HX1.out.cell 2, HX1.out.cell 3, HX1.out.cell 4, HX1.out.cell 5, HX1.out.cell 6, HX1.out.cell 7, HX1.out.cell 8, HX1.out.cell 9, HX1.out.cell 10⟩)
    | (go_at_call 39
       ((with_reducible refine (qmade_flag false 0 rfl u1).mono ?_); rintro e u2 ⟨rfl, HB2'⟩)
       have HB2 := bel_trans HB1 HB2'
       have HX2 := qm_box_p HX0 HB2
       have HBASE2 : base ≤ u2.heap.size := by have := HB2.out.size; omega
       have HS2 : u2.cell? ⟨w.heap.size, 0, none⟩ = some (.int .i64 10) ∧ u2.cell? ⟨w.heap.size, 1, none⟩ = some (.string tx) ∧ u2.cell? ⟨w.heap.size, 2, none⟩ = some (.string va) ∧ u2.cell? ⟨w.heap.size, 3, none⟩ = some (.string la) ∧ u2.cell? ⟨w.heap.size, 4, none⟩ = some (.int .u32 co) ∧ u2.cell? ⟨w.heap.size, 5, none⟩ = some (.int .u32 ro) ∧ u2.cell? ⟨w.heap.size, 6, none⟩ = some (.int .u32 wi) ∧ u2.cell? ⟨w.heap.size, 7, none⟩ = some (.int .u32 he) ∧ u2.cell? ⟨w.heap.size, 8, none⟩ = some (.slice A n c) ∧ u2.cell? ⟨w.heap.size, 9, none⟩ = some (.bool false) ∧ u2.cell? ⟨w.heap.size, 10, none⟩ = some (.int .u32 cd) := ⟨HX2.out.cell 0, HX2.out.cell 1, HX2.out.cell 2, HX2.out.cell 3, HX2.out.cell 4, HX2.out.cell 5, HX2.out.cell 6, HX2.out.cell 7, HX2.out.cell 8, HX2.out.cell 9, HX2.out.cell 10⟩)
    | (go_at_call 37
       ((with_reducible refine (qmade_text base n_va va u2 hn_va hs_va HBASE2).mono ?_); rintro e u3 ⟨tA3, tc3, rfl, HB3', HT3⟩)
       have HB3 := bel_trans HB2 HB3'
       have HX3 := qm_box_p HX0 HB3
       have HBASE3 : base ≤ u3.heap.size := by have := HB3.out.size; omega
       have HS3 : u3.cell? ⟨w.heap.size, 0, none⟩ = some (.int .i64 10) ∧ u3.cell? ⟨w.heap.size, 1, none⟩ = some (.string tx) ∧ u3.cell? ⟨w.heap.size, 2, none⟩ = some (.string va) ∧ u3.cell? ⟨w.heap.size, 3, none⟩ = some (.string la) ∧ u3.cell? ⟨w.heap.size, 4, none⟩ = some (.int .u32 co) ∧ u3.cell? ⟨w.heap.size, 5, none⟩ = some (.int .u32 ro) ∧ u3.cell? ⟨w.heap.size, 6, none⟩ = some (.int .u32 wi) ∧ u3.cell? ⟨w.heap.size, 7, none⟩ = some (.int .u32 he) ∧ u3.cell? ⟨w.heap.size, 8, none⟩ = some (.slice A n c) ∧ u3.cell? ⟨w.heap.size, 9, none⟩ = some (.bool false) ∧ u3.cell? ⟨w.heap.size, 10, none⟩ = some (.int .u32 cd) := ⟨HX3.out.cell 0, HX3.out.cell 1, HX3.out.cell 2, HX3.out.cell 3, HX3.out.cell 4, HX3.out.cell 5, HX3.out.cell 6, HX3.out.cell 7, HX3.out.cell 8, HX3.out.cell 9, HX3.out.cell 10⟩)
    | (go_at_call 37
       ((with_reducible refine (qmade_text base n_la la u3 hn_la hs_la HBASE3).mono ?_); rintro e u4 ⟨tA4, tc4, rfl, HB4', HT4⟩)
       have HB4 := bel_trans HB3 HB4'
       have HX4 := qm_box_p HX0 HB4
       have HBASE4 : base ≤ u4.heap.size := by have := HB4.out.size; omega
       have HS4 : u4.cell? ⟨w.heap.size, 0, none⟩ = some (.int .i64 10) ∧ u4.cell? ⟨w.heap.size, 1, none⟩ = some (.string tx) ∧ u4.cell? ⟨w.heap.size, 2, none⟩ = some (.string va) ∧ u4.cell? ⟨w.heap.size, 3, none⟩ = some (.string la) ∧ u4.cell? ⟨w.heap.size, 4, none⟩ = some (.int .u32 co) ∧ u4.cell? ⟨w.heap.size, 5, none⟩ = some (.int .u32 ro) ∧ u4.cell? ⟨w.heap.size, 6, none⟩ = some (.int .u32 wi) ∧ u4.cell? ⟨w.heap.size, 7, none⟩ = some (.int .u32 he) ∧ u4.cell? ⟨w.heap.size, 8, none⟩ = some (.slice A n c) ∧ u4.cell? ⟨w.heap.size, 9, none⟩ = some (.bool false) ∧ u4.cell? ⟨w.heap.size, 10, none⟩ = some (.int .u32 cd) := ⟨HX4.out.cell 0, HX4.out.cell 1, HX4.out.cell 2, HX4.out.cell 3, HX4.out.cell 4, HX4.out.cell 5, HX4.out.cell 6, HX4.out.cell 7, HX4.out.cell 8, HX4.out.cell 9, HX4.out.cell 10⟩
       have HSA : ∀ o, (u4.alloc o).cell? ⟨w.heap.size, 0, none⟩ = some (.int .i64 10) ∧ (u4.alloc o).cell? ⟨w.heap.size, 1, none⟩ = some (.string tx) ∧ (u4.alloc o).cell? ⟨w.heap.size, 2, none⟩ = some (.string va) ∧ (u4.alloc o).cell? ⟨w.heap.size, 3, none⟩ = some (.string la) ∧ (u4.alloc o).cell? ⟨w.heap.size, 4, none⟩ = some (.int .u32 co) ∧ (u4.alloc o).cell? ⟨w.heap.size, 5, none⟩ = some (.int .u32 ro) ∧ (u4.alloc o).cell? ⟨w.heap.size, 6, none⟩ = some (.int .u32 wi) ∧ (u4.alloc o).cell? ⟨w.heap.size, 7, none⟩ = some (.int .u32 he) ∧ (u4.alloc o).cell? ⟨w.heap.size, 8, none⟩ = some (.slice A n c) ∧ (u4.alloc o).cell? ⟨w.heap.size, 9, none⟩ = some (.bool false) ∧ (u4.alloc o).cell? ⟨w.heap.size, 10, none⟩ = some (.int .u32 cd) := fun o => ⟨(qm_box_a HX4 o).out.cell 0, (qm_box_a HX4 o).out.cell 1, (qm_box_a HX4 o).out.cell 2, (qm_box_a HX4 o).out.cell 3, (qm_box_a HX4 o).out.cell 4, (qm_box_a HX4 o).out.cell 5, (qm_box_a HX4 o).out.cell 6, (qm_box_a HX4 o).out.cell 7, (qm_box_a HX4 o).out.cell 8, (qm_box_a HX4 o).out.cell 9, (qm_box_a HX4 o).out.cell 10⟩)))
  all_goals
    go_wp2
    go_ret
    have HTN4 := HT4.out
    have HTN3 := (HT3.out.below HB4'.out)
    have HTN1 := (((HT1.out.below HB2'.out).below HB3'.out).below HB4'.out)
    have hl := lit_lies u4 #[.int .i64 4, .int .u32 0, .slice tA1 n_tx tc1, .slice none 0 0, .int .i64 2, .int .u32 0, .slice none 0 0, .slice none 0 0, .int .i64 4, .int .u32 0, .slice tA3 n_va tc3, .slice none 0 0, .int .i64 4, .int .u32 0, .slice tA4 n_la tc4, .slice none 0 0] 80 (0, 0) u4.heap.size rfl
    subst hn_tx
    subst hn_va
    subst hn_la
    exact ⟨HB0.out.trans ((HB4.out.mono (by omega)).trans ((bel1 u4 _).mono (by have := HB4.out.size; omega))), _, rfl, _, hl.more (by simp), ⟨tA1, tc1, _, rfl, rfl, qm_tk_alloc HTN1 _, ⟨none, 0, _, rfl, rfl, TK.nil_ _ _, ⟨tA3, tc3, _, rfl, rfl, qm_tk_alloc HTN3 _, ⟨tA4, tc4, _, rfl, rfl, qm_tk_alloc HTN4 _, rfl⟩⟩⟩⟩⟩
set_option maxHeartbeats 2000000 in
set_option maxRecDepth 100000 in
theorem qfields_exec (base co ro wi he cd n c : Nat) (tx va la : ByteArray) (on : Bool) (A : Option Addr) (w : World) (hb : base ≤ w.heap.size) (hs : tx.size ≤ maxLen) :
    Calls Tryd.prog 24 #[.agg #[.int .i64 4, .string tx, .string va, .string la, .int .u32 co, .int .u32 ro, .int .u32 wi, .int .u32 he, .slice A n c, .bool on, .int .u32 cd]] w fun e w' => Hid (Below w.heap.size w w') ∧ ∃ A', e = .returned (.slice A' 1 1) ∧ Hid (∃ cs, Lies w' w'.heap.size A' cs ∧ FlatK w' base [⟨4, 0, tx.data.toList, []⟩] cs) := by
  obtain ⟨tl, HTL⟩ : ∃ n, Hid (tx.data.toList.length = n) := ⟨_, hid rfl⟩
  go_enter Tryd.func24, Tryd.ntmps24
  go_wp2_with (
    go_at_call 37
    ((with_reducible refine (qmade_text base tl tx _ HTL.out hs (by simp; omega)).mono ?_); rintro e u1 ⟨tA1, tc1, rfl, HB1', HT1⟩)
    have HB1 : Hid (Below w.heap.size w u1) := hid ((bel1 w _).trans (HB1'.out.mono (by simp))))
  go_ret
  have hl := lit_lies u1 #[.int .i64 4, .int .u32 0, .slice tA1 tl tc1, .slice none 0 0] 80 (0, 0) u1.heap.size rfl
  exact ⟨HB1.out.trans ((bel1 u1 _).mono HB1.out.size), _, rfl, _, hl.more (by simp), ⟨tA1, tc1, _, by rw [HTL.out]; rfl, rfl, qm_tk_alloc HT1.out _, rfl⟩⟩
set_option maxHeartbeats 2000000 in
set_option maxRecDepth 100000 in
theorem qfields_subsystem (base co ro wi he cd n c : Nat) (tx va la : ByteArray) (on : Bool) (A : Option Addr) (w : World) (hb : base ≤ w.heap.size) (hs : tx.size ≤ maxLen) :
    Calls Tryd.prog 24 #[.agg #[.int .i64 5, .string tx, .string va, .string la, .int .u32 co, .int .u32 ro, .int .u32 wi, .int .u32 he, .slice A n c, .bool on, .int .u32 cd]] w fun e w' => Hid (Below w.heap.size w w') ∧ ∃ A', e = .returned (.slice A' 1 1) ∧ Hid (∃ cs, Lies w' w'.heap.size A' cs ∧ FlatK w' base [⟨4, 0, tx.data.toList, []⟩] cs) := by
  obtain ⟨tl, HTL⟩ : ∃ n, Hid (tx.data.toList.length = n) := ⟨_, hid rfl⟩
  go_enter Tryd.func24, Tryd.ntmps24
  go_wp2_with (
    go_at_call 37
    ((with_reducible refine (qmade_text base tl tx _ HTL.out hs (by simp; omega)).mono ?_); rintro e u1 ⟨tA1, tc1, rfl, HB1', HT1⟩)
    have HB1 : Hid (Below w.heap.size w u1) := hid ((bel1 w _).trans (HB1'.out.mono (by simp))))
  go_ret
  have hl := lit_lies u1 #[.int .i64 4, .int .u32 0, .slice tA1 tl tc1, .slice none 0 0] 80 (0, 0) u1.heap.size rfl
  exact ⟨HB1.out.trans ((bel1 u1 _).mono HB1.out.size), _, rfl, _, hl.more (by simp), ⟨tA1, tc1, _, by rw [HTL.out]; rfl, rfl, qm_tk_alloc HT1.out _, rfl⟩⟩
set_option maxHeartbeats 2000000 in
set_option maxRecDepth 100000 in
theorem qfields_signal (base co ro wi he cd n c : Nat) (tx va la : ByteArray) (on : Bool) (A : Option Addr) (w : World) (hb : base ≤ w.heap.size) (hs : tx.size ≤ maxLen) :
    Calls Tryd.prog 24 #[.agg #[.int .i64 8, .string tx, .string va, .string la, .int .u32 co, .int .u32 ro, .int .u32 wi, .int .u32 he, .slice A n c, .bool on, .int .u32 cd]] w fun e w' => Hid (Below w.heap.size w w') ∧ ∃ A', e = .returned (.slice A' 1 1) ∧ Hid (∃ cs, Lies w' w'.heap.size A' cs ∧ FlatK w' base [⟨4, 0, tx.data.toList, []⟩] cs) := by
  obtain ⟨tl, HTL⟩ : ∃ n, Hid (tx.data.toList.length = n) := ⟨_, hid rfl⟩
  go_enter Tryd.func24, Tryd.ntmps24
  go_wp2_with (
    go_at_call 37
    ((with_reducible refine (qmade_text base tl tx _ HTL.out hs (by simp; omega)).mono ?_); rintro e u1 ⟨tA1, tc1, rfl, HB1', HT1⟩)
    have HB1 : Hid (Below w.heap.size w u1) := hid ((bel1 w _).trans (HB1'.out.mono (by simp))))
  go_ret
  have hl := lit_lies u1 #[.int .i64 4, .int .u32 0, .slice tA1 tl tc1, .slice none 0 0] 80 (0, 0) u1.heap.size rfl
  exact ⟨HB1.out.trans ((bel1 u1 _).mono HB1.out.size), _, rfl, _, hl.more (by simp), ⟨tA1, tc1, _, by rw [HTL.out]; rfl, rfl, qm_tk_alloc HT1.out _, rfl⟩⟩
set_option maxHeartbeats 2000000 in
set_option maxRecDepth 100000 in
theorem qfields_xon_true (base co ro wi he cd n c : Nat) (tx va la : ByteArray) (A : Option Addr) (w : World) (_hb : base ≤ w.heap.size) (_hs : tx.size ≤ maxLen) :
    Calls Tryd.prog 24 #[.agg #[.int .i64 7, .string tx, .string va, .string la, .int .u32 co, .int .u32 ro, .int .u32 wi, .int .u32 he, .slice A n c, .bool true, .int .u32 cd]] w fun e w' => Hid (Below w.heap.size w w') ∧ ∃ A', e = .returned (.slice A' 1 1) ∧ Hid (∃ cs, Lies w' w'.heap.size A' cs ∧ FlatK w' base [⟨2, 1, [], []⟩] cs) := by
  go_enter Tryd.func24, Tryd.ntmps24
  go_wp2_with (
    go_at_call 39
    ((with_reducible refine (qmade_flag true 1 rfl _).mono ?_); rintro e u1 ⟨rfl, HB1'⟩)
    have HB1 : Hid (Below w.heap.size w u1) := hid ((bel1 w _).trans (HB1'.out.mono (by simp))))
  go_ret
  have hl := lit_lies u1 #[.int .i64 2, .int .u32 1, .slice none 0 0, .slice none 0 0] 80 (0, 0) u1.heap.size rfl
  exact ⟨HB1.out.trans ((bel1 u1 _).mono HB1.out.size), _, rfl, _, hl.more (by simp), ⟨none, 0, _, rfl, rfl, TK.nil_ _ _, rfl⟩⟩
set_option maxHeartbeats 2000000 in
set_option maxRecDepth 100000 in
theorem qfields_xon_false (base co ro wi he cd n c : Nat) (tx va la : ByteArray) (A : Option Addr) (w : World) (_hb : base ≤ w.heap.size) (_hs : tx.size ≤ maxLen) :
    Calls Tryd.prog 24 #[.agg #[.int .i64 7, .string tx, .string va, .string la, .int .u32 co, .int .u32 ro, .int .u32 wi, .int .u32 he, .slice A n c, .bool false, .int .u32 cd]] w fun e w' => Hid (Below w.heap.size w w') ∧ ∃ A', e = .returned (.slice A' 1 1) ∧ Hid (∃ cs, Lies w' w'.heap.size A' cs ∧ FlatK w' base [⟨2, 0, [], []⟩] cs) := by
  go_enter Tryd.func24, Tryd.ntmps24
  go_wp2_with (
    go_at_call 39
    ((with_reducible refine (qmade_flag false 0 rfl _).mono ?_); rintro e u1 ⟨rfl, HB1'⟩)
    have HB1 : Hid (Below w.heap.size w u1) := hid ((bel1 w _).trans (HB1'.out.mono (by simp))))
  go_ret
  have hl := lit_lies u1 #[.int .i64 2, .int .u32 0, .slice none 0 0, .slice none 0 0] 80 (0, 0) u1.heap.size rfl
  exact ⟨HB1.out.trans ((bel1 u1 _).mono HB1.out.size), _, rfl, _, hl.more (by simp), ⟨none, 0, _, rfl, rfl, TK.nil_ _ _, rfl⟩⟩
set_option maxHeartbeats 2000000 in
set_option maxRecDepth 100000 in
theorem qfields_status (base co ro wi he cd n c : Nat) (tx va la : ByteArray) (on : Bool) (A : Option Addr) (w : World) (_hb : base ≤ w.heap.size) (_hs : tx.size ≤ maxLen) :
    Calls Tryd.prog 24 #[.agg #[.int .i64 9, .string tx, .string va, .string la, .int .u32 co, .int .u32 ro, .int .u32 wi, .int .u32 he, .slice A n c, .bool on, .int .u32 cd]] w fun e w' => Hid (Below w.heap.size w w') ∧ ∃ A', e = .returned (.slice A' 1 1) ∧ Hid (∃ cs, Lies w' w'.heap.size A' cs ∧ FlatK w' base [⟨3, cd, [], []⟩] cs) := by
  go_enter Tryd.func24, Tryd.ntmps24
  go_wp2_with (
    go_at_call 40
    ((with_reducible refine (qmade_num cd _).mono ?_); rintro e u1 ⟨rfl, HB1'⟩)
    have HB1 : Hid (Below w.heap.size w u1) := hid ((bel1 w _).trans (HB1'.out.mono (by simp))))
  go_ret
  have hl := lit_lies u1 #[.int .i64 3, .int .u32 cd, .slice none 0 0, .slice none 0 0] 80 (0, 0) u1.heap.size rfl
  exact ⟨HB1.out.trans ((bel1 u1 _).mono HB1.out.size), _, rfl, _, hl.more (by simp), ⟨none, 0, _, rfl, rfl, TK.nil_ _ _, rfl⟩⟩
set_option maxHeartbeats 2000000 in
set_option maxRecDepth 100000 in
theorem qfields_change (base co ro wi he cd n c : Nat) (tx va la : ByteArray) (on : Bool) (A : Option Addr) (w : World) (hb : base ≤ w.heap.size) (_hs : tx.size ≤ maxLen) :
    Calls Tryd.prog 24 #[.agg #[.int .i64 6, .string tx, .string va, .string la, .int .u32 co, .int .u32 ro, .int .u32 wi, .int .u32 he, .slice A n c, .bool on, .int .u32 cd]] w fun e w' => Hid (Below w.heap.size w w') ∧ ∃ A', e = .returned (.slice A' 4 4) ∧ Hid (∃ cs, Lies w' w'.heap.size A' cs ∧ FlatK w' base [⟨3, co, [], []⟩, ⟨3, ro, [], []⟩, ⟨3, wi, [], []⟩, ⟨3, he, [], []⟩] cs) := by
  go_enter Tryd.func24, Tryd.ntmps24
  go_wp2_with (
    go_at_call 38
    ((with_reducible refine (qsize_any base co ro wi he _ (by simp; omega)).mono ?_); rintro e u1 ⟨HB1', A1, rfl, HC1⟩)
    have HB1 : Hid (Below w.heap.size w u1) := hid ((bel1 w _).trans (HB1'.out.mono (by simp))))
  go_ret
  exact ⟨HB1.out, _, rfl, HC1.out⟩
set_option maxHeartbeats 2000000 in
set_option maxRecDepth 100000 in
theorem qfields_shell (base co ro wi he cd n c : Nat) (tx va la : ByteArray) (on : Bool) (A : Option Addr) (w : World) (_hb : base ≤ w.heap.size) (_hs : tx.size ≤ maxLen) :
    Calls Tryd.prog 24 #[.agg #[.int .i64 3, .string tx, .string va, .string la, .int .u32 co, .int .u32 ro, .int .u32 wi, .int .u32 he, .slice A n c, .bool on, .int .u32 cd]] w fun e w' => Hid (Below w.heap.size w w') ∧ e = .returned (.slice none 0 0) := by
  go_enter Tryd.func24, Tryd.ntmps24
  go_wp2
  go_ret
  exact ⟨bel1 w _, rfl⟩
end Go.Proofs.YtdplngplljejhaaDoor
