import Derived.Test.YtlmdbcmaophhnaaDoorRC
namespace Go.Proofs.YtlmdbcmaophhnaaDoor
open Go.RowKit

theorem kept10 {w : World} {g base : Nat} {cs : Array Value} (h : Box w g 25 cs) (hb : base ≤ g) (u0 u1 u2 u3 u4 u5 u6 u7 u8 u9 : Value) : Kept base [25] w ((((((((((w.setCell ⟨g, 0, none⟩ u0).setCell ⟨g, 1, none⟩ u1).setCell ⟨g, 2, none⟩ u2).setCell ⟨g, 3, none⟩ u3).setCell ⟨g, 4, none⟩ u4).setCell ⟨g, 5, none⟩ u5).setCell ⟨g, 6, none⟩ u6).setCell ⟨g, 7, none⟩ u7).setCell ⟨g, 8, none⟩ u8).setCell ⟨g, 9, none⟩ u9) := by
  have h1 := h.store 0 u0
  have h2 := h1.store 1 u1
  have h3 := h2.store 2 u2
  have h4 := h3.store 3 u3
  have h5 := h4.store 4 u4
  have h6 := h5.store 5 u5
  have h7 := h6.store 6 u6
  have h8 := h7.store 7 u7
  have h9 := h8.store 8 u8
  exact (((((((((((Kept.refl base [25] w).store h hb (by simp) u0).store h1 hb (by simp) u1).store h2 hb (by simp) u2).store h3 hb (by simp) u3).store h4 hb (by simp) u4).store h5 hb (by simp) u5).store h6 hb (by simp) u6).store h7 hb (by simp) u7).store h8 hb (by simp) u8).store h9 hb (by simp) u9)

set_option maxHeartbeats 4000000 in
set_option maxRecDepth 100000 in
theorem copy_m (w : World) (m : Mg) (A : Option Addr) (c l : Nat) (hl : m.data.length = l) (hle : l ≤ 100000) (hd : TK w w.heap.size A c m.data) :
    Calls Tryd.prog 10 #[.agg #[.int .i64 m.kind, .int .u32 m.chan, .int .u32 m.sender, .int .u32 m.window, .int .u32 m.packet, .int .u32 m.code, .string m.name, .string m.lang, .bool m.want, .slice A l c]] w fun e w' => ∃ A' c', e = .returned (.agg #[.int .i64 m.kind, .int .u32 m.chan, .int .u32 m.sender, .int .u32 m.window, .int .u32 m.packet, .int .u32 m.code, .string m.name, .string m.lang, .bool m.want, .slice A' l c']) ∧ Hid (w'.ownsRow w.heap.size 5 1 (.slice A' l c') l (bv m.data)) ∧ Hid (Below w.heap.size w w') := by
  have hlc : l ≤ c := by have := hd.1; omega
  have hcm : c ≤ maxLen := hd.2.1
  unfold maxLen at hcm
  have HLI := hid hd.lies
  have HL := hid hl
  clear hd hl
  obtain ⟨i5, hi5, hj5, hj51, hj52⟩ := info_parts Tryd.info5
  go_enter Tryd.func10, Tryd.ntmps10
  go_wp2_with (first
  | (at_builtin
     (
       refine wpList_app _ rfl (.tmp 3) (.tmp 5) 23 rfl w.heap.size 5 i5 _ 1 1 Tryd.underlying23 hi5 hj5 hj51 hj52 rfl (by decide) _ 0 0 [] rfl (lit_own (by simp <;> omega) (by simp)) w.heap.size A l c (bv m.data) rfl (by simp [bv, HL.out]) ?g2 (bv_one _) ?g3 ?g4 ?g5 ?_
       case g2 => exact ((HLI.out.alloc (by omega) _).alloc (by simp <;> omega) _).alloc (by simp <;> omega) _
       case g3 => unfold maxLen; omega
       case g4 => omega
       case g5 => simp <;> omega
       intro A1 c1 w4 ho4 hg4
       simp only [Nat.zero_add, List.nil_append] at ho4 ⊢
       have hb4 := lit_grown (by simp) hg4
       have hx4 : Box w4 w.heap.size 25 #[.int .i64 m.kind, .int .u32 m.chan, .int .u32 m.sender, .int .u32 m.window, .int .u32 m.packet, .int .u32 m.code, .string m.name, .string m.lang, .bool m.want, .slice A l c] := box_below (box_below (Box.new w 25 _) (bel1 _ _)) hb4
       have hz4 : Box w4 (w.heap.size + 1) 25 #[.int .i64 0, .int .u32 0, .int .u32 0, .int .u32 0, .int .u32 0, .int .u32 0, .string ⟨#[]⟩, .string ⟨#[]⟩, .bool false, .slice none 0 0] := by
         have h := box_below (Box.new (w.alloc (.cells #[.int .i64 m.kind, .int .u32 m.chan, .int .u32 m.sender, .int .u32 m.window, .int .u32 m.packet, .int .u32 m.code, .string m.name, .string m.lang, .bool m.want, .slice A l c] 25)) 25 #[.int .i64 0, .int .u32 0, .int .u32 0, .int .u32 0, .int .u32 0, .int .u32 0, .string ⟨#[]⟩, .string ⟨#[]⟩, .bool false, .slice none 0 0]) hb4
         simpa using h
       have c49 : w4.cell? ⟨w.heap.size, 9, none⟩ = some (.slice A l c) := hx4.cell 9
       have f49 : w4.frozen? ⟨w.heap.size, 9, none⟩ = false := hx4.frozen 9
       have hx5 := hx4.store 9 (.slice A1 l c1)
       have hz5 : Box (w4.setCell ⟨w.heap.size, 9, none⟩ (.slice A1 l c1)) (w.heap.size + 1) 25 #[.int .i64 0, .int .u32 0, .int .u32 0, .int .u32 0, .int .u32 0, .int .u32 0, .string ⟨#[]⟩, .string ⟨#[]⟩, .bool false, .slice none 0 0] := hz4.same (Below.heap_setCell _ _ _ _ (by simp))
       have k0 : (w4.setCell ⟨w.heap.size, 9, none⟩ (.slice A1 l c1)).cell? ⟨w.heap.size, 0, none⟩ = some (.int .i64 m.kind) := hx5.cell 0
       have k1 : (w4.setCell ⟨w.heap.size, 9, none⟩ (.slice A1 l c1)).cell? ⟨w.heap.size, 1, none⟩ = some (.int .u32 m.chan) := hx5.cell 1
       have k2 : (w4.setCell ⟨w.heap.size, 9, none⟩ (.slice A1 l c1)).cell? ⟨w.heap.size, 2, none⟩ = some (.int .u32 m.sender) := hx5.cell 2
       have k3 : (w4.setCell ⟨w.heap.size, 9, none⟩ (.slice A1 l c1)).cell? ⟨w.heap.size, 3, none⟩ = some (.int .u32 m.window) := hx5.cell 3
       have k4 : (w4.setCell ⟨w.heap.size, 9, none⟩ (.slice A1 l c1)).cell? ⟨w.heap.size, 4, none⟩ = some (.int .u32 m.packet) := hx5.cell 4
       have k5 : (w4.setCell ⟨w.heap.size, 9, none⟩ (.slice A1 l c1)).cell? ⟨w.heap.size, 5, none⟩ = some (.int .u32 m.code) := hx5.cell 5
       have k6 : (w4.setCell ⟨w.heap.size, 9, none⟩ (.slice A1 l c1)).cell? ⟨w.heap.size, 6, none⟩ = some (.string m.name) := hx5.cell 6
       have k7 : (w4.setCell ⟨w.heap.size, 9, none⟩ (.slice A1 l c1)).cell? ⟨w.heap.size, 7, none⟩ = some (.string m.lang) := hx5.cell 7
       have k8 : (w4.setCell ⟨w.heap.size, 9, none⟩ (.slice A1 l c1)).cell? ⟨w.heap.size, 8, none⟩ = some (.bool m.want) := hx5.cell 8
       have k9 : (w4.setCell ⟨w.heap.size, 9, none⟩ (.slice A1 l c1)).cell? ⟨w.heap.size, 9, none⟩ = some (.slice A1 l c1) := hx5.cell 9
       have d0 : (w4.setCell ⟨w.heap.size, 9, none⟩ (.slice A1 l c1)).cell? ⟨w.heap.size + 1, 0, none⟩ = some (.int .i64 0) := hz5.cell 0
       have f0 : (w4.setCell ⟨w.heap.size, 9, none⟩ (.slice A1 l c1)).frozen? ⟨w.heap.size + 1, 0, none⟩ = false := hz5.frozen 0
       have d1 : (w4.setCell ⟨w.heap.size, 9, none⟩ (.slice A1 l c1)).cell? ⟨w.heap.size + 1, 1, none⟩ = some (.int .u32 0) := hz5.cell 1
       have f1 : (w4.setCell ⟨w.heap.size, 9, none⟩ (.slice A1 l c1)).frozen? ⟨w.heap.size + 1, 1, none⟩ = false := hz5.frozen 1
       have d2 : (w4.setCell ⟨w.heap.size, 9, none⟩ (.slice A1 l c1)).cell? ⟨w.heap.size + 1, 2, none⟩ = some (.int .u32 0) := hz5.cell 2
       have f2 : (w4.setCell ⟨w.heap.size, 9, none⟩ (.slice A1 l c1)).frozen? ⟨w.heap.size + 1, 2, none⟩ = false := hz5.frozen 2
       have d3 : (w4.setCell ⟨w.heap.size, 9, none⟩ (.slice A1 l c1)).cell? ⟨w.heap.size + 1, 3, none⟩ = some (.int .u32 0) := hz5.cell 3
       have f3 : (w4.setCell ⟨w.heap.size, 9, none⟩ (.slice A1 l c1)).frozen? ⟨w.heap.size + 1, 3, none⟩ = false := hz5.frozen 3
       have d4 : (w4.setCell ⟨w.heap.size, 9, none⟩ (.slice A1 l c1)).cell? ⟨w.heap.size + 1, 4, none⟩ = some (.int .u32 0) := hz5.cell 4
       have f4 : (w4.setCell ⟨w.heap.size, 9, none⟩ (.slice A1 l c1)).frozen? ⟨w.heap.size + 1, 4, none⟩ = false := hz5.frozen 4
       have d5 : (w4.setCell ⟨w.heap.size, 9, none⟩ (.slice A1 l c1)).cell? ⟨w.heap.size + 1, 5, none⟩ = some (.int .u32 0) := hz5.cell 5
       have f5 : (w4.setCell ⟨w.heap.size, 9, none⟩ (.slice A1 l c1)).frozen? ⟨w.heap.size + 1, 5, none⟩ = false := hz5.frozen 5
       have d6 : (w4.setCell ⟨w.heap.size, 9, none⟩ (.slice A1 l c1)).cell? ⟨w.heap.size + 1, 6, none⟩ = some (.string ⟨#[]⟩) := hz5.cell 6
       have f6 : (w4.setCell ⟨w.heap.size, 9, none⟩ (.slice A1 l c1)).frozen? ⟨w.heap.size + 1, 6, none⟩ = false := hz5.frozen 6
       have d7 : (w4.setCell ⟨w.heap.size, 9, none⟩ (.slice A1 l c1)).cell? ⟨w.heap.size + 1, 7, none⟩ = some (.string ⟨#[]⟩) := hz5.cell 7
       have f7 : (w4.setCell ⟨w.heap.size, 9, none⟩ (.slice A1 l c1)).frozen? ⟨w.heap.size + 1, 7, none⟩ = false := hz5.frozen 7
       have d8 : (w4.setCell ⟨w.heap.size, 9, none⟩ (.slice A1 l c1)).cell? ⟨w.heap.size + 1, 8, none⟩ = some (.bool false) := hz5.cell 8
       have f8 : (w4.setCell ⟨w.heap.size, 9, none⟩ (.slice A1 l c1)).frozen? ⟨w.heap.size + 1, 8, none⟩ = false := hz5.frozen 8
       have d9 : (w4.setCell ⟨w.heap.size, 9, none⟩ (.slice A1 l c1)).cell? ⟨w.heap.size + 1, 9, none⟩ = some (.slice none 0 0) := hz5.cell 9
       have f9 : (w4.setCell ⟨w.heap.size, 9, none⟩ (.slice A1 l c1)).frozen? ⟨w.heap.size + 1, 9, none⟩ = false := hz5.frozen 9
       have hb04 : Below w.heap.size w w4 := ((bel1 w _).trans ((bel1 _ _).mono (by simp))).trans (hb4.mono (by simp <;> omega))
       have K5 := hid ((Kept.refl w.heap.size [25] w4).store hx4 (Nat.le_refl _) (by simp) (i := 9) (.slice A1 l c1))
       have HZ5 := hid hz5
       have HO4 := hid ho4
       have HB4 := hid hb04
       clear ho4 hg4 hb4 hx4 hz4 hx5 hz5 hb04)))
  refine bodyPost_ret (v := .agg #[.int .i64 m.kind, .int .u32 m.chan, .int .u32 m.sender, .int .u32 m.window, .int .u32 m.packet, .int .u32 m.code, .string m.name, .string m.lang, .bool m.want, .slice A1 l c1]) (by simp [results, Tryd.results10, go_sem, d0, d1, d2, d3, d4, d5, d6, d7, d8, d9]) rfl ⟨_, _, rfl, ?_, ?_⟩
  · exact hid ((K5.out.trans (kept10 HZ5.out (by omega) _ _ _ _ _ _ _ _ _ _)).own HO4.out (by decide))
  · exact hid (HB4.out.trans (((K5.out.trans (kept10 HZ5.out (by omega) _ _ _ _ _ _ _ _ _ _))).below HB4.out.size))

end Go.Proofs.YtlmdbcmaophhnaaDoor
