import Derived.Test.YtoefcdefbfdngaaSRC
namespace Go.Proofs.Ytoefcdefbfdngaa
open Go.RowKit

/-! Layer 14: RawReady, the walk. -/
theorem box23 {W W' : World} {g : Nat} {cs : Array Value} (h : Hid (Box W g 23 cs)) (k : Below W.heap.size W W') : Hid (Box W' g 23 cs) := hid (h.out.same (k.block g h.out.lt))
set_option maxRecDepth 100000 in
set_option maxHeartbeats 2000000 in
theorem rready_walk (w : World) (mn tm hv wn idl wt : Int) (h1 : i64ok mn) (h2 : i64ok tm) (h3 : i64ok hv) (h4 : i64ok wn) (h5 : i64ok idl) (h6 : i64ok wt) :
    Calls Try.prog 3 #[.agg #[.int .i64 mn, .int .i64 tm, .int .i64 hv, .int .i64 wn, .int .i64 idl, .int .i64 wt]] w fun e w' => e = .returned (.bool true) ∧ Hid (Below w.heap.size w w') := by
  have K0 : Hid (Below w.heap.size w (w.alloc (.cells #[.int .i64 mn, .int .i64 tm, .int .i64 hv, .int .i64 wn, .int .i64 idl, .int .i64 wt] 23))) := hid ((Below.refl _ w).alloc (Nat.le_refl _) _)
  have B0 : Hid (Box (w.alloc (.cells #[.int .i64 mn, .int .i64 tm, .int .i64 hv, .int .i64 wn, .int .i64 idl, .int .i64 wt] 23)) w.heap.size 23 #[.int .i64 mn, .int .i64 tm, .int .i64 hv, .int .i64 wn, .int .i64 idl, .int .i64 wt]) := hid (Box.new w 23 _)
  obtain ⟨n, b, hR⟩ : ∃ n b, Hid (readyI mn tm hv wn idl wt = (n, b)) := ⟨_, _, hid rfl⟩
  obtain ⟨m, c, hW⟩ : ∃ m c, Hid (waitI mn tm hv wn idl wt = (m, c)) := ⟨_, _, hid rfl⟩
  go_enter Try.func3, Try.ntmps3
  go_wp2_with (first
    | (go_at_call 6
       (with_reducible refine (alive_any _).mono ?_)
       rintro e y1 ⟨rfl, k1⟩
       have K1 := bel_t K0 k1.out
       have B1 := box23 B0 k1.out
       have cB10 : y1.cell? ⟨w.heap.size, 0, none⟩ = some (.int .i64 mn) := by simpa using B1.out.cell 0
       have cB11 : y1.cell? ⟨w.heap.size, 1, none⟩ = some (.int .i64 tm) := by simpa using B1.out.cell 1
       have cB12 : y1.cell? ⟨w.heap.size, 2, none⟩ = some (.int .i64 hv) := by simpa using B1.out.cell 2
       have cB13 : y1.cell? ⟨w.heap.size, 3, none⟩ = some (.int .i64 wn) := by simpa using B1.out.cell 3
       have cB14 : y1.cell? ⟨w.heap.size, 4, none⟩ = some (.int .i64 idl) := by simpa using B1.out.cell 4
       have cB15 : y1.cell? ⟨w.heap.size, 5, none⟩ = some (.int .i64 wt) := by simpa using B1.out.cell 5)
    | (go_at_call 7
       (with_reducible refine (ready_any y1 h1 h2 h3 h4 h5 h6 hR).mono ?_)
       rintro e y2 ⟨rfl, k2⟩
       have K2 := bel_t K1 k2.out
       have B2 := box23 B1 k2.out
       have cB20 : y2.cell? ⟨w.heap.size, 0, none⟩ = some (.int .i64 mn) := by simpa using B2.out.cell 0
       have cB21 : y2.cell? ⟨w.heap.size, 1, none⟩ = some (.int .i64 tm) := by simpa using B2.out.cell 1
       have cB22 : y2.cell? ⟨w.heap.size, 2, none⟩ = some (.int .i64 hv) := by simpa using B2.out.cell 2
       have cB23 : y2.cell? ⟨w.heap.size, 3, none⟩ = some (.int .i64 wn) := by simpa using B2.out.cell 3
       have cB24 : y2.cell? ⟨w.heap.size, 4, none⟩ = some (.int .i64 idl) := by simpa using B2.out.cell 4
       have cB25 : y2.cell? ⟨w.heap.size, 5, none⟩ = some (.int .i64 wt) := by simpa using B2.out.cell 5)
    | (go_at_call 8
       (with_reducible refine (readyr_any y2 mn tm hv wn idl wt hR).mono ?_)
       rintro e y3 ⟨rfl, rfl⟩)
    | (go_at_call 9
       (with_reducible refine (wait_any _ h1 h2 h3 h4 h5 h6 hW).mono ?_)
       rintro e y4 ⟨rfl, k4⟩
       have K4 := bel_t K2 k4.out
       have B4 := box23 B2 k4.out
       have cB40 : y4.cell? ⟨w.heap.size, 0, none⟩ = some (.int .i64 mn) := by simpa using B4.out.cell 0
       have cB41 : y4.cell? ⟨w.heap.size, 1, none⟩ = some (.int .i64 tm) := by simpa using B4.out.cell 1
       have cB42 : y4.cell? ⟨w.heap.size, 2, none⟩ = some (.int .i64 hv) := by simpa using B4.out.cell 2
       have cB43 : y4.cell? ⟨w.heap.size, 3, none⟩ = some (.int .i64 wn) := by simpa using B4.out.cell 3
       have cB44 : y4.cell? ⟨w.heap.size, 4, none⟩ = some (.int .i64 idl) := by simpa using B4.out.cell 4
       have cB45 : y4.cell? ⟨w.heap.size, 5, none⟩ = some (.int .i64 wt) := by simpa using B4.out.cell 5)
    | (go_at_call 10
       (with_reducible refine (waitr_any y4 mn tm hv wn idl wt h2 h5 h6 hW).mono ?_)
       rintro e y5 ⟨rfl, rfl⟩))
  go_ret
  exact ⟨rfl, K4⟩
end Go.Proofs.Ytoefcdefbfdngaa
