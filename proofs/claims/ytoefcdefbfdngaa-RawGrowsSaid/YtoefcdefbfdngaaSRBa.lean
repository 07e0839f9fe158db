import Derived.Test.YtoefcdefbfdngaaSRA
namespace Go.Proofs.Ytoefcdefbfdngaa
open Go.RowKit

/-! Layer 14: the program's Ready and Wait. -/
/-- A world in which whatever was there in the other one is as it was. -/
structure Gr (u0 : World) where
  w : World
  b : Below u0.heap.size u0 w
instance (u0 : World) : Nonempty (Gr u0) := ⟨⟨u0, Below.refl _ _⟩⟩
def grw {u0 : World} (z : Gr u0) : World := z.w
theorem gr_cell {u0 : World} {g : Nat} {v : Value} {k : Nat} (z : Gr u0) (h : u0.cell? ⟨g, k, none⟩ = some v) : (grw z).cell? ⟨g, k, none⟩ = some v :=
  (z.b.cell (p := ⟨g, k, none⟩) (World.block_lt_of_cell? _ _ h)).trans h
theorem gr_call {P : Program} {u0 : World} {z : Gr u0} {f : FuncId} {args : Array Value} {v : Value} (h : Calls P f args (grw z) fun e w' => e = .returned v ∧ Hid (Below (grw z).heap.size (grw z) w')) :
    Calls P f args (grw z) fun e w'' => e = .returned v ∧ ∃ z' : Gr u0, w'' = grw z' :=
  h.mono fun _ w' ⟨he, hk⟩ => ⟨he, ⟨w', z.b.trans (hk.out.mono z.b.size)⟩, rfl⟩
theorem wp_region_grown {P : Program} {id : Nat} {Q : Exit → Act → World → Prop} {a : Act} {w : World} {l : List Oper} (hm : P.follows .mixedOrders = true) (hB : Region.lexB .any l.toArray = true)
    (h : wpQuiet P l.toArray (fun w' => ∃ z : Gr w, w' = grw z) (fun a' => ∀ z : Gr w, Q .normal a' (grw z)) l a) : (Code.region id l.toArray true).wp P Q a w :=
  wp_region_quiet (C := fun w' => ∃ z : Gr w, w' = grw z) hm hB ⟨⟨w.drew, rfl, rfl, rfl, Nat.le_refl _, fun _ _ => rfl⟩, rfl⟩ (by
    have e : (fun a' => ∀ w', (∃ z : Gr w, w' = grw z) → Q .normal a' w') = (fun a' => ∀ z : Gr w, Q .normal a' (grw z)) := by
      funext a'
      exact propext ⟨fun h z => h _ ⟨z, rfl⟩, fun h w' ⟨z, e⟩ => e ▸ h z⟩
    simpa [e] using h)
theorem bel_one (w : World) (o : Obj) : Hid (Below w.heap.size w (w.alloc o)) := hid ((Below.refl _ w).alloc (Nat.le_refl _) _)
set_option maxRecDepth 100000 in
set_option maxHeartbeats 4000000 in
theorem newr_any (w : World) (mn tm hv wn idl wt : Int) :
    Calls Try.prog 15 #[.int .i64 mn, .int .i64 tm, .int .i64 hv, .int .i64 wn, .int .i64 idl, .int .i64 wt] w fun e w' => e = .returned (.agg #[.int .i64 (pz mn), .int .i64 (pz tm), .int .i64 (pz hv), .int .i64 (pz wn), .int .i64 (pz idl), .int .i64 (pz wt)]) ∧ Hid (Below w.heap.size w w') := by
  go_enter Try.func15, Try.ntmps15
  go_wp2
  all_goals
    refine bodyPost_ret (v := .agg #[.int .i64 (pz mn), .int .i64 (pz tm), .int .i64 (pz hv), .int .i64 (pz wn), .int .i64 (pz idl), .int .i64 (pz wt)]) (by simp [results, go_sem, pz_pos, pz_neg, *]) rfl ?_
    exact ⟨rfl, bel_one w _⟩
end Go.Proofs.Ytoefcdefbfdngaa
