import Derived.Test.YtjbmoiblkehbmaaDoorSGL
import Derived.DeepKeys
import Derived.BigQuiet
import Derived.Deep.QuietTactic
import Derived.Deep.RegionLaw
namespace Go.Proofs.YtjbmoiblkehbmaaDoor
namespace L18
open Go.RowKit

/-! Layer 18: SigsetActs, the walk. -/
theorem run_part_cell {P : Program} (w : World) (e : TypeId) (k : IntKind) (cs : Array Value) (off : Nat) (v : Value) (hu : P.underlying e = some (.int k)) (hc : cs[off]? = some v) :
    (part e cs off).run P w = .ok v w := by
  have hagg : (isAgg e).run P w = .ok false w := by
    unfold isAgg
    rw [Sem.run_bind, run_underlying hu w]
    rfl
  simp [part, Sem.run_bind, hagg, hc]
theorem run_itemsI (w : World) (d : Nat) (a : List Int) : ∀ is : List Nat, (∀ i ∈ is, i < a.length) → (Op.eqItems (d + 1) 3 1 (arr a) (arr a) is).run Tryd.prog w = .ok true w
  | [], _ => by simp [Op.eqItems]
  | i :: is, h => by
    have hr := run_itemsI w d a is fun j hj => h j (by simp [hj])
    have h1 := h i (by simp)
    have p1 : (part 3 (arr a) (i * 1)).run Tryd.prog w = .ok (.int .i64 a[i]) w := run_part_cell w 3 .i64 _ _ _ Tryd.underlying3 (by simp [arr, iv, h1])
    have p3 := run_equalIn_int (P := Tryd.prog) w d 3 .i64 .i64 (a[i] : Int) (a[i] : Int) Tryd.underlying3
    simp only [Op.eqItems, Sem.run_bind, p1, p3, Result.andThen_ok]
    simp [hr]
theorem run_eqA (w : World) (d : Nat) (a : List Int) (ha : a.length = 32) : (Op.equalIn (d + 1 + 1) 43 (.agg (arr a)) (.agg (arr a))).run Tryd.prog w = .ok true w := by
  obtain ⟨i3, hi3, _, h3, _⟩ := info_parts Tryd.info3i
  have hc : Tryd.prog.cellsOf 3 = 1 := by kernel_rfl
  rw [run_equalIn_array w (d + 1) _ _ Tryd.underlying43 hi3, hc]
  exact run_itemsI w d a (List.range 32) (fun i hi => by simp at hi; omega)
theorem run_eqA2 (w : World) (a : List Int) (ha : a.length = 32) (n : Nat) (hn : n = 9998 + 1 + 1) : (Op.equalIn n 43 (.agg (arr a)) (.agg (arr a))).run Tryd.prog w = .ok true w := by
  rw [hn]
  generalize 9998 = d
  exact run_eqA w d a ha
theorem run_eqlA (w : World) (a : List Int) (ha : a.length = 32) : (binOp .eql 43 (.agg (arr a)) (.agg (arr a))).run Tryd.prog w = .ok (.bool true) w := by
  rw [run_eql_struct, run_eqA2 w a ha _ (by decide)]
  rfl
/-- A world in which whatever was there in the other one is as it was. -/
structure Gr (u0 : World) where
  w : World
  b : Below u0.heap.size u0 w
instance (u0 : World) : Nonempty (Gr u0) := ⟨⟨u0, Below.refl _ _⟩⟩
def grw {u0 : World} (z : Gr u0) : World := z.w
theorem gr_box {u0 : World} {g : Nat} {t : TypeId} {cs : Array Value} (z : Gr u0) (h : Box u0 g t cs) : Box (grw z) g t cs := box_below h z.b
theorem gr_call {P : Program} {u0 : World} {z : Gr u0} {f : FuncId} {args : Array Value} {v : Value} (h : Calls P f args (grw z) fun e w' => e = .returned v ∧ Hid (Below (grw z).heap.size (grw z) w')) :
    Calls P f args (grw z) fun e w'' => e = .returned v ∧ ∃ z' : Gr u0, w'' = grw z' :=
  h.mono fun _ w' ⟨he, hk⟩ => ⟨he, ⟨w', z.b.trans (hk.out.mono z.b.size)⟩, rfl⟩
theorem wp_region_grown {P : Program} {id : Nat} {Q : Exit → Act → World → Prop} {a : Act} {w : World} {l : List Oper} (hm : P.follows .mixedOrders = true) (hB : Region.lexB .any l.toArray = true)
    (h : wpQuiet P l.toArray (fun w' => ∃ z : Gr w, w' = grw z) (fun a' => ∀ z : Gr w, Q .normal a' (grw z)) l a) : (Code.region id l.toArray true).wp P Q a w :=
  wp_region_quiet (C := fun w' => ∃ z : Gr w, w' = grw z) hm hB ⟨⟨w.drew, rfl, rfl, rfl, Nat.le_refl _, fun _ _ => rfl⟩, rfl⟩ (by
    have e : (fun a' => ∀ w', (∃ z : Gr w, w' = grw z) → Q .normal a' w') = (fun a' => ∀ z : Gr w, Q .normal a' (grw z)) := by
      funext a'
      exact propext ⟨fun h z => h _ ⟨z, rfl⟩, fun h w' ⟨z, e⟩ => e ▸ h z⟩
    simpa [e] using h)
section
variable {u0 : World} {o : Oper} {a : Act} {K : Act → Prop}
theorem q_ldP (x : Operand) (ho : o.op = .load 44 x) (g : Nat) (hx : a.eval x = .pointer (some ⟨g, 0, none⟩)) (l : List Int) (hb : Hid (Box u0 g 44 (arr l))) (hs : Hid (l.length = 32)) (h : K (a.put o.dst (.agg (arr l)))) :
    o.quiet Tryd.prog a (fun w' => ∃ z : Gr u0, w' = grw z) K :=
  ⟨_, fun w ⟨z, e⟩ => by
    subst e
    unfold Oper.quietAt execOp
    simp only [ho, hx, Instr.loadAt, Instr.sureAddr, Sem.run_bind, Sem.run_pure, Result.andThen_ok, run_loadVar_row (P := Tryd.prog) (grw z) g 44 44 (arr l) (0, 0) _ (gr_box z hb.out) Tryd.underlying44 rfl (by rw [arr_size hs.out]; exact Tryd.size32P), Oper.quietUpon]
    exact ⟨trivial, trivial⟩, h⟩
theorem q_ldR (x : Operand) (ho : o.op = .load 43 x) (g : Nat) (hx : a.eval x = .pointer (some ⟨g, 0, none⟩)) (l : List Int) (hb : Hid (Box u0 g 43 (arr l))) (hs : Hid (l.length = 32)) (h : K (a.put o.dst (.agg (arr l)))) :
    o.quiet Tryd.prog a (fun w' => ∃ z : Gr u0, w' = grw z) K :=
  ⟨_, fun w ⟨z, e⟩ => by
    subst e
    unfold Oper.quietAt execOp
    simp only [ho, hx, Instr.loadAt, Instr.sureAddr, Sem.run_bind, Sem.run_pure, Result.andThen_ok, run_loadVar_row (P := Tryd.prog) (grw z) g 43 43 (arr l) (0, 0) _ (gr_box z hb.out) Tryd.underlying43 rfl (by rw [arr_size hs.out]; exact Tryd.size32R), Oper.quietUpon]
    exact ⟨trivial, trivial⟩, h⟩
theorem q_eqA (x y : Operand) (r : TypeId) (ho : o.op = .binOp .eql 43 x y r) (l : List Int) (hl : Hid (l.length = 32)) (hx : a.eval x = .agg (arr l)) (hy : a.eval y = .agg (arr l)) (h : K (a.put o.dst (.bool true))) :
    o.quiet Tryd.prog a (fun w' => ∃ z : Gr u0, w' = grw z) K :=
  ⟨_, fun w _ => by
    unfold Oper.quietAt execOp
    have hm : Tryd.prog.eqGuardType Tryd.prog.depth 43 = false := by kernel_rfl
    simp only [ho, hx, hy, Sem.run_bind, run_eqGuard_agg w _ 43 _ _ _ _ hm, Result.andThen_ok, run_eqlA w l hl.out, Oper.quietUpon]
    exact ⟨rfl, rfl⟩, h⟩
end
theorem q_eff {u0 : World} {z : Gr u0} (H : Hid (TabW u0)) {a : List Int} (ha : Hid (a.length = 32)) {g v : Int} (hz : Hid (effA a g = v)) : Calls Tryd.prog 30 #[.agg (arr a), .int .i64 g] (grw z) fun e w'' => e = .returned (.int .i64 v) ∧ ∃ z' : Gr u0, w'' = grw z' :=
  gr_call (eff_any (TabW.below H z.b) ha hz)
theorem q_reff {u0 : World} {z : Gr u0} {a : List Int} (ha : Hid (a.length = 32)) {g v : Int} (hz : Hid (effA a g = v)) : Calls Tryd.prog 31 #[.agg (arr a), .int .i64 g] (grw z) fun e w'' => e = .returned (.int .i64 v) ∧ ∃ z' : Gr u0, w'' = grw z' :=
  gr_call (reff_any (grw z) ha hz)
section
variable {w : World}
theorem ract_b (w : World) {a b : List Int} {g how er : Int} (ha : Hid (a.length = 32)) (hb : Hid (actA a g how = b)) (he : Hid (actE g how = er)) : Calls Tryd.prog 29 #[.agg (arr a), .int .i64 g, .int .i64 how] w fun e w' => e = .returned (.tuple #[.agg (arr b), .int .i64 er]) ∧ Hid (Below w.heap.size w w') := by
  rw [← hb.out, ← he.out]
  exact ract_any w ha g how
set_option maxRecDepth 100000 in
set_option maxHeartbeats 4000000 in
theorem acts_walk (H : Hid (TabW w)) {a : List Int} (ha : Hid (a.length = 32)) (g how : Int) : Calls Tryd.prog 5 #[.agg (arr a), .int .i64 g, .int .i64 how] w fun e w' => e = .returned (.bool true) ∧ Hid (Below w.heap.size w w') := by
  obtain ⟨b, hb⟩ : ∃ z, Hid (actA a g how = z) := ⟨_, hid rfl⟩
  have hbl : Hid (b.length = 32) := hid (by rw [← hb.out]; exact act_len ha.out _ _)
  obtain ⟨er, he⟩ : ∃ z, Hid (actE g how = z) := ⟨_, hid rfl⟩
  obtain ⟨v, hv⟩ : ∃ z, Hid (effA a g = z) := ⟨_, hid rfl⟩
  have B0 : ∀ o, Hid (Below w.heap.size w (w.alloc o)) := fun o => bel_al (hid (Below.refl _ _))
  have H0 : ∀ o, Hid (TabW (w.alloc o)) := fun o => TabW.below H (B0 o).out
  go_enter Tryd.func5, Tryd.ntmps5
  go_wp2_with (first
    | (refine bxR (by rfl) _ (by rfl) _ (by rfl) ?_
       intro X0)
    | (go_at_call 8
       (with_reducible refine (alive_any (H0 _)).mono ?_)
       rintro e w1 ⟨rfl, C1⟩
       have B1 := bel_t (B0 _) C1.out
       have H1 := TabW.below H B1.out
       have X1 := hid (box_below X0.out C1.out))
    | (refine ldR (by rfl) _ (by rfl) _ (by rfl) a X1 ha ?_)
    | (go_at_call 28
       (with_reducible refine (act_b H1 ha hb he).mono ?_)
       rintro e w2 ⟨rfl, C2⟩
       have B2 := bel_t B1 C2.out
       have X2 := hid (box_below X1.out C2.out))
    | (refine stP (by rfl) _ _ (by rfl) _ (by rfl) b hbl (by rfl) _ (hid (Box.new w2 44 _)) (by rfl) ?_
       intro w3 Y3 T3
       have B3 := hid ((B2.out.alloc B2.out.size _).trans (T3.out.below B2.out.size))
       have X3 := hid ((box_below X2.out ((Below.refl _ w2).alloc (Nat.le_refl _) _)).same (T3.out.block _ (by have := X2.out.lt; omega))))
    | (refine ldR (by rfl) _ (by rfl) _ (by rfl) a X3 ha ?_)
    | (go_at_call 29
       (with_reducible refine (ract_b _ ha hb he).mono ?_)
       rintro e w4 ⟨rfl, C4⟩
       have B4 := bel_t B3 C4.out
       have X4 := hid (box_below X3.out C4.out)
       have Y4 := hid (box_below Y3.out C4.out))
    | (refine stR (by rfl) _ _ (by rfl) _ (by rfl) b hbl (by rfl) _ (hid (Box.new w4 43 _)) (by rfl) ?_
       intro w5 Z5 T5
       have B5 := hid ((B4.out.alloc B4.out.size _).trans (T5.out.below B4.out.size))
       have H5 := TabW.below H B5.out
       have X5 := hid ((box_below X4.out ((Below.refl _ w4).alloc (Nat.le_refl _) _)).same (T5.out.block _ (by have := X4.out.lt; omega)))
       have Y5 := hid ((box_below Y4.out ((Below.refl _ w4).alloc (Nat.le_refl _) _)).same (T5.out.block _ (by have := Y4.out.lt; omega)))))
  refine wp_region_grown (by kernel_rfl) (by kernel_rfl) ?_
  repeat (first
    | go_big_quiet_skip
    | (go_big_quiet_want
       first
        | (first
            | refine q_ldP _ (by rfl) _ (by rfl) b Y5 hbl ?_
            | refine q_ldR _ (by rfl) _ (by rfl) b Z5 hbl ?_
            | refine q_ldR _ (by rfl) _ (by rfl) a X5 ha ?_
            | refine q_eqA _ _ _ (by rfl) b hbl (by rfl) (by rfl) ?_
           simp only [Act.put, List.setIfInBounds_toArray, List.set_cons_succ, List.set_cons_zero]
           go_big_quiet_on)
        | (go_big_quiet_op
           first
            | go_big_quiet_on
            | (go_big_quiet_call (first
                | (go_at_call 30; with_reducible exact q_eff H5 ha hv)
                | (go_at_call 31; with_reducible exact q_reff ha hv))))))
  refine wpQuiet_nil ?_
  intro z
  go_wp2
  go_ret
  exact ⟨rfl, bel_t B5 z.b⟩
end
end L18
end Go.Proofs.YtjbmoiblkehbmaaDoor
