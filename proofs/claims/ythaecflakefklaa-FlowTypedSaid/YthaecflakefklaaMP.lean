import Derived.Test.YthaecflakefklaaMK
namespace Go.Proofs.Ythaecflakefklaa
open Go.RowKit

theorem run_ldc {w : World} {g : Nat} {cs : Array Value} (h : Box w g 26 cs) (hs : cs.size = 24) : (loadCellsFrom ⟨g, 0, none⟩ 0 24 #[]).run Try.prog w = .ok cs w := by
  have := run_loadCells_list (P := Try.prog) w ⟨g, 0, none⟩ cs.toList (fun j v hv => by
    rw [Addr.add_lit, Nat.zero_add, h.cell j]
    simpa using hv)
  simpa [loadCells, hs] using this
theorem run_stc {w : World} {g : Nat} {cs : Array Value} (h : Box w g 26 cs) (hs : cs.size = 24) (t : Tm) (ht : t.c.length = 19) : (storeCells ⟨g, 0, none⟩ t.cs.toList 0).run Try.prog w = .ok () (w.setRow g t.cs) := by
  have := run_storeVar_row (P := Try.prog) w g 26 26 cs t.cs h (by rw [cs_size ht]; exact Try.size26) (by rw [hs, cs_size ht]) (cs_one t)
  have h26 := Try.size26
  cases hq : Try.prog.info? 26 with
  | none => simp [hq] at h26
  | some i =>
    simp [hq] at h26
    simpa [storeVar, sizeOf, typeInfo, hq, Value.cells, cs_size ht, h26] using this
/-- Where a pointer leads, and what an aggregate holds. -/
def blkV : Value → Nat
  | .pointer (some ⟨g, 0, none⟩) => g
  | _ => 0
def isP : Value → Bool
  | .pointer (some ⟨_, 0, none⟩) => true
  | _ => false
def aggV : Value → Array Value
  | .agg cs => cs
  | _ => #[]
def isA : Value → Bool
  | .agg _ => true
  | _ => false
def isB (w : World) (g : Nat) : Bool := match w.heap[g]? with
  | some (.cells cs t fr) => decide (t = 26) && decide (fr = (0, 0)) && decide (cs.size = 24)
  | _ => false
def cs26 (w : World) (g : Nat) : Array Value := match w.heap[g]? with
  | some (.cells cs _ _) => cs
  | _ => #[]
theorem isB_box {w : World} {g : Nat} (h : isB w g = true) : Box w g 26 (cs26 w g) ∧ (cs26 w g).size = 24 := by
  unfold isB at h
  unfold cs26 Box
  split at h
  · rename_i cs t fr he
    simp only [Bool.and_eq_true, decide_eq_true_eq] at h
    obtain ⟨⟨rfl, rfl⟩, h3⟩ := h
    simp [he, h3]
  · cases h
theorem box_isB {w : World} {g : Nat} {t : Tm} (h : Box w g 26 t.cs) (ht : t.c.length = 19) : isB w g = true ∧ cs26 w g = t.cs := by
  unfold Box at h
  unfold isB cs26
  rw [h]
  simp [cs_size ht]
def okS (v : Value) : Bool := isA v && decide ((aggV v).size = 24) && (aggV v).all (·.oneCell')
theorem okS_cs {t : Tm} (ht : t.c.length = 19) : okS (.agg t.cs) = true ∧ aggV (.agg t.cs) = t.cs := by
  refine ⟨?_, rfl⟩
  unfold okS
  show (true && decide (t.cs.size = 24) && t.cs.all (·.oneCell')) = true
  rw [cs_one t, cs_size ht]
  rfl
theorem isP_eq {v : Value} (h : isP v = true) : v = .pointer (some ⟨blkV v, 0, none⟩) := by
  unfold isP at h
  split at h
  · rfl
  · cases h
theorem isA_eq {v : Value} (h : isA v = true) : v = .agg (aggV v) := by
  unfold isA at h
  split at h
  · rfl
  · cases h
theorem wp_ld26 {dst : Option Tmp} {x : Operand} {ty : TypeId} {pos : String} {after : Array Edge} {gd : Option (Nat × Bool)} {a : Act} {w : World} {K : Act → World → Prop} {Q : Exit → Act → World → Prop} (h1 : isP (a.eval x) = true) (h2 : isB w (blkV (a.eval x)) = true) :
    Oper.wp Try.prog { dst, op := .load 26 x, type := ty, pos, after, guard := gd } a w K Q = K (a.put dst (.agg (cs26 w (blkV (a.eval x))))) w := by
  obtain ⟨hb, hs⟩ := isB_box h2
  have hx := isP_eq h1
  generalize blkV (a.eval x) = g at *
  unfold Oper.wp execOp
  simp only [hx, Instr.loadAt, Instr.sureAddr, Sem.run_bind, Sem.run_pure, Result.andThen_ok, run_loadVar_row (P := Try.prog) w g 26 26 _ (0, 0) _ hb Try.underlying26 rfl (by rw [hs]; exact Try.size26)]
  rfl
theorem wp_st26 {dst : Option Tmp} {x y : Operand} {ty : TypeId} {pos : String} {after : Array Edge} {gd : Option (Nat × Bool)} {a : Act} {w : World} {K : Act → World → Prop} {Q : Exit → Act → World → Prop} (h1 : isP (a.eval x) = true) (h2 : isB w (blkV (a.eval x)) = true) (h3 : okS (a.eval y) = true) :
    Oper.wp Try.prog { dst, op := .store 26 x y, type := ty, pos, after, guard := gd } a w K Q = K (a.put dst undef) (w.setRow (blkV (a.eval x)) (aggV (a.eval y))) := by
  obtain ⟨hb, hs⟩ := isB_box h2
  have hx := isP_eq h1
  unfold okS at h3
  simp only [Bool.and_eq_true, decide_eq_true_eq] at h3
  obtain ⟨⟨h4, h5⟩, h6⟩ := h3
  have hy := isA_eq h4
  generalize blkV (a.eval x) = g at *
  generalize aggV (a.eval y) = cs at *
  unfold Oper.wp execOp
  simp only [hx, hy, Instr.storeAt, Instr.sureAddr, Sem.run_bind, Sem.run_pure, Result.andThen_ok, run_storeVar_row (P := Try.prog) w g 26 26 _ cs hb (by rw [h5]; exact Try.size26) (by rw [hs, h5]) h6]
  rfl
theorem has_b (w : World) {t : Tm} (ht : t.Ok) {op : Int} {b : Bool} (hb : hasN t.f op = b) : Calls Try.prog 16 #[.agg t.cs, .int .i64 op] w fun e w' => e = .returned (.bool b) ∧ Hid (Below w.heap.size w w') := by
  subst hb
  exact has_any w t ht op
theorem slb_lit (w : World) (bs : List UInt8) (n : Nat) (cs : Array Value) (hc : (bv bs).toArray = cs) (hn : bs.length = n) (hm : n ≤ maxLen) : SlB (w.alloc (.cells cs 5)) (w.alloc (.cells cs 5)).heap.size (some ⟨w.heap.size, 0, none⟩) n bs := by
  subst hc
  subst hn
  refine ⟨Nat.le_refl _, hm, by simp, ?_⟩
  have := lies_lit w (bv bs).toArray 5
  rw [World.size_alloc]
  simpa using this
theorem slb_grow {w w' : World} {A : Option Addr} {c : Nat} {bs : List UInt8} (h : SlB w w.heap.size A c bs) (k : Below w.heap.size w w') : SlB w' w'.heap.size A c bs :=
  ⟨h.1, h.2.1, h.2.2.1, (h.2.2.2.below k).more k.size⟩
theorem bel_t {w a b : World} (h : Hid (Below w.heap.size w a)) (k : Below a.heap.size a b) : Hid (Below w.heap.size w b) := hid (h.out.trans (k.mono h.out.size))
end Go.Proofs.Ythaecflakefklaa
