import Derived.Test.YtgkcappcjlfloaaMS
namespace Go.Proofs.Ytgkcappcjlfloaa
open Go.RowKit

/-- A setting's value. -/
def IsT (v : Value) : Prop := ∃ t : Tm, t.c.length = 19 ∧ v = .agg t.cs
theorem isT_cs {t : Tm} (h : t.c.length = 19) : IsT (.agg t.cs) := ⟨t, h, rfl⟩
/-- Whether two values are one. -/
noncomputable def eqV (x y : Value) : Bool := @decide (x = y) (Classical.propDecidable _)
theorem cl_inj {t u : Tm} (ht : t.c.length = 19) (hu : u.c.length = 19) (h : t.cl = u.cl) : t = u := by
  unfold Tm.cl at h
  have hl : (bv t.c).length = (bv u.c).length := by simp [bv, ht, hu]
  obtain ⟨h1, h2⟩ := List.append_inj h hl
  have hc : t.c = u.c := by
    apply List.ext_getElem (by omega)
    intro i hi hi2
    have h3 := congrArg (fun l => l[i]?) h1
    simp [bv, hi, hi2] at h3
    exact UInt8.toNat_inj.1 (by exact_mod_cast h3)
  simp only [List.cons.injEq, Value.int.injEq, true_and, and_true] at h2
  obtain ⟨a1, a2, a3, a4, a5⟩ := h2
  cases t; cases u
  simp only at hc a1 a2 a3 a4 a5
  simp only [Tm.mk.injEq]
  exact ⟨hc, by exact_mod_cast a1, by exact_mod_cast a2, by exact_mod_cast a3, a4, a5⟩
theorem cs_inj {t u : Tm} (ht : t.c.length = 19) (hu : u.c.length = 19) (h : t.cs = u.cs) : t = u := by
  refine cl_inj ht hu ?_
  have := congrArg Array.toList h
  simpa [Tm.cs] using this
theorem eqV_cs {t u : Tm} (ht : t.c.length = 19) (hu : u.c.length = 19) : eqV (.agg t.cs) (.agg u.cs) = eqT t u := by
  unfold eqV
  rw [Bool.eq_iff_iff, @decide_eq_true_iff _ (Classical.propDecidable _), eqT_iff]
  constructor
  · intro h
    injection h with h
    exact cs_inj ht hu h
  · rintro rfl; rfl
theorem eqV_of {t u : Tm} {b : Bool} (ht : t.c.length = 19) (hu : u.c.length = 19) (h : eqT t u = b) : eqV (.agg t.cs) (.agg u.cs) = b := by rw [eqV_cs ht hu, h]
theorem run_eqlV (w : World) {x y : Value} (hx : IsT x) (hy : IsT y) : (binOp .eql 26 x y).run Try.prog w = .ok (.bool (eqV x y)) w := by
  obtain ⟨t, ht, rfl⟩ := hx
  obtain ⟨u, hu, rfl⟩ := hy
  rw [run_eql26 w t u ht hu, eqV_cs ht hu]
theorem run_neqV (w : World) {x y : Value} (hx : IsT x) (hy : IsT y) : (binOp .neq 26 x y).run Try.prog w = .ok (.bool (!eqV x y)) w := by
  obtain ⟨t, ht, rfl⟩ := hx
  obtain ⟨u, hu, rfl⟩ := hy
  rw [run_neq26 w t u ht hu, eqV_cs ht hu]
theorem run_guardV (w : World) (op : BinOp) (X Y : Operand) {x y : Value} (hx : IsT x) (hy : IsT y) : (eqGuard op 26 X Y x y).run Try.prog w = .ok () w := by
  obtain ⟨t, ht, rfl⟩ := hx
  obtain ⟨u, hu, rfl⟩ := hy
  exact run_eqGuard_agg w op 26 X Y _ _ (by kernel_rfl)
section
variable {dst : Option Tmp} {x y : Operand} {ty r : TypeId} {pos : String} {after : Array Edge} {gd : Option (Nat × Bool)} {a : Act}
theorem wp_eq26 {w : World} {K : Act → World → Prop} {Q : Exit → Act → World → Prop} (h1 : IsT (a.eval x)) (h2 : IsT (a.eval y)) :
    Oper.wp Try.prog { dst, op := .binOp .eql 26 x y r, type := ty, pos, after, guard := gd } a w K Q = K (a.put dst (.bool (eqV (a.eval x) (a.eval y)))) w := by
  unfold Oper.wp execOp
  simp only [Sem.run_bind, run_guardV w _ _ _ h1 h2, Result.andThen_ok, run_eqlV w h1 h2]
  rfl
theorem wp_ne26 {w : World} {K : Act → World → Prop} {Q : Exit → Act → World → Prop} (h1 : IsT (a.eval x)) (h2 : IsT (a.eval y)) :
    Oper.wp Try.prog { dst, op := .binOp .neq 26 x y r, type := ty, pos, after, guard := gd } a w K Q = K (a.put dst (.bool (!eqV (a.eval x) (a.eval y)))) w := by
  unfold Oper.wp execOp
  simp only [Sem.run_bind, run_guardV w _ _ _ h1 h2, Result.andThen_ok, run_neqV w h1 h2]
  rfl
theorem quiet_val {P : Program} {u0 : World} {o : Oper} {K : Act → Prop} (v : Value) (h : ∀ z : Gr u0, (execOp a.eval o).run P (grw z) = .ok (.value v) (grw z)) :
    Oper.quiet P o a (fun w' => ∃ z : Gr u0, w' = grw z) K = K (a.put o.dst v) := by
  apply propext
  unfold Oper.quiet Oper.quietAt
  constructor
  · rintro ⟨v', h1, h2⟩
    have h3 := h1 (grw (⟨u0, Below.refl _ _⟩ : Gr u0)) ⟨_, rfl⟩
    rw [h] at h3
    obtain ⟨_, rfl⟩ := h3
    exact h2
  · intro hk
    refine ⟨v, ?_, hk⟩
    rintro w ⟨z, rfl⟩
    rw [h z]
    exact ⟨rfl, rfl⟩
theorem wq_ld26 {u0 : World} {K : Act → Prop} (h1 : isP (a.eval x) = true) (h2 : isB u0 (blkV (a.eval x)) = true) :
    Oper.quiet Try.prog { dst, op := .load 26 x, type := ty, pos, after, guard := gd } a (fun w' => ∃ z : Gr u0, w' = grw z) K = K (a.put dst (.agg (cs26 u0 (blkV (a.eval x))))) := by
  obtain ⟨hb, hs⟩ := isB_box h2
  have hx := isP_eq h1
  refine quiet_val _ fun z => ?_
  generalize blkV (a.eval x) = g at *
  unfold execOp
  simp only [hx, Instr.loadAt, Instr.sureAddr, Sem.run_bind, Sem.run_pure, Result.andThen_ok, run_loadVar_row (P := Try.prog) (grw z) g 26 26 _ (0, 0) _ (gr_box z hb) Try.underlying26 rfl (by rw [hs]; exact Try.size26)]
theorem wq_eq26 {u0 : World} {K : Act → Prop} (h1 : IsT (a.eval x)) (h2 : IsT (a.eval y)) :
    Oper.quiet Try.prog { dst, op := .binOp .eql 26 x y r, type := ty, pos, after, guard := gd } a (fun w' => ∃ z : Gr u0, w' = grw z) K = K (a.put dst (.bool (eqV (a.eval x) (a.eval y)))) := by
  refine quiet_val _ fun z => ?_
  unfold execOp
  simp only [Sem.run_bind, run_guardV _ _ _ _ h1 h2, Result.andThen_ok, run_eqlV _ h1 h2]
  rfl
theorem wq_ne26 {u0 : World} {K : Act → Prop} (h1 : IsT (a.eval x)) (h2 : IsT (a.eval y)) :
    Oper.quiet Try.prog { dst, op := .binOp .neq 26 x y r, type := ty, pos, after, guard := gd } a (fun w' => ∃ z : Gr u0, w' = grw z) K = K (a.put dst (.bool (!eqV (a.eval x) (a.eval y)))) := by
  refine quiet_val _ fun z => ?_
  unfold execOp
  simp only [Sem.run_bind, run_guardV _ _ _ _ h1 h2, Result.andThen_ok, run_neqV _ h1 h2]
  rfl
end
/-- Twenty-four cells from a pointer on. -/
def rng26 (w : World) (v : Value) : Option (List Value) := match v with
  | .pointer (some ⟨g, o, none⟩) => (List.range 24).mapM fun j => w.cell? ⟨g, o + j, none⟩
  | _ => none
def isR (w : World) (v : Value) : Bool := (rng26 w v).isSome
def csR (w : World) (v : Value) : Array Value := ((rng26 w v).getD []).toArray
theorem rng_at {w : World} {v : Value} (h : isR w v = true) : ∃ g o l, v = .pointer (some ⟨g, o, none⟩) ∧ w.rangeAt g o l ∧ l.length = 24 ∧ csR w v = l.toArray := by
  unfold isR at h
  obtain ⟨l, hl⟩ := Option.isSome_iff_exists.1 h
  have hl' := hl
  unfold rng26 at hl
  split at hl
  · rename_i g o
    refine ⟨g, o, l, rfl, ?_, ?_, by simp [csR, hl']⟩
    · intro j v hj
      have hlen := mapM_some_length hl
      have hjl : j < 24 := by
        have := (List.getElem?_eq_some_iff.1 hj).1
        simp at hlen
        omega
      have := mapM_some_get hl j j (by simp [hjl])
      rw [this, hj]
    · have := mapM_some_length hl
      simpa using this
  · cases hl
theorem wp_ldR {dst : Option Tmp} {x : Operand} {ty : TypeId} {pos : String} {after : Array Edge} {gd : Option (Nat × Bool)} {a : Act} {w : World} {K : Act → World → Prop} {Q : Exit → Act → World → Prop} (h : isR w (a.eval x) = true) :
    Oper.wp Try.prog { dst, op := .load 26 x, type := ty, pos, after, guard := gd } a w K Q = K (a.put dst (.agg (csR w (a.eval x)))) w := by
  obtain ⟨g, o, l, hx, hr, hl, hc⟩ := rng_at h
  unfold Oper.wp execOp
  rw [hc]
  simp only [hx, Instr.loadAt, Instr.sureAddr, Sem.run_bind, Sem.run_pure, Result.andThen_ok, run_loadVar_mid (P := Try.prog) w g o 26 l _ hr Try.underlying26 rfl (by rw [hl]; exact Try.size26)]
  rfl
theorem isR_of {w : World} {g o : Nat} {t : Tm} (h : w.rangeAt g o t.cl) (ht : t.c.length = 19) : isR w (.pointer (some ⟨g, o, none⟩)) = true ∧ csR w (.pointer (some ⟨g, o, none⟩)) = t.cs := by
  have e : rng26 w (.pointer (some ⟨g, o, none⟩)) = some t.cl := by
    show ((List.range 24).mapM fun j => w.cell? ⟨g, o + j, none⟩) = some t.cl
    have hl := cl_len ht
    have : ∀ (n : Nat) (l : List Value) (f : Nat → Option Value), l.length = n → (∀ j v, l[j]? = some v → f j = some v) → (List.range n).mapM f = some l := by
      intro n
      induction n with
      | zero => intro l f hl _; have : l = [] := List.eq_nil_of_length_eq_zero hl; subst this; simp
      | succ n ih =>
        intro l f hl hf
        obtain ⟨l', v, rfl⟩ : ∃ l' v, l = l' ++ [v] := by
          rcases List.eq_nil_or_concat l with h | ⟨l', v, h⟩
          · subst h; simp at hl
          · exact ⟨l', v, by simpa using h⟩
        have hl' : l'.length = n := by simpa using hl
        rw [List.range_succ, List.mapM_append, ih l' f hl' (fun j u hj => hf j u (by rw [List.getElem?_append_left ((List.getElem?_eq_some_iff.1 hj).1)]; exact hj))]
        have := hf n v (by rw [List.getElem?_append_right (by omega), hl']; simp)
        simp [this]
    exact this 24 t.cl _ hl h
  exact ⟨by simp [isR, e], by simp [csR, e, Tm.cs]⟩
end Go.Proofs.Ytgkcappcjlfloaa
