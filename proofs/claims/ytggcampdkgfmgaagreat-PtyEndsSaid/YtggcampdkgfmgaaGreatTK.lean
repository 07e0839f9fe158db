import Derived.Test.YtggcampdkgfmgaaGreatTJ
import Derived.Test.YtggcampdkgfmgaaGreatQTo
namespace Go.Proofs.YtggcampdkgfmgaaGreat
open Go.RowKit

/-! Layer 17: the law's terminal for the program. -/
def rng34 (w : World) (v : Value) : Option (List Value) := match v with
  | .pointer (some ⟨g, o, none⟩) => (List.range 34).mapM fun j => w.cell? ⟨g, o + j, none⟩
  | _ => none
def isX34 (w : World) (v : Value) : Bool := (rng34 w v).isSome
def csX34 (w : World) (v : Value) : Array Value := ((rng34 w v).getD []).toArray
theorem rng_at34 {w : World} {v : Value} (h : isX34 w v = true) : ∃ g o l, v = .pointer (some ⟨g, o, none⟩) ∧ w.rangeAt g o l ∧ l.length = 34 ∧ csX34 w v = l.toArray := by
  unfold isX34 at h
  obtain ⟨l, hl⟩ := Option.isSome_iff_exists.1 h
  have hl' := hl
  unfold rng34 at hl
  split at hl
  · rename_i g o
    refine ⟨g, o, l, rfl, ?_, ?_, by simp [csX34, hl']⟩
    · intro j v hj
      have hlen := mapM_some_length hl
      have hjl : j < 34 := by
        have := (List.getElem?_eq_some_iff.1 hj).1
        simp at hlen
        omega
      have := mapM_some_get hl j j (by simp [hjl])
      rw [this, hj]
    · have := mapM_some_length hl
      simpa using this
  · cases hl
theorem wp_ld34 {dst : Option Tmp} {x : Operand} {ty : TypeId} {pos : String} {after : Array Edge} {gd : Option (Nat × Bool)} {a : Act} {w : World} {K : Act → World → Prop} {Q : Exit → Act → World → Prop} (h : isX34 w (a.eval x) = true) :
    Oper.wp Tryz.prog { dst, op := .load 54 x, type := ty, pos, after, guard := gd } a w K Q = K (a.put dst (.agg (csX34 w (a.eval x)))) w := by
  obtain ⟨g, o, l, hx, hr, hl, hc⟩ := rng_at34 h
  unfold Oper.wp execOp
  rw [hc]
  simp only [hx, Instr.loadAt, Instr.sureAddr, Sem.run_bind, Sem.run_pure, Result.andThen_ok, run_loadVar_mid (P := Tryz.prog) w g o 54 l _ hr Tryz.underlying54 rfl (by rw [hl]; exact sizeX16)]
  rfl
theorem ex_ld34 {dst : Option Tmp} {x : Operand} {ty : TypeId} {pos : String} {after : Array Edge} {gd : Option (Nat × Bool)} {ev : Operand → Value} {w : World} (h : isX34 w (ev x) = true) :
    (execOp ev { dst, op := .load 54 x, type := ty, pos, after, guard := gd }).run Tryz.prog w = .ok (.value (.agg (csX34 w (ev x)))) w := by
  obtain ⟨g, o, l, hx, hr, hl, hc⟩ := rng_at34 h
  unfold execOp
  rw [hc]
  simp only [hx, Instr.loadAt, Instr.sureAddr, Sem.run_bind, Sem.run_pure, Result.andThen_ok, run_loadVar_mid (P := Tryz.prog) w g o 54 l _ hr Tryz.underlying54 rfl (by rw [hl]; exact sizeX16)]
theorem isX34_of {w : World} {g o : Nat} {cl : List Value} (h : w.rangeAt g o cl) (hl : cl.length = 34) : isX34 w (.pointer (some ⟨g, o, none⟩)) = true ∧ csX34 w (.pointer (some ⟨g, o, none⟩)) = cl.toArray := by
  have e : rng34 w (.pointer (some ⟨g, o, none⟩)) = some cl := by
    show ((List.range 34).mapM fun j => w.cell? ⟨g, o + j, none⟩) = some cl
    have : ∀ (n : Nat) (l : List Value) (f : Nat → Option Value), l.length = n → (∀ j v, l[j]? = some v → f j = some v) → (List.range n).mapM f = some l := by
      intro n
      induction n with
      | zero => intro l f hl _; have : l = [] := List.eq_nil_of_length_eq_zero hl; subst this; simp
      | succ n ih =>
        intro l f hl hf
        obtain ⟨l', v, rfl⟩ : ∃ l' v, l = l' ++ [v] := by
          rcases List.eq_nil_or_concat l with h | ⟨l', v, h⟩
          · subst h; simp at hl
          · exact ⟨l', v, by simpa using h⟩
        have hl' : l'.length = n := by simpa using hl
        rw [List.range_succ, List.mapM_append, ih l' f hl' (fun j u hj => hf j u (by rw [List.getElem?_append_left ((List.getElem?_eq_some_iff.1 hj).1)]; exact hj))]
        have := hf n v (by rw [List.getElem?_append_right (by omega), hl']; simp)
        simp [this]
    exact this 34 cl _ hl h
  exact ⟨by simp [isX34, e], by simp [csX34, e]⟩
theorem rng_disc {W : World} {g : Nat} {T : TypeId} {D : Ds} {h : Ph} {z : Sz} {ss gp sl : Int} {hu : Bool} (ht : D.t.Ok) (hb : Box W g T (ptV D h z ss gp sl hu)) : Hid (W.rangeAt g 0 (D.t.cl ++ dRest D h)) := hid (fun j v hj => by
  rw [Nat.zero_add]
  exact (hb.cell j).trans (ptV_disc ht hj))
theorem discL_len {D : Ds} {h : Ph} (ht : D.t.Ok) : (D.t.cl ++ dRest D h).length = 34 := by
  rw [List.length_append, cl_len ht.len]
  rfl
theorem to_anyL (w : World) (D : Ds) (h : Ph) (X : Hid (XIn w D h)) (hg : Hid (greatD D = false)) : Calls Tryz.prog 25 #[.agg (D.t.cl ++ dRest D h).toArray] w fun e w' => ∃ p S, e = .returned (.pointer (some ⟨p, 0, none⟩)) ∧ Hid (DAt w' p S D) ∧ Hid (∀ x, S x → w.heap.size ≤ x) ∧ Hid (Below w.heap.size w w') := to_any w D h X hg
attribute [local go_sem ↓] wp_ld34 ex_ld34
set_option maxRecDepth 100000 in
set_option maxHeartbeats 8000000 in
theorem to17_any (w : World) (D : Ds) (h : Ph) (z : Sz) (ss gp sl : Int) (hu : Bool) (X : Hid (XIn w D h)) (hg : Hid (greatD D = false)) : Calls Tryz.prog 46 #[.agg (ptV D h z ss gp sl hu)] w fun e w' => ∃ g p S, e = .returned (.pointer (some ⟨g, 0, none⟩)) ∧ Hid (AlP w w' g p S ⟨D, z, ss, gp, sl, hu⟩) := by
  have ht := X.out.t
  have hsz : Hid ((Tryz.prog.info? 105).map (·.size) = some (ptV D h z ss gp sl hu).size) := hid (by rw [ptV_size ht]; exact sizeP17)
  obtain ⟨v, hv0⟩ : ∃ v, v = w.alloc (.cells (ptV D h z ss gp sl hu) 105) := ⟨_, rfl⟩
  have B0 : Hid (Box v w.heap.size 105 (ptV D h z ss gp sl hu)) := hid (by rw [hv0]; exact Box.new w _ _)
  have K0 : Below w.heap.size w v := by rw [hv0]; exact (Below.refl _ w).alloc (Nat.le_refl _) _
  have X0 := hid (X.out.grow K0)
  have bz : ∀ W, Below v.heap.size v W → isX34 W (.pointer (some ⟨w.heap.size, 0, none⟩)) = true ∧ csX34 W (.pointer (some ⟨w.heap.size, 0, none⟩)) = (D.t.cl ++ dRest D h).toArray ∧ W.cell? ⟨w.heap.size, 34, none⟩ = some (.int .u32 (z.a : Int)) ∧ W.cell? ⟨w.heap.size, 35, none⟩ = some (.int .u32 (z.b : Int)) ∧ W.cell? ⟨w.heap.size, 36, none⟩ = some (.int .u32 (z.c : Int)) ∧ W.cell? ⟨w.heap.size, 37, none⟩ = some (.int .u32 (z.e : Int)) ∧ W.cell? ⟨w.heap.size, 38, none⟩ = some (.int .i64 ss) ∧ W.cell? ⟨w.heap.size, 39, none⟩ = some (.int .i64 gp) ∧ W.cell? ⟨w.heap.size, 40, none⟩ = some (.int .i64 sl) ∧ W.cell? ⟨w.heap.size, 41, none⟩ = some (.bool hu) := fun W k => by
    have b := box_below B0.out k
    have i := isX34_of (rng_disc ht b).out (discL_len ht)
    exact ⟨i.1, i.2, (b.cell 34).trans (ptV_back ht (j := 10) rfl), (b.cell 35).trans (ptV_back ht (j := 11) rfl), (b.cell 36).trans (ptV_back ht (j := 12) rfl), (b.cell 37).trans (ptV_back ht (j := 13) rfl), (b.cell 38).trans (ptV_back ht (j := 14) rfl), (b.cell 39).trans (ptV_back ht (j := 15) rfl), (b.cell 40).trans (ptV_back ht (j := 16) rfl), (b.cell 41).trans (ptV_back ht (j := 17) rfl)⟩
  go_enter Tryz.func46, Tryz.ntmps46
  go_upto_region 1 with (first
    | (refine bxT (by rfl) 105 _ (by rfl) _ (by rfl) hsz.out ?_))
  rw [← hv0]
  clear hv0
  go_region_held3 (fun W => isX34 W (.pointer (some ⟨w.heap.size, 0, none⟩)) = true ∧ csX34 W (.pointer (some ⟨w.heap.size, 0, none⟩)) = (D.t.cl ++ dRest D h).toArray ∧ W.cell? ⟨w.heap.size, 34, none⟩ = some (.int .u32 (z.a : Int)) ∧ W.cell? ⟨w.heap.size, 35, none⟩ = some (.int .u32 (z.b : Int)) ∧ W.cell? ⟨w.heap.size, 36, none⟩ = some (.int .u32 (z.c : Int)) ∧ W.cell? ⟨w.heap.size, 37, none⟩ = some (.int .u32 (z.e : Int)) ∧ W.cell? ⟨w.heap.size, 38, none⟩ = some (.int .i64 ss) ∧ W.cell? ⟨w.heap.size, 39, none⟩ = some (.int .i64 gp) ∧ W.cell? ⟨w.heap.size, 40, none⟩ = some (.int .i64 sl) ∧ W.cell? ⟨w.heap.size, 41, none⟩ = some (.bool hu)) (exact bz _ (by repeat (first | exact Below.refl _ _ | exact b2 | with_reducible apply bel_dr | with_reducible apply bel_al))) ((first
    | (go_at_call 25
       (with_reducible refine (to_anyL _ D h (hid (X0.out.grow (by repeat (first | exact Below.refl _ _ | with_reducible apply bel_dr | with_reducible apply bel_al)))) hg).mono ?_)
       rintro e w2 ⟨p, S0, rfl, A2, N2, k2⟩
       have b2 : Below v.heap.size v w2 := bel_vt k2 (by repeat (first | exact Below.refl _ _ | with_reducible apply bel_dr | with_reducible apply bel_al))
       have z2 : v.heap.size ≤ w2.heap.size := b2.size
       have N3 : ∀ x, S0 x → v.heap.size ≤ x := fun x hx => N2.out x hx)))
  all_goals
    go_wp2_with fail
    go_ret
    exact ⟨_, p, S0, rfl, hid ⟨PAt.made (P := ⟨D, z, ss, gp, sl, hu⟩) A2.out, fun x hx => by
      have hz := K0.size
      rcases hx with h | rfl
      · exact Nat.le_trans hz (N3 x h)
      · exact Nat.le_trans hz z2, (K0.trans (b2.mono K0.size)).alloc (Nat.le_trans K0.size z2) _⟩⟩
end Go.Proofs.YtggcampdkgfmgaaGreat
