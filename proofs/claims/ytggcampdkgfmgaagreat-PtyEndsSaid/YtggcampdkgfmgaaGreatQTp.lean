import Derived.Test.YtggcampdkgfmgaaGreatQT
import Derived.Test.YtggcampdkgfmgaaGreatQW
import Derived.Deep.MidRow
namespace Go.Proofs.YtggcampdkgfmgaaGreat
open Go.RowKit

/-! The law's To. -/
def ThR (w : World) (v : Value) : Prop := ∃ g o, v = .pointer (some ⟨g, o, none⟩) ∧ w.there g o 24
def stR (w : World) (v : Value) (l : List Value) : World := match v with
  | .pointer (some ⟨g, o, _⟩) => w.setCells g o l
  | _ => w
theorem stR_v (w : World) (g o : Nat) (l : List Value) : stR w (.pointer (some ⟨g, o, none⟩)) l = w.setCells g o l := rfl
theorem wp_stR {dst : Option Tmp} {x y : Operand} {ty : TypeId} {pos : String} {after : Array Edge} {gd : Option (Nat × Bool)} {a : Act} {w : World} {K : Act → World → Prop} {Q : Exit → Act → World → Prop} (h1 : ThR w (a.eval x)) (h3 : okS (a.eval y) = true) :
    Oper.wp Tryz.prog { dst, op := .store 26 x y, type := ty, pos, after, guard := gd } a w K Q = K (a.put dst undef) (stR w (a.eval x) (aggV (a.eval y)).toList) := by
  obtain ⟨g, o, hx, ht⟩ := h1
  unfold okS at h3
  simp only [Bool.and_eq_true, decide_eq_true_eq] at h3
  obtain ⟨⟨h4, h5⟩, h6⟩ := h3
  have hy : a.eval y = .agg (aggV (a.eval y)) := by
    cases hv : a.eval y <;> simp [hv, isA, aggV] at h4 ⊢
  rw [hx, stR_v]
  generalize aggV (a.eval y) = cs at *
  unfold Oper.wp execOp
  simp only [hx, hy, Instr.storeAt, Instr.sureAddr, Sem.run_bind, Sem.run_pure, Result.andThen_ok, run_storeVar_mid (P := Tryz.prog) w g o 26 cs (by rw [h5]; exact ht) (by rw [h5]; exact Tryz.size26) h6]
  rfl
abbrev KB (p : Nat) (v W : World) : Prop := ButP (fun x => x = p) v W
section
variable {p : Nat} {v W : World}
theorem kb_dr (h : KB p v W) : KB p v W.drew := h.drew
theorem kb_al (h : KB p v W) (o : Obj) : KB p v (W.alloc o) := h.bel ((Below.refl _ W).alloc (Nat.le_refl _) o)
theorem kb_st (h : KB p v W) (i : Nat) (u : Value) : KB p v (W.setCell ⟨p, i, none⟩ u) := h.store (.inl rfl) u
theorem kb_sts (h : KB p v W) (i : Nat) (l : List Value) : KB p v (W.setCells p i l) := h.trans (but_cells p l i W) (fun _ hx => .inl hx)
end
theorem size_dr (W : World) : W.drew.heap.size = W.heap.size := rfl
/-- An empty row's block alone may have turned. -/
structure LO (g : Nat) (W u : World) : Prop where
  size : W.heap.size ≤ u.heap.size
  block : ∀ b, b < W.heap.size → b ≠ g → u.heap[b]? = W.heap[b]?
theorem LO.slb {g : Nat} {W u : World} (h : LO g W u) (hb : Box W g 5 #[]) {A : Option Addr} {c : Nat} {l : List UInt8} (hS : Hid (SlB W W.heap.size A c l)) : Hid (SlB u u.heap.size A c l) := by
  refine hid ⟨hS.out.1, hS.out.2.1, hS.out.2.2.1, fun hn => ?_⟩
  obtain ⟨b, o, e, hlt, hc⟩ := hS.out.2.2.2 hn
  refine ⟨b, o, e, Nat.lt_of_lt_of_le hlt h.size, fun j x hx => ?_⟩
  have h1 := hc j x hx
  have hne : b ≠ g := by
    rintro rfl
    rw [hb.cell] at h1
    simp at h1
  have h2 := h.block b hlt hne
  unfold World.cell? at h1 ⊢
  rw [h2]
  exact h1
theorem step_lit {ops : Array Oper} {o : Oper} {a : Act} {K : Act → World → Prop} {Q : Exit → Act → World → Prop} {E : Prop} {W : World} (v : World) (hgd : o.guard = none) (s x : Operand) (ho : o.op = .call { callee := .builtin .append, args := #[s, x], argTypes := #[27, 27] })
    (g : Nat) (hs : a.eval s = .slice (some ⟨g, 0, none⟩) 0 0) (hbox : Box W g 5 #[]) (hg : v.heap.size ≤ g) (hv : Below v.heap.size v W) (A : Option Addr) (n c : Nat) (bs : List UInt8) (hx : a.eval x = .slice A n c) (hS : Hid (SlB v v.heap.size A c bs)) (hn : Hid (bs.length = n)) (hm : n ≤ 1000000)
    (h : ∀ A2 c2 u2, Below v.heap.size v u2 → Hid (SlB u2 u2.heap.size A2 c2 bs) → Hid (∀ a, A2 = some a → v.heap.size ≤ a.block) → (∀ A c l, Hid (SlB W W.heap.size A c l) → Hid (SlB u2 u2.heap.size A c l)) → (∀ g', g' ≠ g → Box W g' 5 #[] → Box u2 g' 5 #[]) → W.heap.size ≤ u2.heap.size → K (a.put o.dst (.slice A2 n c2)) u2) :
    if Region.wanted o (yielded ops a.tmps) = true then Oper.wp Tryz.prog o a W K Q else E := by
  obtain rfl := hn.out
  obtain ⟨i5, hi5, hz5, hz51, hz52⟩ := info_parts Tryz.info5
  have how := own_lit (base := v.heap.size) hbox hg
  refine step_app _ hgd s x 27 ho v.heap.size 5 i5 _ 1 1 Tryz.underlying27 hi5 hz5 hz51 hz52 rfl (by decide) _ 0 0 [] hs how v.heap.size A bs.length c (bv bs) hx (by rw [bv_length, Nat.mul_one]) (hS.out.2.2.2.below hv) (bv_one _) (by unfold maxLen; omega) (by omega) hv.size ?_
  intro A2 c2 u2 ho2 hg2
  simp only [Nat.zero_add, List.nil_append] at ho2 ⊢
  have hk : Kept v.heap.size [5] W u2 := (Kept.refl _ _ W).grown hg2 (fun k hk => by obtain ⟨a, cs, b⟩ := own_box how k hk; exact ⟨a, 5, cs, by simp, b⟩)
  have hlo : LO g W u2 := ⟨hg2.size, fun b hb hne => hg2.block b hb (fun e => hne (by injection e))⟩
  refine h A2 c2 u2 (hv.trans (hk.below hv.size)) (slb_own (hid rfl) (hid ho2)) (hid (fun a ha => ?_)) (fun A c l hSl => hlo.slb hbox hSl) (fun g' hne hb => hb.same (hlo.block g' hb.lt hne)) hlo.size
  subst ha
  exact (ho2.lt a.block rfl).1
attribute [local go_sem ↓] wp_ldR ex_ldR wp_stR
attribute [local go_sem] isP_v blkV_v aggV_v stR_v

set_option maxRecDepth 100000 in
set_option maxHeartbeats 2000000 in
theorem newp_ph (w : World) (t : Tm) (ht : t.Ok) : Calls Tryz.prog 19 #[.agg t.cs] w fun e w' => ∃ p S, e = .returned (.pointer (some ⟨p, 0, none⟩)) ∧ Hid (DPh w' p S (newD t) ph0) ∧ Hid (∀ x, S x → w.heap.size ≤ x) ∧ Hid (Below w.heap.size w w') := by
  have hs := cs_size ht.len
  have hsz : (Tryz.prog.info? 45).map (·.size) = some (tmV t (dRest (newD t) ph0)).size := by rw [tmV_size ht]; exact size45
  replace hsz := hid hsz
  go_enter Tryz.func19, Tryz.ntmps19
  go_wp2_with (first
    | (refine bx26 (by rfl) _ (by rfl) _ (by rfl) hs ?_
       intro G0)
    | (refine ld26 (by rfl) _ (by rfl) _ (by rfl) t.cs G0.out hs ?_)
    | (refine bldN (by rfl) _ (by rfl) t ht.len (by rfl) ?_)
    | (refine bxT (by rfl) 45 _ (by rfl) _ (by rfl) hsz.out ?_))
  go_ret
  refine ⟨w.heap.size + 1, fun x => x = w.heap.size + 1, rfl, hid ?_, hid (fun x hx => by subst hx; omega), hid (((Below.refl _ w).alloc (Nat.le_refl _) _).alloc (by simp) _)⟩
  refine ⟨box_nw (by simp), (slb_nil0 _).out, (slb_nil0 _).out, (slb_nil0 _).out, (L13.LnO.nil _ 0 0).ln, rfl, (fun h => absurd rfl h), (fun r hr => by cases hr), rfl, (fun h => absurd rfl h), (fun h => absurd rfl h), (fun h => absurd rfl h), fun x hx => ?_⟩
  have hx : x = w.heap.size + 1 := hx
  subst hx
  simp
theorem kb_below {p : Nat} {v U u : World} (h : KB p v U) (k : Below v.heap.size U u) : KB p v u :=
  h.trans (T := fun x => v.heap.size ≤ x) ⟨k.os, k.tape, k.output, k.size, fun b _ hn => k.block b (Nat.lt_of_not_le hn)⟩ (fun _ hx => .inr hx)
theorem sumL_each (ls : List (List UInt8 × Bool)) : ∀ x ∈ ls, x.1.length ≤ sumL ls := by
  induction ls with
  | nil => intro x hx; cases hx
  | cons y r ih =>
    intro x hx
    simp only [sumL, List.map_cons, List.sum_cons]
    rcases List.mem_cons.1 hx with rfl | hx
    · omega
    · have := ih x hx
      simp only [sumL] at this
      omega
/-- The law's To, its lines laid one by one. -/
structure TI (v5 wr : World) (p : Nat) (D : Ds) (h5 : Ph) (m : Nat) (A : Option Addr) (c : Nat) (qs : List L13.Rc) : Prop where
  but : KB p v5 wr
  box : Box wr p 45 (tmV D.t (dRest { D with ls := D.ls.take m } { h5 with nA := A, nc := c, qs := qs }))
  ln : L13.LnN wr v5.heap.size 132 A m c qs
  eq : L13.lnR qs = D.ls.take m
theorem ti_next {v5 wr v6 u1 u3 : World} {p : Nat} {D : Ds} {h5 : Ph} {m : Nat} {A A2 A3 : Option Addr} {c c2 c3 y : Nat} {qs : List L13.Rc} {bs : List UInt8} {e : Bool} (ht : D.t.Ok) (H : Hid (TI v5 wr p D h5 m A c qs)) (_hp : p < v5.heap.size) (hm : D.ls[m]? = some (bs, e)) (hy : Hid (bs.length = y)) (k6 : Below wr.heap.size wr v6) (k1 : Below v6.heap.size v6 u1) (O2 : Hid (u1.ownsRow v6.heap.size 5 1 (.slice A2 y c2) y (bv bs)))
    (k3 : Hid (Kept v5.heap.size [132] (u1.alloc (.cells #[.slice A2 y c2, .bool e] 132)) u3)) (O3 : Hid (u3.ownsRow v5.heap.size 132 2 (.slice A3 (m + 1) c3) (m + 1) (L13.rcV (qs ++ [⟨A2, c2, bs, e⟩])))) :
    Hid (TI v5 (u3.setCell ⟨p, 26, none⟩ (.slice A3 (m + 1) c3)) p D h5 (m + 1) A3 c3 (qs ++ [⟨A2, c2, bs, e⟩])) := by
  obtain rfl := hy.out
  have h := H.out
  have ka : Below u1.heap.size u1 (u1.alloc (.cells #[.slice A2 bs.length c2, .bool e] 132)) := (Below.refl _ _).alloc (Nat.le_refl _) _
  have s6 : v5.heap.size ≤ v6.heap.size := Nat.le_trans h.but.size k6.size
  have kw : Below wr.heap.size wr (u1.alloc (.cells #[.slice A2 bs.length c2, .bool e] 132)) := (k6.trans (k1.mono k6.size)).trans (ka.mono (Nat.le_trans k6.size k1.size))
  have bx3 : Box u3 p 45 _ := k3.out.box (box_below h.box kw) (by decide)
  have hsz : v5.heap.size ≤ (u1.alloc (.cells #[.slice A2 bs.length c2, .bool e] 132)).heap.size := Nat.le_trans h.but.size kw.size
  have kb3 : KB p v5 u3 := kb_below (h.but.bel kw) (k3.out.below hsz)
  have kst : Kept p [45] u3 (u3.setCell ⟨p, 26, none⟩ (.slice A3 (m + 1) c3)) := (Kept.refl _ _ _).store bx3 (Nat.le_refl _) (by simp) _
  have hml : m < D.ls.length := (List.getElem?_eq_some_iff.1 hm).1
  have hbs := (List.getElem?_eq_some_iff.1 hm).2
  refine hid ⟨kb_st kb3 26 _, ?_, ⟨?_, kst.own O3.out (by decide), ?_⟩, ?_⟩
  · have := bx3.store (24 + 2) (.slice A3 (m + 1) c3)
    rw [tmV_set ht] at this
    have e2 : (dRest { D with ls := D.ls.take m } { h5 with nA := A, nc := c, qs := qs }).set 2 (.slice A3 (m + 1) c3) = dRest { D with ls := D.ls.take (m + 1) } { h5 with nA := A3, nc := c3, qs := qs ++ [⟨A2, c2, bs, e⟩] } := by
      unfold dRest
      simp [List.length_take, Nat.min_eq_left hml]
    rw [e2] at this
    exact this
  · rw [List.length_append, h.ln.len]; rfl
  · intro r hr
    rcases List.mem_append.1 hr with h1 | h1
    · exact kst.own (k3.out.own (own_keep (h.ln.text r h1) kw) (by decide)) (by decide)
    · obtain rfl := List.mem_singleton.1 h1
      exact kst.own (k3.out.own (own_keep (own_mono O2.out s6) ka) (by decide)) (by decide)
  · rw [L13.lnR_append, h.eq, List.take_succ_eq_append_getElem hml, hbs]
    rfl
/-- A discipline without its lines. -/
def lsD (D : Ds) : Ds := ⟨D.t, D.line, D.nx, [], D.raw, D.s, D.h, D.out, D.col, D.fr, D.idle⟩
theorem kb_be {p : Nat} {v W : World} (h : Below v.heap.size v W) : KB p v W := ButP.of_below h _
theorem great_lens {D : Ds} (hg : greatD D = false) : (D.line.length ≤ 12000 ∧ D.raw.length ≤ 12000 ∧ D.out.length ≤ 12000) ∧ D.ls.length ≤ 2000 ∧ sumL D.ls ≤ 12000 := by
  unfold greatD at hg
  simp only [Bool.or_eq_false_iff, decide_eq_false_iff_not] at hg
  obtain ⟨h1, h2⟩ := hg
  exact ⟨⟨by omega, by omega, by omega⟩, by omega, by omega⟩
/-- A discipline without its lists. -/
def hdD (D : Ds) : Ds := ⟨D.t, [], D.nx, [], [], D.s, D.h, [], D.col, D.fr, D.idle⟩
def tlC : Nat → Code → Code
  | 0, c => c
  | n + 1, .seq _ c => tlC n c
  | _ + 1, c => c

end Go.Proofs.YtggcampdkgfmgaaGreat
