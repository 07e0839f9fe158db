import Derived.Test.YtggcampdkgfmgaaJB
import Derived.ProofKit
import Derived.OpenShut
import Derived.SliceStrings
import Derived.Deep.Slices
import Derived.Deep.Fields
import Derived.Deep.DeepHandedRow
import Derived.Lib.LaidTab
import Derived.SizedLaws
import Derived.Deep.RegionHeld3
import Derived.Lib.SliceRun
import Derived.Lib.SlBytesConst
import Derived.BigQuiet
import Derived.Deep.QuietTactic
namespace Go.Proofs.Ytggcampdkgfmgaa.L13
open Go.ChangeShapes Go.WideShapes Go.ChangeAt Go.RowKit Go.Deep

section
variable {H : Type} {enc : TypeId × Value → H} {w : World} {base : Nat} {spare : Nat → Bool} {held : Bool}
end
section
variable {H : Type} {enc : TypeId × Value → H} {w : World} {base : Nat} {spare : Nat → Bool} {held : Bool}
end
/-- Bytes are put behind what is the call's own. -/
theorem app_own {ops : Array Oper} {rest : List Oper} {o : Oper} {a : Act} {Q : Exit → Act → World → Prop} (w : World) (hgd : o.guard = none) (s x : Operand) (ho : o.op = .call { callee := .builtin .append, args := #[s, x], argTypes := #[27, 27] })
    (base n c : Nat) (A : Option Addr) (xs : List UInt8) (hs : a.eval s = .slice A n c) (hown : Hid (w.ownsRow base 5 1 (.slice A n c) n (bv xs))) (hb : base ≤ w.heap.size) (A2 : Option Addr) (m c2 : Nat) (ys : List UInt8)
    (hx : a.eval x = .slice A2 m c2) (hS : Hid (SlB w w.heap.size A2 c2 ys)) (hy : ys.length = m) (hm : n + m ≤ 140737488355328)
    (h : ∀ A' c' w', Hid (w'.ownsRow base 5 1 (.slice A' (n + m) c') (n + m) (bv (xs ++ ys))) → Hid (Kept base [5] w w') → wpList Try.prog ops Q rest (a.put o.dst (.slice A' (n + m) c')) w') : wpList Try.prog ops Q (o :: rest) a w := by
  subst hy
  obtain ⟨i5, hi5, hz5, hz51, hz52⟩ := info_parts Try.info5
  refine wpList_app _ hgd s x 27 ho base 5 i5 _ 1 1 Try.underlying27 hi5 hz5 hz51 hz52 rfl (by decide) A n c (bv xs) hs hown.out w.heap.size A2 ys.length c2 (bv ys) hx (by rw [bv_length, Nat.mul_one]) hS.out.2.2.2 (bv_one _) (by unfold maxLen; omega) (by omega) hb ?_
  intro A3 c3 u2 ho2 hg2
  rw [← bv_append] at ho2
  have hk : Kept base [5] w u2 := (Kept.refl base [5] w).grown hg2 (fun k hk => by obtain ⟨a, cs, b⟩ := own_box hown.out k hk; exact ⟨a, 5, cs, by simp, b⟩)
  exact h A3 c3 u2 (hid ho2) (hid hk)
/-- A stream is copied to an empty literal. -/
theorem app_copy {ops : Array Oper} {rest : List Oper} {o : Oper} {a : Act} {Q : Exit → Act → World → Prop} (w : World) (hgd : o.guard = none) (s x : Operand) (ho : o.op = .call { callee := .builtin .append, args := #[s, x], argTypes := #[27, 27] })
    (hs : a.eval s = .slice (some ⟨w.heap.size, 0, none⟩) 0 0) (A : Option Addr) (n c : Nat) (bs : List UInt8) (hx : a.eval x = .slice A n c) (hS : Hid (SlB w w.heap.size A c bs)) (hn : bs.length = n) (hm : n ≤ 140737488355328)
    (h : ∀ A2 c2 u2, Hid (Below w.heap.size w u2) → Hid (SlB u2 u2.heap.size A2 c2 bs) → wpList Try.prog ops Q rest (a.put o.dst (.slice A2 n c2)) u2) : wpList Try.prog ops Q (o :: rest) a (w.alloc (.cells #[] 5)) := by
  subst hn
  obtain ⟨i5, hi5, hz5, hz51, hz52⟩ := info_parts Try.info5
  refine wpList_app _ hgd s x 27 ho w.heap.size 5 i5 _ 1 1 Try.underlying27 hi5 hz5 hz51 hz52 rfl (by decide) _ 0 0 [] hs (lit_own (Nat.le_refl _) rfl) w.heap.size A bs.length c (bv bs) hx (by rw [bv_length, Nat.mul_one]) (hS.out.2.2.2.alloc (Nat.le_refl _) _) (bv_one _) (by unfold maxLen; omega) (by omega) (by simp) ?_
  intro A2 c2 u2 ho2 hg2
  simp only [Nat.zero_add, List.nil_append] at ho2 ⊢
  exact h A2 c2 u2 (hid (lit_grown rfl hg2)) (hid (own_slb (_n := 0) ho2))
/-- In a region that draws its order: bytes are copied to an empty literal. -/
theorem step_copy {ops : Array Oper} {o : Oper} {a : Act} {K : Act → World → Prop} {Q : Exit → Act → World → Prop} {E : Prop} {W : World} (u v : World) (hgd : o.guard = none) (s x : Operand) (ho : o.op = .call { callee := .builtin .append, args := #[s, x], argTypes := #[27, 27] })
    (g : Nat) (hs : a.eval s = .slice (some ⟨g, 0, none⟩) 0 0) (hbox : Box W g 5 #[]) (hg : u.heap.size ≤ g) (hbel : Below u.heap.size u W) (hv : Below v.heap.size v W) (A : Option Addr) (n c : Nat) (bs : List UInt8) (hx : a.eval x = .slice A n c) (hS : Hid (SlB v v.heap.size A c bs)) (hn : Hid (bs.length = n)) (hm : n ≤ 140737488355328)
    (h : ∀ A2 c2 u2, Below u.heap.size u u2 → Hid (u2.ownsRow u.heap.size 5 1 (.slice A2 n c2) n (bv bs)) → K (a.put o.dst (.slice A2 n c2)) u2) :
    if Region.wanted o (yielded ops a.tmps) = true then Oper.wp Try.prog o a W K Q else E := by
  obtain rfl := hn.out
  obtain ⟨i5, hi5, hz5, hz51, hz52⟩ := info_parts Try.info5
  have how := own_lit hbox hg
  refine step_app _ hgd s x 27 ho u.heap.size 5 i5 _ 1 1 Try.underlying27 hi5 hz5 hz51 hz52 rfl (by decide) _ 0 0 [] hs how v.heap.size A bs.length c (bv bs) hx (by rw [bv_length, Nat.mul_one]) (hS.out.2.2.2.below hv) (bv_one _) (by unfold maxLen; omega) (by omega) hbel.size ?_
  intro A2 c2 u2 ho2 hg2
  simp only [Nat.zero_add, List.nil_append] at ho2 ⊢
  have hk : Kept u.heap.size [5] W u2 := (Kept.refl _ _ W).grown hg2 (fun k hk => by obtain ⟨a, cs, b⟩ := own_box how k hk; exact ⟨a, 5, cs, by simp, b⟩)
  exact h A2 c2 u2 (hbel.trans (hk.below hbel.size)) (hid ho2)
/-- In a region that draws its order: bytes are put behind what is the call's own. -/
theorem step_more {ops : Array Oper} {o : Oper} {a : Act} {K : Act → World → Prop} {Q : Exit → Act → World → Prop} {E : Prop} {W : World} (u v x0 : World) (hgd : o.guard = none) (s x : Operand) (ho : o.op = .call { callee := .builtin .append, args := #[s, x], argTypes := #[27, 27] })
    (A1 : Option Addr) (n1 c1 : Nat) (xs : List UInt8) (hs : a.eval s = .slice A1 n1 c1) (hown : Hid (v.ownsRow u.heap.size 5 1 (.slice A1 n1 c1) n1 (bv xs))) (hv : Below v.heap.size v W) (hbel : Below u.heap.size u W) (hx0 : Below x0.heap.size x0 W) (A : Option Addr) (n c : Nat) (bs : List UInt8) (hx : a.eval x = .slice A n c) (hS : Hid (SlB x0 x0.heap.size A c bs)) (hn : Hid (bs.length = n)) (hn1 : Hid (xs.length = n1)) (hm : n1 + n ≤ 140737488355328)
    (h : ∀ A2 c2 u2, Below u.heap.size u u2 → Hid (SlB u2 u2.heap.size A2 c2 (xs ++ bs)) → K (a.put o.dst (.slice A2 (n1 + n) c2)) u2) :
    if Region.wanted o (yielded ops a.tmps) = true then Oper.wp Try.prog o a W K Q else E := by
  obtain rfl := hn.out
  obtain rfl := hn1.out
  obtain ⟨i5, hi5, hz5, hz51, hz52⟩ := info_parts Try.info5
  have how := own_keep hown.out hv
  refine step_app _ hgd s x 27 ho u.heap.size 5 i5 _ 1 1 Try.underlying27 hi5 hz5 hz51 hz52 rfl (by decide) A1 _ c1 (bv xs) hs how x0.heap.size A bs.length c (bv bs) hx (by rw [bv_length, Nat.mul_one]) (hS.out.2.2.2.below hx0) (bv_one _) (by unfold maxLen; omega) (by omega) hbel.size ?_
  intro A2 c2 u2 ho2 hg2
  rw [← bv_append] at ho2
  have hk : Kept u.heap.size [5] W u2 := (Kept.refl _ _ W).grown hg2 (fun k hk => by obtain ⟨a, cs, b⟩ := own_box how k hk; exact ⟨a, 5, cs, by simp, b⟩)
  rw [← List.length_append] at ho2
  exact h A2 c2 u2 (hbel.trans (hk.below hbel.size)) (hid (own_slb (_n := 0) ho2))
/-- Bytes are copied to an empty literal: a row of the call's own. -/
theorem app_copyo {ops : Array Oper} {rest : List Oper} {o : Oper} {a : Act} {Q : Exit → Act → World → Prop} (w : World) (hgd : o.guard = none) (s x : Operand) (ho : o.op = .call { callee := .builtin .append, args := #[s, x], argTypes := #[27, 27] })
    (hs : a.eval s = .slice (some ⟨w.heap.size, 0, none⟩) 0 0) (A : Option Addr) (n c : Nat) (bs : List UInt8) (hx : a.eval x = .slice A n c) (hS : Hid (SlB w w.heap.size A c bs)) (hn : bs.length = n) (hm : n ≤ 140737488355328)
    (h : ∀ A2 c2 u2, Hid (Below w.heap.size w u2) → Hid (u2.ownsRow w.heap.size 5 1 (.slice A2 n c2) n (bv bs)) → wpList Try.prog ops Q rest (a.put o.dst (.slice A2 n c2)) u2) : wpList Try.prog ops Q (o :: rest) a (w.alloc (.cells #[] 5)) := by
  subst hn
  obtain ⟨i5, hi5, hz5, hz51, hz52⟩ := info_parts Try.info5
  refine wpList_app _ hgd s x 27 ho w.heap.size 5 i5 _ 1 1 Try.underlying27 hi5 hz5 hz51 hz52 rfl (by decide) _ 0 0 [] hs (lit_own (Nat.le_refl _) rfl) w.heap.size A bs.length c (bv bs) hx (by rw [bv_length, Nat.mul_one]) (hS.out.2.2.2.alloc (Nat.le_refl _) _) (bv_one _) (by unfold maxLen; omega) (by omega) (by simp) ?_
  intro A2 c2 u2 ho2 hg2
  simp only [Nat.zero_add, List.nil_append] at ho2 ⊢
  exact h A2 c2 u2 (hid (lit_grown rfl hg2)) (hid ho2)
theorem run_append_full (W : World) (p : Addr) (n m c2 : Nat) (A2 : Option Addr) (xs ys : List UInt8) (ty : TypeId) (hS : SlB W W.heap.size (some p) n xs) (hn : xs.length = n) (hS2 : SlB W W.heap.size A2 c2 ys) (hm : ys.length = m) (hb : n + m ≤ 140737488355328) :
    ∃ A3 c3 w', (Builtin.append_ #[27, 27] ty #[.slice (some p) n n, .slice A2 m c2]).run Try.prog W = .ok (.slice A3 (n + m) c3) w' ∧ SlB w' w'.heap.size A3 c3 (xs ++ ys) ∧ Below W.heap.size W w' := by
  obtain ⟨i5, hi5, hz5, hz51, hz52⟩ := info_parts Try.info5
  by_cases h0 : m = 0
  · subst h0
    have hy : ys = [] := List.eq_nil_of_length_eq_zero hm
    subst hy
    refine ⟨some p, n, W, ?_, by simpa using hS, Below.refl _ _⟩
    cases A2 <;> simp [Builtin.append_, run_underlying Try.underlying27, sizeOf, typeInfo, hi5, Builtin.lenOf, Builtin.firstCells, loadCells, loadCellsFrom, storeCells]
  · have hne : bv ys ≠ [] := by
      intro e
      have := congrArg List.length e
      rw [bv_length, hm] at this
      exact h0 this
    obtain ⟨b2, o2, rfl, _, hc2⟩ := hS2.2.2.2 hne
    have holds : ∀ j u, (bv xs)[j]? = some u → W.cell? (p.add j) = some u := fun j u hj => by
      obtain ⟨b, o, he, _, hc⟩ := hS.2.2.2 (by intro e; rw [e] at hj; simp at hj)
      cases he
      rw [Addr.add_lit]
      exact hc j u hj
    have hr := run_append_grow (P := Try.prog) W 27 ty 5 i5 (.int .u8 0) Try.underlying27 hi5 hz5 p n n (bv xs) (by rw [bv_length, hz51, Nat.mul_one, hn]) holds ⟨b2, o2, none⟩ m c2 (bv ys) (by rw [bv_length, hz51, Nat.mul_one, hm])
      (fun j u hj => by rw [Addr.add_lit]; exact hc2 j u hj) (by omega) (by omega) (growslice_fits (by omega) (by rw [hz52]; omega))
    have hge := grownCap_ge W (n + m) n 5
    have hcm : grownCap W (n + m) n 5 ≤ maxLen := grownCap_le_maxLen W (n + m) n 5 (by unfold maxLen; omega)
    generalize grownCap W (n + m) n 5 = cap at hr hge hcm
    refine ⟨_, _, _, hr, ⟨by rw [List.length_append, hn, hm]; exact hge, hcm, (fun e => by cases e), fun _ => ⟨W.heap.size, 0, rfl, by simp, fun j u hj => ?_⟩⟩, ((Below.refl W.heap.size W).drew).alloc (Nat.le_refl _) _⟩
    rw [bv_append] at hj
    have hjl := (List.getElem?_eq_some_iff.1 hj).1
    have h1 := World.cell?_alloc_mark W.drew ((bv xs).toArray ++ (bv ys).toArray ++ Builtin.zeroCells (Value.int IntKind.u8 0).cells (cap - (n + m))) 5 (0, 0) j
    rw [show W.drew.heap.size = W.heap.size from rfl] at h1
    rw [Nat.zero_add, h1]
    rw [Array.getElem?_append_left (by simpa using hjl), ← hj]
    simp
theorem step_full {ops : Array Oper} {o : Oper} {a : Act} {K : Act → World → Prop} {Q : Exit → Act → World → Prop} {E : Prop} {W : World} (hgd : o.guard = none) (s x : Operand) (ho : o.op = .call { callee := .builtin .append, args := #[s, x], argTypes := #[27, 27] })
    (p : Addr) (n : Nat) (xs : List UInt8) (hs : a.eval s = .slice (some p) n n) (A2 : Option Addr) (m c2 : Nat) (ys : List UInt8) (hx : a.eval x = .slice A2 m c2) (hS : Hid (SlB W W.heap.size (some p) n xs)) (hS2 : Hid (SlB W W.heap.size A2 c2 ys)) (hn : Hid (xs.length = n)) (hm : Hid (ys.length = m)) (hb : n + m ≤ 140737488355328)
    (h : ∀ A3 c3 u', Below W.heap.size W u' → Hid (SlB u' u'.heap.size A3 c3 (xs ++ ys)) → K (a.put o.dst (.slice A3 (n + m) c3)) u') :
    if Region.wanted o (yielded ops a.tmps) = true then Oper.wp Try.prog o a W K Q else E := by
  have hw : Region.wanted o (yielded ops a.tmps) = true := by simp [Region.wanted, hgd]
  rw [if_pos hw]
  obtain ⟨A3, c3, w', hrun, h2, h3⟩ := run_append_full W p n m c2 A2 xs ys o.type hS.out hn.out hS2.out hm.out hb
  unfold Oper.wp execOp
  simp only [ho, resolve, invoke, builtin, Sem.run_bind, Sem.run_pure, Result.andThen_ok, List.map_toArray, List.map_cons, List.map_nil, hs, hx, hrun]
  exact h A3 c3 w' h3 (hid h2)
section
variable {H : Type} {enc : TypeId × Value → H} {w : World} {base : Nat} {spare : Nat → Bool} {held : Bool}
end
section
variable {H : Type} {enc : TypeId × Value → H} {w : World} {base : Nat} {spare : Nat → Bool} {held : Bool}
end
end Go.Proofs.Ytggcampdkgfmgaa.L13
namespace Go.Proofs.Ytggcampdkgfmgaa.L13
open Go.RowKit

/-! Lines: rows of bytes and a flag, as records of where the bytes lie. -/
structure Rc where
  A : Option Addr
  c : Nat
  bs : List UInt8
  e : Bool
def Rc.v (r : Rc) : List Value := [.slice r.A r.bs.length r.c, .bool r.e]
def Rc.ln (r : Rc) : List UInt8 × Bool := (r.bs, r.e)
def rcV (rs : List Rc) : List Value := (rs.map Rc.v).flatten
def lnR (rs : List Rc) : List (List UInt8 × Bool) := rs.map Rc.ln
theorem rcV_nil : rcV [] = [] := rfl
theorem rcV_append (a b : List Rc) : rcV (a ++ b) = rcV a ++ rcV b := by simp [rcV]
theorem rcV_one (r : Rc) : rcV [r] = r.v := by simp [rcV]
theorem rcV_len (rs : List Rc) : (rcV rs).length = rs.length * 2 := by
  induction rs with
  | nil => rfl
  | cons r rs ih => simp only [rcV, List.map_cons, List.flatten_cons, List.length_append, List.length_cons] at ih ⊢; rw [ih]; simp [Rc.v]; omega
theorem rcV_cell (rs : List Rc) : ∀ u ∈ rcV rs, u.oneCell' = true := by
  intro u hu
  simp only [rcV, List.mem_flatten, List.mem_map] at hu
  obtain ⟨_, ⟨r, _, rfl⟩, hu⟩ := hu
  simp only [Rc.v, List.mem_cons, List.not_mem_nil, or_false] at hu
  rcases hu with rfl | rfl <;> rfl
theorem rcV_at {rs : List Rc} : ∀ {k : Nat} {r : Rc}, rs[k]? = some r → (rcV rs)[k * 2]? = some (.slice r.A r.bs.length r.c) ∧ (rcV rs)[k * 2 + 1]? = some (.bool r.e) := by
  induction rs with
  | nil => intro k r h; simp at h
  | cons x rs ih =>
    intro k r h
    cases k with
    | zero =>
      simp at h
      subst h
      exact ⟨rfl, rfl⟩
    | succ k =>
      have h2 := ih (k := k) (r := r) (by simpa using h)
      have e : rcV (x :: rs) = .slice x.A x.bs.length x.c :: .bool x.e :: rcV rs := rfl
      rw [e, show (k + 1) * 2 = k * 2 + 1 + 1 by omega, show k * 2 + 1 + 1 + 1 = (k * 2 + 1) + 1 + 1 by omega]
      exact h2
theorem rcV_take {rs : List Rc} {k : Nat} {r : Rc} (h : rs[k]? = some r) : rs.take (k + 1) = rs.take k ++ [r] := by
  obtain ⟨hk, rfl⟩ := List.getElem?_eq_some_iff.1 h
  exact List.take_succ_eq_append_getElem hk
/-- Lines that lie in memory. -/
structure LnV (w : World) (B : Nat) (A : Option Addr) (c : Nat) (rs : List Rc) : Prop where
  len : rs.length ≤ c
  cap : c ≤ maxLen
  nil : A = none → c = 0
  lies : Lies w B A (rcV rs)
  text : ∀ r ∈ rs, SlB w B r.A r.c r.bs
theorem LnV.below {w w' : World} {B : Nat} {A : Option Addr} {c : Nat} {rs : List Rc} (h : LnV w B A c rs) (hb : Below B w w') : LnV w' B A c rs := ⟨h.len, h.cap, h.nil, h.lies.below hb, fun r hr => (h.text r hr).below hb⟩
theorem LnV.more {w : World} {B B' : Nat} {A : Option Addr} {c : Nat} {rs : List Rc} (h : LnV w B A c rs) (hB : B ≤ B') : LnV w B' A c rs := ⟨h.len, h.cap, h.nil, h.lies.more hB, fun r hr => (h.text r hr).more hB⟩
theorem ln_up {u W : World} {A : Option Addr} {c : Nat} {rs : List Rc} (h : Hid (LnV u u.heap.size A c rs)) (hW : Below u.heap.size u W) : Hid (LnV W W.heap.size A c rs) := hid ((h.out.below hW).more hW.size)
/-- One of them. -/
theorem LnV.at {w : World} {B : Nat} {A : Option Addr} {c : Nat} {rs : List Rc} (h : LnV w B A c rs) {k : Nat} (hk : k < rs.length) : ∃ b o r, A = some ⟨b, o, none⟩ ∧ rs[k]? = some r ∧ w.cell? ⟨b, o + k * 2, none⟩ = some (.slice r.A r.bs.length r.c) ∧ w.cell? ⟨b, o + k * 2 + 1, none⟩ = some (.bool r.e) ∧ SlB w B r.A r.c r.bs := by
  obtain ⟨b, o, rfl, _, hc⟩ := h.lies (by
    intro e
    have := congrArg List.length e
    rw [rcV_len] at this
    have h0 : ([] : List Value).length = 0 := rfl
    omega)
  have hr : rs[k]? = some rs[k] := List.getElem?_eq_getElem hk
  obtain ⟨h1, h2⟩ := rcV_at hr
  exact ⟨b, o, rs[k], rfl, hr, hc _ _ h1, hc _ _ h2, h.text _ (List.getElem_mem hk)⟩
/-- Lines that a call has put together: the row is its own; the bytes lie somewhere. -/
structure LnO (w : World) (base E : Nat) (A : Option Addr) (n c : Nat) (rs : List Rc) : Prop where
  len : rs.length = n
  row : w.ownsRow base E 2 (.slice A n c) n (rcV rs)
  text : ∀ r ∈ rs, SlB w w.heap.size r.A r.c r.bs
theorem LnO.nil (w : World) (base E : Nat) : LnO w base E none 0 0 [] := ⟨rfl, World.ownsRow_nil _ _ _ _, fun r h => by cases h⟩
theorem LnO.up {w w' : World} {base E n c : Nat} {A : Option Addr} {rs : List Rc} (h : LnO w base E A n c rs) (hb : Below w.heap.size w w') : LnO w' base E A n c rs :=
  ⟨h.len, own_keep h.row hb, fun r hr => ((h.text r hr).below hb).more hb.size⟩
/-- It reads as lines. -/
theorem LnO.ln {w : World} {base E n c : Nat} {A : Option Addr} {rs : List Rc} (h : LnO w base E A n c rs) : LnV w w.heap.size A c rs := by
  have hc := own_caps h.row
  refine ⟨by rw [h.len]; exact hc.1, hc.2, ?_, Lies.own h.row, h.text⟩
  rintro rfl
  rcases h.row.2 with ⟨hv, _⟩ | ⟨g, cap, cur, hv, _⟩
  · injection hv
  · injection hv with h1
    cases h1
end Go.Proofs.Ytggcampdkgfmgaa.L13
namespace Go.Proofs.Ytggcampdkgfmgaa.L13
open Go.RowKit

/-! The law's helpers: lines in another type. -/
theorem Try.info30 : (Try.prog.info? 131).map (fun i => (i.zero, i.size, i.bytes)) = some (some (.agg #[.slice none 0 0, .bool false]), 2, 32) := by kernel_rfl
/-- A record is put behind a row of the call's own. -/
theorem app_rec {ops : Array Oper} {rest : List Oper} {o : Oper} {a : Act} {Q : Exit → Act → World → Prop} (T E : TypeId) (hT : Try.prog.underlying T = some (.slice E)) (hE : (Try.prog.info? E).map (fun i => (i.zero, i.size, i.bytes)) = some (some (.agg #[.slice none 0 0, .bool false]), 2, 32)) (W : World) (hgd : o.guard = none) (s x : Operand) (ho : o.op = .call { callee := .builtin .append, args := #[s, x], argTypes := #[T, T] })
    (base n m c : Nat) (A : Option Addr) (xs ys : List Rc) (hs : a.eval s = .slice A n c) (hown : Hid (W.ownsRow base E 2 (.slice A n c) n (rcV xs))) (hb : base ≤ W.heap.size) (A2 : Option Addr) (c2 : Nat) (hx : a.eval x = .slice A2 m c2) (hL : Hid (Lies W W.heap.size A2 (rcV ys))) (hy : ys.length = m) (hm : n + m ≤ 4398046511104)
    (h : ∀ A' c' w', Hid (w'.ownsRow base E 2 (.slice A' (n + m) c') (n + m) (rcV (xs ++ ys))) → Hid (Kept base [E] W w') → wpList Try.prog ops Q rest (a.put o.dst (.slice A' (n + m) c')) w') : wpList Try.prog ops Q (o :: rest) a W := by
  obtain ⟨i0, hi0, hz0, hz1, hz2⟩ := info_parts hE
  refine wpList_app _ hgd s x T ho base E i0 _ 2 32 hT hi0 hz0 hz1 hz2 rfl (by decide) A n c (rcV xs) hs hown.out W.heap.size A2 m c2 (rcV ys) hx (by rw [rcV_len, hy]) hL.out (rcV_cell ys) (by unfold maxLen; omega) (by omega) hb ?_
  intro A3 c3 u2 ho2 hg2
  rw [← rcV_append] at ho2
  have hk : Kept base [E] W u2 := (Kept.refl base [E] W).grown hg2 (fun k hk => by obtain ⟨a, cs, b⟩ := own_box hown.out k hk; exact ⟨a, E, cs, by simp, b⟩)
  exact h A3 c3 u2 (hid ho2) (hid hk)
theorem lies_rec (W : World) (E : TypeId) (r : Rc) (cs : Array Value) (g : Nat) (hg : g = W.heap.size) (hc : r.v.toArray = cs) : Lies (W.alloc (.cells cs E)) (W.alloc (.cells cs E)).heap.size (some ⟨g, 0, none⟩) (rcV [r]) := by
  subst hc hg
  have := lies_lit W r.v.toArray E
  rw [World.size_alloc, rcV_one]
  simpa using this
end Go.Proofs.Ytggcampdkgfmgaa.L13
namespace Go.Proofs.Ytggcampdkgfmgaa.L13
open Go.RowKit

/-! Lines are copied, bytes and all. -/
/-- Lines that a call has made: the row and all bytes are its own. -/
structure LnN (w : World) (base E : Nat) (A : Option Addr) (n c : Nat) (rs : List Rc) : Prop where
  len : rs.length = n
  row : w.ownsRow base E 2 (.slice A n c) n (rcV rs)
  text : ∀ r ∈ rs, w.ownsRow base 5 1 (.slice r.A r.bs.length r.c) r.bs.length (bv r.bs)
theorem LnN.nil (w : World) (base E : Nat) : LnN w base E none 0 0 [] := ⟨rfl, World.ownsRow_nil _ _ _ _, fun r h => by cases h⟩
theorem LnN.up {w w' : World} {base E n c : Nat} {A : Option Addr} {rs : List Rc} (h : LnN w base E A n c rs) (hb : Below w.heap.size w w') : LnN w' base E A n c rs :=
  ⟨h.len, own_keep h.row hb, fun r hr => own_keep (h.text r hr) hb⟩
theorem LnN.lnO {w : World} {base E n c : Nat} {A : Option Addr} {rs : List Rc} (h : LnN w base E A n c rs) : LnO w base E A n c rs := ⟨h.len, h.row, fun r hr => own_slb (_n := 0) (h.text r hr)⟩
theorem LnN.ln {w : World} {base E n c : Nat} {A : Option Addr} {rs : List Rc} (h : LnN w base E A n c rs) : LnV w w.heap.size A c rs := h.lnO.ln
theorem lnR_snoc (qs : List Rc) (q : Rc) : lnR (qs ++ [q]) = lnR qs ++ [q.ln] := by simp [lnR]
theorem lnR_len (qs : List Rc) : (lnR qs).length = qs.length := by simp [lnR]
/-- A record is put behind a row of the call's own, in a region that draws. -/
theorem step_rec {ops : Array Oper} {o : Oper} {a : Act} {K : Act → World → Prop} {Q : Exit → Act → World → Prop} {E0 : Prop} (T E : TypeId) (hT : Try.prog.underlying T = some (.slice E)) (hE : (Try.prog.info? E).map (fun i => (i.zero, i.size, i.bytes)) = some (some (.agg #[.slice none 0 0, .bool false]), 2, 32)) {W : World} (hgd : o.guard = none) (s x : Operand) (ho : o.op = .call { callee := .builtin .append, args := #[s, x], argTypes := #[T, T] })
    (base n m c : Nat) (A : Option Addr) (xs ys : List Rc) (hs : a.eval s = .slice A n c) (hown : Hid (W.ownsRow base E 2 (.slice A n c) n (rcV xs))) (hb : base ≤ W.heap.size) (A2 : Option Addr) (c2 : Nat) (hx : a.eval x = .slice A2 m c2) (hL : Hid (Lies W W.heap.size A2 (rcV ys))) (hy : ys.length = m) (hm : n + m ≤ 1000000)
    (h : ∀ A' c' w', Hid (w'.ownsRow base E 2 (.slice A' (n + m) c') (n + m) (rcV (xs ++ ys))) → Hid (Kept base [E] W w') → Hid (W.grownBy w' (Value.slice A n c).ownBlock) → K (a.put o.dst (.slice A' (n + m) c')) w') : if Region.wanted o (yielded ops a.tmps) = true then Oper.wp Try.prog o a W K Q else E0 := by
  obtain ⟨i0, hi0, hz0, hz1, hz2⟩ := info_parts hE
  refine step_app _ hgd s x T ho base E i0 _ 2 32 hT hi0 hz0 hz1 hz2 rfl (by decide) A n c (rcV xs) hs hown.out W.heap.size A2 m c2 (rcV ys) hx (by rw [rcV_len, hy]) hL.out (rcV_cell ys) (by unfold maxLen; omega) (by omega) hb ?_
  intro A3 c3 u2 ho2 hg2
  rw [← rcV_append] at ho2
  have hk : Kept base [E] W u2 := (Kept.refl base [E] W).grown hg2 (fun k hk => by obtain ⟨a, cs, b⟩ := own_box hown.out k hk; exact ⟨a, E, cs, by simp, b⟩)
  exact h A3 c3 u2 (hid ho2) (hid hk) (hid hg2)
theorem ln_snoc {W w' : World} {base E n c c' : Nat} {A A' : Option Addr} {qs : List Rc} {q : Rc} (h : LnN W base E A n c qs) (ht : W.ownsRow base 5 1 (.slice q.A q.bs.length q.c) q.bs.length (bv q.bs)) (hk : Kept base [E] W w') (hE : (5 : Nat) ∉ [E]) (ho : w'.ownsRow base E 2 (.slice A' (n + 1) c') (n + 1) (rcV (qs ++ [q]))) : LnN w' base E A' (n + 1) c' (qs ++ [q]) := by
  refine ⟨by rw [List.length_append, h.len]; rfl, ho, fun r hr => ?_⟩
  rcases List.mem_append.1 hr with h1 | h1
  · exact hk.own (h.text r h1) hE
  · obtain rfl := List.mem_singleton.1 h1
    exact hk.own ht hE
end Go.Proofs.Ytggcampdkgfmgaa.L13
namespace Go.Proofs.Ytggcampdkgfmgaa.L13
open Go.RowKit

/-! What lines use, their bytes, the same lines, too many lines. -/
def usedL (ls : List (List UInt8 × Bool)) : Nat := (ls.map fun x => x.1.length + (if x.2 = true then 1 else 0)).sum
def flatL (ls : List (List UInt8 × Bool)) : List UInt8 := (ls.map (·.1)).flatten
def minL (ls : List (List UInt8 × Bool)) : Nat := (ls.map fun x => min x.1.length 10000).sum
def greatL (ls : List (List UInt8 × Bool)) : Bool := decide (200 < ls.length) || decide (10000 < minL ls)
theorem usedL_snoc (ls : List (List UInt8 × Bool)) (x : List UInt8 × Bool) : usedL (ls ++ [x]) = usedL ls + (x.1.length + (if x.2 = true then 1 else 0)) := by simp [usedL]
theorem usedL_append (a b : List (List UInt8 × Bool)) : usedL (a ++ b) = usedL a + usedL b := by simp [usedL]
theorem flatL_snoc (ls : List (List UInt8 × Bool)) (x : List UInt8 × Bool) : flatL (ls ++ [x]) = flatL ls ++ x.1 := by simp [flatL]
theorem minL_snoc (ls : List (List UInt8 × Bool)) (x : List UInt8 × Bool) : minL (ls ++ [x]) = minL ls + min x.1.length 10000 := by simp [minL]
theorem minL_cons (ls : List (List UInt8 × Bool)) (x : List UInt8 × Bool) : minL (x :: ls) = min x.1.length 10000 + minL ls := by simp [minL]
theorem minL_le (ls : List (List UInt8 × Bool)) : minL ls ≤ 10000 * ls.length := by
  induction ls with
  | nil => exact Nat.le_refl _
  | cons x ls ih => rw [minL_cons, List.length_cons]; omega
theorem minL_each {ls : List (List UInt8 × Bool)} (h : minL ls ≤ 10000) : ∀ x ∈ ls, x.1.length ≤ 10000 ∨ minL ls = 10000 := by
  induction ls with
  | nil => intro x hx; cases hx
  | cons y ls ih =>
    rw [minL_cons] at h ⊢
    intro x hx
    rcases List.mem_cons.1 hx with rfl | hx
    · omega
    · rcases ih (by omega) x hx with h2 | h2
      · exact Or.inl h2
      · omega
theorem lnR_at {rs : List Rc} {k : Nat} {r : Rc} (h : rs[k]? = some r) : lnR (rs.take (k + 1)) = lnR (rs.take k) ++ [r.ln] := by rw [rcV_take h, lnR_snoc]
end Go.Proofs.Ytggcampdkgfmgaa.L13
namespace Go.Proofs.Ytggcampdkgfmgaa.L13
open Go.RowKit

/-! The same lines. -/
instance (u0 : World) : Nonempty (Gr u0) := ⟨⟨u0, Below.refl _ _⟩⟩
theorem q17 {u0 : World} {z : Gr u0} {A A2 : Option Addr} {c c2 n : Nat} {xs : List UInt8} (hn : Hid (xs.length = n)) (hx : Hid (SlB u0 u0.heap.size A c xs)) (hy : Hid (SlB u0 u0.heap.size A2 c2 xs)) (hl : n ≤ maxLen) :
    Calls Try.prog 9 #[.slice A n c, .slice A2 n c2] (grw z) fun e w'' => e = .returned (.bool true) ∧ ∃ z' : Gr u0, w'' = grw z' :=
  gr_call (bytes_eq _ A A2 c c2 n xs hn.out (slb_up hx z.b) (slb_up hy z.b) hl)
theorem lnR_get {rs qs : List Rc} (he : lnR rs = lnR qs) {k : Nat} {r q : Rc} (hr : rs[k]? = some r) (hq : qs[k]? = some q) : q.bs = r.bs ∧ q.e = r.e := by
  have h1 : (lnR rs)[k]? = some r.ln := by simp [lnR, hr]
  have h2 : (lnR qs)[k]? = some q.ln := by simp [lnR, hq]
  rw [he, h2] at h1
  injection h1 with h1
  exact ⟨congrArg Prod.fst h1, congrArg Prod.snd h1⟩
end Go.Proofs.Ytggcampdkgfmgaa.L13
namespace Go.Proofs.Ytggcampdkgfmgaa.L13
open Go.RowKit

/-! Lines with one more: the document's. -/
def putL (ls : List (List UInt8 × Bool)) (x : List UInt8 × Bool) : List (List UInt8 × Bool) × Bool := if usedL ls + usedL [x] ≤ 1024 then (ls ++ [x], true) else (ls, false)
theorem bsz {u W : World} (h : Below u.heap.size u W) : u.heap.size ≤ W.heap.size := h.size
theorem lnR_append (a b : List Rc) : lnR (a ++ b) = lnR a ++ lnR b := by simp [lnR]
theorem ln_lit {W : World} {g E : Nat} {x : Rc} (hb : Box W g E #[.slice x.A x.bs.length x.c, .bool x.e]) (hx : SlB W W.heap.size x.A x.c x.bs) : LnV W W.heap.size (some ⟨g, 0, none⟩) 1 [x] := by
  refine ⟨Nat.le_refl _, by unfold maxLen; decide, (fun e => by cases e), fun _ => ⟨g, 0, rfl, hb.lt, fun j u hu => ?_⟩, fun r hr => by obtain rfl := List.mem_singleton.1 hr; exact hx⟩
  rw [Nat.zero_add, hb.cell j]
  rw [rcV_one] at hu
  simpa [Rc.v] using hu
theorem ln_join {W w' : World} {base E n m c c' c2 : Nat} {A A' A2 : Option Addr} {qs ys : List Rc} {B2 : Nat} (h : LnN W base E A n c qs) (h2 : LnN W B2 E A2 m c2 ys) (hB : base ≤ B2) (hk : Kept base [E] W w') (hE : (5 : Nat) ∉ [E]) (ho : w'.ownsRow base E 2 (.slice A' (n + m) c') (n + m) (rcV (qs ++ ys))) : LnN w' base E A' (n + m) c' (qs ++ ys) := by
  refine ⟨by rw [List.length_append, h.len, h2.len], ho, fun r hr => ?_⟩
  rcases List.mem_append.1 hr with h1 | h1
  · exact hk.own (h.text r h1) hE
  · exact hk.own (own_mono (h2.text r h1) hB) hE
theorem ln_each {qs : List Rc} {L : List (List UInt8 × Bool)} {K : Nat} (h : lnR qs = L) (hL : ∀ y ∈ L, y.1.length ≤ K) : ∀ r ∈ qs, r.bs.length ≤ K := fun r hr => hL r.ln (by rw [← h]; exact List.mem_map_of_mem hr)
theorem LnN.mono {w : World} {base b' E n c : Nat} {A : Option Addr} {rs : List Rc} (h : LnN w base E A n c rs) (hb : b' ≤ base) : LnN w b' E A n c rs := ⟨h.len, own_mono h.row hb, fun r hr => own_mono (h.text r hr) hb⟩
/-- Lines that a call has answered, and whether. -/
def RetL (w : World) (E : Nat) (p : List (List UInt8 × Bool) × Bool) (e : Ending) (w' : World) : Prop := ∃ A n c qs, e = .returned (.tuple #[.slice A n c, .bool p.2]) ∧ Hid (lnR qs = p.1) ∧ Hid (LnN w' w.heap.size E A n c qs) ∧ Hid (Below w.heap.size w w')
end Go.Proofs.Ytggcampdkgfmgaa.L13
namespace Go.Proofs.Ytggcampdkgfmgaa.L13
open Go.RowKit

/-! A read of lines: the document's. -/
def readL (ls : List (List UInt8 × Bool)) (n : Int) : List UInt8 × List (List UInt8 × Bool) × Bool :=
  match ls with
  | [] => ([], [], false)
  | x :: r => if n ≤ 0 then ([], x :: r, true) else if (x.1.length : Int) ≤ n then (x.1, r, true) else (x.1.take n.toNat, (x.1.drop n.toNat, x.2) :: r, true)
/-- A call has answered bytes, lines and whether. -/
def RetRd (w : World) (p : List UInt8 × List (List UInt8 × Bool) × Bool) (e : Ending) (w' : World) : Prop := ∃ Ab nb cb A m c qs, e = .returned (.tuple #[.slice Ab nb cb, .slice A m c, .bool p.2.2]) ∧ Hid (p.1.length = nb) ∧ Hid (SlB w' w'.heap.size Ab cb p.1) ∧ Hid (lnR qs = p.2.1) ∧ Hid (qs.length = m) ∧ Hid (LnV w' w'.heap.size A c qs) ∧ Hid (Below w.heap.size w w')
theorem slb_nil (w : World) : SlB w w.heap.size none 0 [] := ⟨Nat.le_refl _, Nat.zero_le _, fun _ => rfl, Lies.nil_⟩
theorem LnV.tail {w : World} {B c : Nat} {a : Addr} {r : Rc} {rs : List Rc} (h : LnV w B (some a) c (r :: rs)) : LnV w B (some (if c = 1 then a else a.add 2)) (c - 1) rs := by
  have hl := h.len
  simp only [List.length_cons] at hl
  refine ⟨by omega, by have := h.cap; omega, (fun e => by cases e), fun hne => ?_, fun q hq => h.text q (List.mem_cons_of_mem _ hq)⟩
  have hrs : 0 < rs.length := by
    rcases Nat.eq_zero_or_pos rs.length with h0 | h0
    · exact absurd (by rw [List.eq_nil_of_length_eq_zero h0]; rfl) hne
    · exact h0
  obtain ⟨b, o, ha, hb, hc⟩ := h.lies (by intro e; have := congrArg List.length e; rw [rcV_len] at this; simp at this)
  cases ha
  refine ⟨b, o + 2, ?_, hb, fun j u hu => ?_⟩
  · rw [if_neg (by omega), Addr.add_lit]
  · have e : rcV (r :: rs) = .slice r.A r.bs.length r.c :: .bool r.e :: rcV rs := rfl
    have := hc (j + 2) u (by rw [e]; exact hu)
    rwa [show o + (j + 2) = o + 2 + j by omega] at this
theorem own_addr {w : World} {base E size n c : Nat} {A : Option Addr} {xs : List Value} (h : w.ownsRow base E size (.slice A n c) n xs) (hn : 0 < n) : ∃ g cs, A = some ⟨g, 0, none⟩ ∧ base ≤ g ∧ Box w g E cs := by
  rcases h.2 with ⟨hv, h0⟩ | ⟨g, cap, cur, hv, hb, hx, _⟩
  · omega
  · injection hv with hA
    subst hA
    exact ⟨g, _, rfl, hb, hx⟩
/-- Bytes are copied to an empty literal; where it lies is told by a number. -/
theorem app_copy2 {ops : Array Oper} {rest : List Oper} {o : Oper} {a : Act} {Q : Exit → Act → World → Prop} (w : World) (hgd : o.guard = none) (s x : Operand) (ho : o.op = .call { callee := .builtin .append, args := #[s, x], argTypes := #[27, 27] }) (g : Nat) (hg : g = w.heap.size)
    (hs : a.eval s = .slice (some ⟨g, 0, none⟩) 0 0) (A : Option Addr) (n c : Nat) (bs : List UInt8) (hx : a.eval x = .slice A n c) (hS : Hid (SlB w w.heap.size A c bs)) (hn : bs.length = n) (hm : n ≤ 140737488355328)
    (h : ∀ A2 c2 u2, Hid (Below w.heap.size w u2) → Hid (SlB u2 u2.heap.size A2 c2 bs) → wpList Try.prog ops Q rest (a.put o.dst (.slice A2 n c2)) u2) : wpList Try.prog ops Q (o :: rest) a (w.alloc (.cells #[] 5)) := by
  subst hg
  exact app_copy w hgd s x ho hs A n c bs hx hS hn hm h
theorem back_all {w : World} {f : Value → World} {B : Nat} {A : Option Addr} {n c k : Nat} {bs : List UInt8} (hn : bs.length = n) (hk : k ≤ n) (hS : SlB w B A c bs) (hV : ∀ v, SlB (f v) (f v).heap.size A c bs) : ∃ A2 c2, (∀ W : World, (Instr.sliceAt 27 (.slice A n c) (some (.int .i64 (k : Int))) none none).run Try.prog W = .ok (.slice A2 (n - k) c2) W) ∧ Hid (∀ v, SlB (f v) (f v).heap.size A2 c2 (bs.drop k)) := by
  have hc : A = none → c = 0 := hS.2.2.1
  have hl := hS.1
  rcases A with _ | ad
  · obtain ⟨A2, c2, h1, h2⟩ := run_back hS hn hk
    obtain rfl := hc rfl
    have hb : bs = [] := by
      have : bs.length = 0 := by omega
      exact List.eq_nil_of_length_eq_zero this
    subst hb
    refine ⟨none, 0, fun W => ?_, hid (fun v => ?_)⟩
    · simp at hn
      subst hn
      obtain rfl : k = 0 := by omega
      simp [Instr.sliceAt, Instr.slice, go_sem]
    · rw [List.drop_nil]; exact hV v
  · refine ⟨some (if c = k then ad else ad.add k), c - k, fun W => ?_, hid (fun v => (hV v).drop k (by omega))⟩
    simp [Instr.sliceAt, Instr.slice, go_sem, show (k : Int) ≤ (n : Int) by omega]
    split <;> rfl
end Go.Proofs.Ytggcampdkgfmgaa.L13
namespace Go.Proofs.Ytggcampdkgfmgaa.L13
open Go.RowKit

/-! What the program's calls answer: new memory, all of it. -/
def NewB (w : World) (base : Nat) (A : Option Addr) (bs : List UInt8) : Prop := bs ≠ [] → ∃ g o cs, A = some ⟨g, o, none⟩ ∧ base ≤ g ∧ Box w g 5 cs
structure LnF (w : World) (base : Nat) (A : Option Addr) (c : Nat) (qs : List Rc) : Prop where
  ln : LnV w w.heap.size A c qs
  row : qs ≠ [] → ∃ g o cs, A = some ⟨g, o, none⟩ ∧ base ≤ g ∧ Box w g 131 cs
  text : ∀ r ∈ qs, NewB w base r.A r.bs
def RetLF (w : World) (p : List (List UInt8 × Bool) × Bool) (e : Ending) (w' : World) : Prop := ∃ A n c qs, e = .returned (.tuple #[.slice A n c, .bool p.2]) ∧ Hid (lnR qs = p.1) ∧ Hid (qs.length = n) ∧ Hid (LnF w' w.heap.size A c qs) ∧ Hid (Below w.heap.size w w')
def RetRF (w : World) (p : List UInt8 × List (List UInt8 × Bool) × Bool) (e : Ending) (w' : World) : Prop := ∃ Ab nb cb A m c qs, e = .returned (.tuple #[.slice Ab nb cb, .slice A m c, .bool p.2.2]) ∧ Hid (p.1.length = nb) ∧ Hid (SlB w' w'.heap.size Ab cb p.1) ∧ Hid (NewB w' w.heap.size Ab p.1) ∧ Hid (lnR qs = p.2.1) ∧ Hid (qs.length = m) ∧ Hid (LnF w' w.heap.size A c qs) ∧ Hid (Below w.heap.size w w')
end Go.Proofs.Ytggcampdkgfmgaa.L13
