import Derived.Test.YtggcampdkgfmgaaJW
import Derived.Deep.MidRow
namespace Go.Proofs.Ytggcampdkgfmgaa
open Go.RowKit

/-! Layer 16: the public calls: Set. -/
theorem but_cells (p : Nat) : ∀ (vs : List Value) (o : Nat) (w : World), ButP (fun x => x = p) w (w.setCells p o vs)
  | [], _, w => ButP.refl _ w
  | v :: r, o, w => ((ButP.refl (fun x => x = p) w).store (.inl rfl) v).trans (but_cells p r (o + 1) _) (fun _ hx => .inl hx)
theorem box_cells (p : Nat) (T : TypeId) (r : List Value) : ∀ (vs old pre : List Value) (w : World), old.length = vs.length → Box w p T (pre ++ (old ++ r)).toArray → Box (w.setCells p pre.length vs) p T (pre ++ (vs ++ r)).toArray
  | [], old, pre, w, hl, hb => by
    obtain rfl : old = [] := List.eq_nil_of_length_eq_zero hl
    exact hb
  | v :: vs, old, pre, w, hl, hb => by
    cases old with
    | nil => simp at hl
    | cons x old =>
      have h1 := hb.store pre.length v
      have e : (pre ++ (x :: old ++ r)).toArray.setIfInBounds pre.length v = ((pre ++ [v]) ++ (old ++ r)).toArray := by simp
      rw [e] at h1
      have h2 := box_cells p T r vs old (pre ++ [v]) _ (by simpa using hl) h1
      rw [List.length_append] at h2
      simpa [World.setCells] using h2
theorem concat3_new (W : World) (g : Nat) (A A2 A3 : Option Addr) (n n2 n3 c c2 c3 : Nat) (xs ys zs : List UInt8) (hg : Box W g 27 #[.slice A n c, .slice A2 n2 c2, .slice A3 n3 c3]) (hx : Hid (SlB W W.heap.size A c xs)) (hy : Hid (SlB W W.heap.size A2 c2 ys)) (hz : Hid (SlB W W.heap.size A3 c3 zs)) (hn : Hid (xs.length = n)) (hn2 : Hid (ys.length = n2)) (hn3 : Hid (zs.length = n3)) (hm : n + n2 + n3 ≤ 1000000) :
    Calls Try.prog 26 #[.slice (some ⟨g, 0, none⟩) 3 3] W fun e w' => ∃ A5 n5 c5, e = .returned (.slice A5 n5 c5) ∧ Hid ((xs ++ ys ++ zs).length = n5) ∧ Hid (w'.ownsRow W.heap.size 5 1 (.slice A5 n5 c5) n5 (bv (xs ++ ys ++ zs))) ∧ Hid (Below W.heap.size W w') := by
  obtain rfl := hn.out
  obtain rfl := hn2.out
  obtain rfl := hn3.out
  have hl : LisV W W.heap.size (some ⟨g, 0, none⟩) [xs, ys, zs] := fun _ => by
    refine ⟨g, 0, rfl, hg.lt, fun k hk => ?_⟩
    match k, hk with
    | 0, _ => exact ⟨A, c, (hg.cell 0), hx.out⟩
    | 1, _ => exact ⟨A2, c2, (hg.cell 1), hy.out⟩
    | 2, _ => exact ⟨A3, c3, (hg.cell 2), hz.out⟩
  have hf : [xs, ys, zs].flatten = xs ++ ys ++ zs := by simp
  refine (concat_any W W.heap.size (some ⟨g, 0, none⟩) 3 [xs, ys, zs] hl (Nat.le_refl _) (by show 3 ≤ 1000; decide) (by rw [hf, List.length_append, List.length_append]; omega)).mono ?_
  rw [hf]
  rintro e w' ⟨A5, c5, rfl, ho, hb⟩
  exact ⟨A5, _, c5, rfl, hid rfl, hid ho, hid hb⟩
theorem flat_used (ls : List (List UInt8 × Bool)) : (L13.flatL ls).length ≤ L13.usedL ls := by
  induction ls with
  | nil => exact Nat.le_refl _
  | cons x r ih =>
    simp only [L13.flatL, L13.usedL, List.map_cons, List.flatten_cons, List.sum_cons, List.length_append] at ih ⊢
    omega
theorem used_take (ls : List (List UInt8 × Bool)) (k : Nat) : L13.usedL (ls.take k) ≤ L13.usedL ls := by
  induction ls generalizing k with
  | nil => simp
  | cons x r ih =>
    cases k with
    | zero => simp [L13.usedL]
    | succ k =>
      have := ih k
      simp only [L13.usedL, List.take_succ_cons, List.map_cons, List.sum_cons] at this ⊢
      omega
section
variable {w0 w : World} {p : Nat} {S0 S : Nat → Prop} {D : Ds} {h : Ph}
theorem Wy.set_t (H : Hid (Wy w0 p S0 w S D h)) (ht : D.t.Ok) {t : Tm} (h2 : t.Ok) : Hid (Wy w0 p S0 (w.setCells p 0 t.cl) S { D with t := t } h) := by
  have K := H.out.at_
  have k := but_cells p t.cl 0 w
  have hb : Box (w.setCells p 0 t.cl) p 88 (tmV t (dRest { D with t := t } h)) := box_cells p _ (dRest { D with t := t } h) t.cl D.t.cl [] w (by rw [cl_len ht.len, cl_len h2.len]) K.box
  have hz := k.size
  exact hid ⟨K.re k hb (fun _ h => h) (fun x hx => Nat.lt_of_lt_of_le (K.top x hx) hz) K.line K.sl K.raw K.sr K.out K.so K.lsv K.lsq K.row K.txt, H.out.new, H.out.but.trans k (fun x hx => by subst hx; exact H.out.new _ K.sp)⟩
theorem Wy.there (H : Hid (Wy w0 p S0 w S D h)) (ht : D.t.Ok) : w.there p 0 24 := fun j hj => by
  rw [Nat.zero_add]
  refine ⟨?_, Wy.fz H j⟩
  rw [H.out.at_.box.cell j]
  have hs := tmV_size ht (dRest D h)
  rw [Array.getElem?_eq_getElem (by rw [hs]; omega)]
  rfl
attribute [local go_sem ↓] wp_ldR ex_ldR

def rawD (D : Ds) : Ds := { D with raw := (D.raw ++ L13.flatL D.ls ++ D.line).take 1024, ls := [], line := [], nx := false }
def linD (D : Ds) : Ds := if D.raw = [] then D else { D with ls := D.ls ++ [(D.raw, true)], raw := [] }
end
end Go.Proofs.Ytggcampdkgfmgaa
namespace Go.Proofs.Ytggcampdkgfmgaa
open Go.RowKit

/-! Layer 16: the public calls: Set. -/
section
variable {w0 w : World} {p : Nat} {S0 S : Nat → Prop} {D : Ds} {h : Ph}
theorem size26s (t : Tm) (ht : t.c.length = 19) : (Try.prog.info? 26).map (·.size) = some t.cs.size := by rw [cs_size ht]; exact Try.size26
theorem rightT_is (t : Tm) : rightB t = rightT t := rfl
attribute [local go_sem ↓] wp_ldR ex_ldR ex_ld26
attribute [local go_sem] isP_v blkV_v aggV_v

end
end Go.Proofs.Ytggcampdkgfmgaa
