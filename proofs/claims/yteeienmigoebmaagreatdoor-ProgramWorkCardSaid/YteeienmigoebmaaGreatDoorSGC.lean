import Derived.Test.YteeienmigoebmaaGreatDoorSGB
import Derived.Deep.RegionLaw
namespace Go.Proofs.YteeienmigoebmaaGreatDoor.L18
open Go.RowKit

/-! Layer 18: the program's sets. -/
def iv (l : List Int) : List Value := l.map (Value.int .i64)
theorem iv_append (a b : List Int) : iv (a ++ b) = iv a ++ iv b := by simp [iv]
theorem iv_length (a : List Int) : (iv a).length = a.length := by simp [iv]
theorem iv_one (a : List Int) : ∀ u ∈ iv a, u.oneCell' = true := by
  intro u hu
  simp only [iv, List.mem_map] at hu
  obtain ⟨c, _, rfl⟩ := hu
  rfl
/-- Numbers in memory. -/
def SlI (w : World) (B : Nat) (A : Option Addr) (c : Nat) (l : List Int) : Prop := l.length ≤ c ∧ c ≤ maxLen ∧ (A = none → c = 0) ∧ Lies w B A (iv l)
theorem sli_up {u W : World} {A : Option Addr} {c : Nat} {l : List Int} (h : Hid (SlI u u.heap.size A c l)) (hW : Below u.heap.size u W) : Hid (SlI W W.heap.size A c l) :=
  hid ⟨h.out.1, h.out.2.1, h.out.2.2.1, (h.out.2.2.2.below hW).more hW.size⟩
theorem sli_nil (u : World) : Hid (SlI u u.heap.size none 0 []) := hid ⟨Nat.le_refl _, Nat.zero_le _, fun _ => rfl, Lies.nil_⟩
theorem sli_lit (W : World) (l : List Int) (n g : Nat) (cs : Array Value) (hc : (iv l).toArray = cs) (hn : l.length = n) (hm : n ≤ 1000000) (hg : g = W.heap.size) : Hid (SlI (W.alloc (.cells cs 3)) (W.alloc (.cells cs 3)).heap.size (some ⟨g, 0, none⟩) n l) := by
  subst hc; subst hn; subst hg
  refine hid ⟨Nat.le_refl _, by unfold maxLen; omega, by simp, ?_⟩
  have := lies_lit W (iv l).toArray 3
  rw [World.size_alloc]
  simpa using this
theorem sli_cell {w : World} {B n c : Nat} {A : Option Addr} {l : List Int} (h : SlI w B A c l) {j : Nat} (hn : l.length = n) (hj : j < n) : ∃ b o y, A = some ⟨b, o, none⟩ ∧ l[j]? = some y ∧ l.drop j = y :: l.drop (j + 1) ∧ w.cell? ⟨b, o + j, none⟩ = some (.int .i64 y) := by
  subst hn
  obtain ⟨b, o, rfl, hb, hc⟩ := h.2.2.2 (by
    intro e
    have : l = [] := by simpa [iv] using e
    subst this; simp at hj)
  exact ⟨b, o, l[j], rfl, by simp [hj], List.drop_eq_getElem_cons hj, hc j _ (by simp [iv, hj])⟩
theorem info_parts {P : Program} {t : TypeId} {z : Value} {s b : Nat} (h : (P.info? t).map (fun i => (i.zero, i.size, i.bytes)) = some (some z, s, b)) : ∃ i, P.info? t = some i ∧ i.zero = some z ∧ i.size = s ∧ i.bytes = b := by
  cases hq : P.info? t with
  | none => simp [hq] at h
  | some i =>
    simp [hq] at h
    exact ⟨i, rfl, h.1, h.2.1, h.2.2⟩
theorem Tryz.info3i : (Tryz.prog.info? 3).map (fun i => (i.zero, i.size, i.bytes)) = some (some (.int .i64 0), 1, 8) := by kernel_rfl
theorem own_caps {w : World} {base : Nat} {e : TypeId} {size n c : Nat} {A : Option Addr} {xs : List Value} (h : w.ownsRow base e size (.slice A n c) n xs) : n ≤ c ∧ c ≤ maxLen := by
  rcases h.2 with ⟨hv, h0⟩ | ⟨g, cap, cur, hv, _, _, h1, h2, _⟩
  · injection hv with _ _ hc
    subst hc; subst h0
    exact ⟨Nat.le_refl _, Nat.zero_le _⟩
  · injection hv with _ _ hc
    subst hc
    exact ⟨h1, h2⟩
theorem own_sli {w : World} {base n c : Nat} {A : Option Addr} {l : List Int} (h : w.ownsRow base 3 1 (.slice A n c) n (iv l)) (hn : l.length = n) : Hid (SlI w w.heap.size A c l) := by
  subst hn
  have hc := own_caps h
  refine hid ⟨hc.1, hc.2, ?_, Lies.own h⟩
  rintro rfl
  rcases h.2 with ⟨hv, _⟩ | ⟨g, cap, cur, hv, _⟩
  · injection hv
  · injection hv with hv
    cases hv
/-- append of numbers to a row of the call's own. -/
theorem app_int {ops : Array Oper} {rest : List Oper} {o : Oper} {a : Act} {Q : Exit → Act → World → Prop} (w : World) (hgd : o.guard = none) (s x : Operand) (ho : o.op = .call { callee := .builtin .append, args := #[s, x], argTypes := #[122, 122] })
    (base n c : Nat) (A : Option Addr) (xs : List Int) (hs : a.eval s = .slice A n c) (hown : Hid (w.ownsRow base 3 1 (.slice A n c) n (iv xs))) (hb : base ≤ w.heap.size) (A2 : Option Addr) (m c2 : Nat) (ys : List Int)
    (hx : a.eval x = .slice A2 m c2) (hS : Hid (SlI w w.heap.size A2 c2 ys)) (hy : ys.length = m) (hm : n + m ≤ 1000000)
    (h : ∀ A' c' w', Hid (w'.ownsRow base 3 1 (.slice A' (n + m) c') (n + m) (iv (xs ++ ys))) → Hid (Below base w w') → wpList Tryz.prog ops Q rest (a.put o.dst (.slice A' (n + m) c')) w') : wpList Tryz.prog ops Q (o :: rest) a w := by
  subst hy
  obtain ⟨i3, hi3, hz3, hz31, hz32⟩ := info_parts Tryz.info3i
  refine wpList_app _ hgd s x 122 ho base 3 i3 _ 1 8 Tryz.underlying122 hi3 hz3 hz31 hz32 rfl (by decide) A n c (iv xs) hs hown.out w.heap.size A2 ys.length c2 (iv ys) hx (by rw [iv_length, Nat.mul_one]) hS.out.2.2.2 (iv_one _) (by unfold maxLen; omega) (by omega) hb ?_
  intro A3 c3 u2 ho2 hg2
  rw [← iv_append] at ho2
  have hk : Kept base [3] w u2 := (Kept.refl base [3] w).grown hg2 (fun k hk => by obtain ⟨a, cs, b⟩ := own_box hown.out k hk; exact ⟨a, 3, cs, by simp, b⟩)
  exact h A3 c3 u2 (hid ho2) (hid (hk.below hb))
theorem own_al {w : World} {base n : Nat} {v : Value} {xs : List Value} (h : Hid (w.ownsRow base 3 1 v n xs)) (o : Obj) : Hid ((w.alloc o).ownsRow base 3 1 v n xs) :=
  hid ((Kept.of_below ((Below.refl _ w).alloc (Nat.le_refl _) o) 0 []).own h.out (by simp))
/-- A call answers numbers. -/
def RetI (u : World) (l : List Int) (e : Ending) (w' : World) : Prop := ∃ A n c, e = .returned (.slice A n c) ∧ Hid (l.length = n) ∧ Hid (SlI w' w'.heap.size A c l) ∧ Hid (Below u.heap.size u w')
/-- What is left of a set's list from a number on. -/
def restS (s k : Nat) : List Int := ((List.range' k (29 - k)).filter fun j => hasS s (iK j)).map iK
theorem restS_zero (s : Nat) : restS s 0 = listS s := by
  rw [← list_range]
  rfl
theorem restS_end (s : Nat) {k : Nat} (h : 29 ≤ k) : restS s k = [] := by
  unfold restS
  rw [show 29 - k = 0 by omega]
  rfl
theorem restS_step (s : Nat) {k : Nat} (h : k < 29) : restS s k = if hasS s (k : Int) = true then (k : Int) :: restS s (k + 1) else restS s (k + 1) := by
  unfold restS
  rw [show 29 - k = (29 - (k + 1)) + 1 by omega, List.range'_succ]
  cases hq : hasS s (k : Int)
  · rw [List.filter_cons_of_neg (by simp [iK, hq])]; rfl
  · rw [List.filter_cons_of_pos (by simp [iK, hq])]; rfl
section
variable {w : World}
end
end Go.Proofs.YteeienmigoebmaaGreatDoor.L18
