import Derived.Test.YtibkbcffoabhfaaKA
import Derived.ArgAppend
namespace Go.Proofs.Ytibkbcffoabhfaa
open Go.RowKit

/-- A slice of bytes as an element: it owns them, its block is one of S. -/
def El (w : World) (S : Nat → Prop) (u : Value) (bs : List UInt8) : Prop :=
  ∃ tA tc, u = .slice tA bs.length tc ∧ w.ownsRow 0 5 1 (.slice tA bs.length tc) bs.length (bv bs) ∧ ∀ x, (Value.slice tA bs.length tc).ownBlock = some x → S x
theorem El.keep {w w' : World} {S : Nat → Prop} {u : Value} {bs : List UInt8} {K : List Nat} (h : El w S u bs) (k : But K w w') (hS : ∀ x, x < w.heap.size → S x → x ∉ K) : El w' S u bs := by
  obtain ⟨tA, tc, rfl, ho, hs⟩ := h
  exact ⟨tA, tc, rfl, k.own ho (fun x hx => hS x (ho.lt x hx).2 (hs x hx)), hs⟩
theorem El.mono {w : World} {S S' : Nat → Prop} {u : Value} {bs : List UInt8} (h : El w S u bs) (hS : ∀ x, x < w.heap.size → S x → S' x) : El w S' u bs := by
  obtain ⟨tA, tc, rfl, ho, hs⟩ := h
  exact ⟨tA, tc, rfl, ho, fun x hx => hS x (ho.lt x hx).2 (hs x hx)⟩
/-- A block of another type than bytes is no element's. -/
theorem El.far {w : World} {S : Nat → Prop} {u : Value} {bs : List UInt8} {K : List Nat} (h : El w S u bs) (hK : ∀ y ∈ K, ∃ t cs, t ≠ 5 ∧ Box w y t cs) : El w (fun x => S x ∧ x ∉ K) u bs := by
  obtain ⟨tA, tc, rfl, ho, hs⟩ := h
  refine ⟨tA, tc, rfl, ho, fun x hx => ⟨hs x hx, fun hm => ?_⟩⟩
  obtain ⟨t, cs, ht, hb⟩ := hK x hm
  exact own_ne ho hb (Ne.symm ht) hx

/-- A window on a row of slices of bytes: what stands in it. -/
structure Wn (w : World) (S : Nat → Prop) (A : Option Addr) (n c : Nat) (rb : Option Nat) (L : List (List UInt8)) : Prop where
  len : L.length = n
  le : n ≤ c
  max : c ≤ maxLen
  row : (A = none ∧ c = 0 ∧ rb = none) ∨ ∃ r f cur, A = some ⟨r, f, none⟩ ∧ rb = some r ∧ Box w r 34 cur ∧ f + c ≤ cur.size ∧ ∀ j (h : j < L.length), ∃ u, cur[f + j]? = some u ∧ El w S u L[j]
section
variable {w w' : World} {S S' : Nat → Prop} {A : Option Addr} {n c : Nat} {rb : Option Nat} {L : List (List UInt8)} {K : List Nat}
theorem Wn.keep (h : Wn w S A n c rb L) (k : But K w w') (hr : ∀ x, rb = some x → x ∉ K) (hS : ∀ x, x < w.heap.size → S x → x ∉ K) : Wn w' S A n c rb L := by
  refine ⟨h.len, h.le, h.max, ?_⟩
  rcases h.row with h1 | ⟨r, f, cur, e1, e2, hb, hs, he⟩
  · exact .inl h1
  · refine .inr ⟨r, f, cur, e1, e2, k.box hb (hr r e2), hs, fun j hj => ?_⟩
    obtain ⟨u, hu, hel⟩ := he j hj
    exact ⟨u, hu, hel.keep k hS⟩
theorem Wn.mono (h : Wn w S A n c rb L) (hS : ∀ x, x < w.heap.size → S x → S' x) : Wn w S' A n c rb L := by
  refine ⟨h.len, h.le, h.max, ?_⟩
  rcases h.row with h1 | ⟨r, f, cur, e1, e2, hb, hs, he⟩
  · exact .inl h1
  · refine .inr ⟨r, f, cur, e1, e2, hb, hs, fun j hj => ?_⟩
    obtain ⟨u, hu, hel⟩ := he j hj
    exact ⟨u, hu, hel.mono hS⟩
theorem Wn.far (h : Wn w S A n c rb L) (hK : ∀ y ∈ K, ∃ t cs, t ≠ 5 ∧ Box w y t cs) : Wn w (fun x => S x ∧ x ∉ K) A n c rb L := by
  refine ⟨h.len, h.le, h.max, ?_⟩
  rcases h.row with h1 | ⟨r, f, cur, e1, e2, hb, hs, he⟩
  · exact .inl h1
  · refine .inr ⟨r, f, cur, e1, e2, hb, hs, fun j hj => ?_⟩
    obtain ⟨u, hu, hel⟩ := he j hj
    exact ⟨u, hu, hel.far hK⟩
theorem Wn.box (h : Wn w S A n c rb L) : ∀ x, rb = some x → ∃ cs, Box w x 34 cs := fun x hx => by
  rcases h.row with ⟨_, _, e⟩ | ⟨r, f, cur, _, e2, hb, _⟩
  · rw [e] at hx; cases hx
  · rw [e2] at hx
    injection hx with hx
    subst hx
    exact ⟨cur, hb⟩
theorem Wn.lt (h : Wn w S A n c rb L) : ∀ x, rb = some x → x < w.heap.size := fun x hx => by
  obtain ⟨cs, hb⟩ := h.box x hx
  exact hb.lt
theorem Wn.nil (w : World) (S : Nat → Prop) : Wn w S none 0 0 none [] := ⟨rfl, Nat.le_refl _, Nat.zero_le _, .inl ⟨rfl, rfl, rfl⟩⟩
/-- Without its first. -/
theorem Wn.tail {a : Addr} {b : List UInt8} (h : Wn w S (some a) (n + 1) c rb (b :: L)) : Wn w S (some (if c = 1 then a else a.add 1)) n (c - 1) rb L := by
  have h1 := h.len
  have h2 := h.le
  have h3 := h.max
  refine ⟨by simpa using h1, by omega, by omega, ?_⟩
  rcases h.row with ⟨e, _⟩ | ⟨r, f, cur, e1, e2, hb, hs, he⟩
  · cases e
  · injection e1 with e1
    subst e1
    by_cases hc : c = 1
    · rw [if_pos hc]
      have hL : L = [] := by
        apply List.eq_nil_of_length_eq_zero
        simp at h1
        omega
      subst hL
      exact .inr ⟨r, f, cur, rfl, e2, hb, by omega, fun j hj => absurd hj (by simp)⟩
    · rw [if_neg hc, Addr.add_lit]
      refine .inr ⟨r, f + 1, cur, rfl, e2, hb, by omega, fun j hj => ?_⟩
      obtain ⟨u, hu, hel⟩ := he (j + 1) (by simpa using hj)
      exact ⟨u, by rw [show f + 1 + j = f + (j + 1) by omega]; exact hu, by simpa using hel⟩
end

theorem Try.info34 : (Try.prog.info? 34).map (fun i => (i.zero, i.size, i.bytes)) = some (some (.slice none 0 0), 1, 24) := by kernel_rfl

/-- append of one slice of bytes to a window. -/
theorem Wn.app {w : World} {S : Nat → Prop} {A : Option Addr} {n c : Nat} {rb : Option Nat} {L : List (List UInt8)} (h : Wn w S A n c rb L) (a : Addr) (c2 : Nat) (u : Value) (bs : List UInt8) (ty : TypeId)
    (hc : w.cell? a = some u) (hu : El w S u bs) (hn : n + 1 ≤ 1000000) :
    ∃ A' c' w', (Builtin.append_ #[43, 43] ty #[.slice A n c, .slice (some a) 1 c2]).run Try.prog w = .ok (.slice A' (n + 1) c') w' ∧ (∃ rb', Wn w' S A' (n + 1) c' rb' (L ++ [bs]) ∧ ∀ x, rb' = some x → rb = some x ∨ w.heap.size ≤ x) ∧ But rb.toList w w' := by
  obtain ⟨i0, hi0, hz0, hz1, hz2⟩ := info_parts Try.info34
  have h1 := h.len
  have h2 := h.le
  have h3 := h.max
  have hone : ∀ x ∈ [u], x.oneCell' = true := by
    obtain ⟨tA, tc, rfl, _⟩ := hu
    intro x hx
    simp at hx
    subst hx
    rfl
  have hn1 : ∀ j v, [u][j]? = some v → w.cell? (a.add j) = some v := fun j v hv => by
    cases j with
    | zero => simp at hv; subst hv; simpa [Addr.add] using hc
    | succ j => simp at hv
  have hl : [u].length = 1 * i0.size := by simp [hz1]
  rcases h.row with ⟨rfl, rfl, rfl⟩ | ⟨r, f, cur, rfl, rfl, hb, hs, he⟩
  · have hn0 : n = 0 := by omega
    subst hn0
    have hL : L = [] := List.eq_nil_of_length_eq_zero h1
    subst hL
    have hr := run_append_nil (P := Try.prog) w 43 ty 34 i0 _ Try.underlying43 hi0 hz0 a 1 c2 [u] hl hn1 (by omega) (by omega) (by rw [hz2]; omega)
    have hge := grownCap_ge w 1 0 34
    have hcm : grownCap w 1 0 34 ≤ maxLen := grownCap_le_maxLen w 1 0 34 (by unfold maxLen; omega)
    refine ⟨_, _, _, hr, ⟨some w.heap.size, ⟨rfl, hge, hcm, .inr ⟨w.heap.size, 0, _, rfl, rfl, heap_alloc_new w.drew _, ?_, fun j hj => ?_⟩⟩, fun x hx => .inr (by injection hx with hx; omega)⟩, ((But.refl _ w).drew).alloc _⟩
    · simp only [Array.size_append, List.size_toArray, size_zeroCells, Value.cells]
      simp
      omega
    · have hj0 : j = 0 := by simp at hj; omega
      subst hj0
      exact ⟨u, by rw [Nat.zero_add, Array.getElem?_append_left (by simp)]; rfl, hu.keep (((But.refl [] w).drew).alloc _) (by simp)⟩
  · by_cases hroom : n + 1 ≤ c
    · have hcell : f + n < cur.size := by omega
      have hr := run_append_room_cells (P := Try.prog) w 43 ty 34 i0 Try.underlying43 hi0 r f n c a 1 c2 [u] hl hn1 hone hroom
        (fun j hj => by
          have hj0 : j = 0 := by simpa using hj
          subst hj0
          rw [hz1, hb.cell]
          simp [hcell])
        (fun j hj => hb.frozen _)
      rw [hz1] at hr
      simp only [Nat.mul_one, World.setCells] at hr
      have hk : But [r] w (w.setCell ⟨r, f + n, none⟩ u) := (But.refl [r] w).store (.inl (by simp)) _
      refine ⟨_, _, _, hr, ⟨some r, ⟨by simp [h1], hroom, h3, .inr ⟨r, f, _, rfl, rfl, hb.store (f + n) u, by simpa using hs, fun j hj => ?_⟩⟩, fun x hx => .inl hx⟩, hk⟩
      have hfar : ∀ {v : Value} {b : List UInt8}, El w S v b → El (w.setCell ⟨r, f + n, none⟩ u) S v b := fun hel =>
        ((hel.far (K := [r]) (fun y hy => ⟨34, cur, by decide, by simp at hy; subst hy; exact hb⟩)).keep hk (fun x _ hx => hx.2)).mono (fun x _ hx => hx.1)
      by_cases hjl : j < L.length
      · obtain ⟨v, hv, hel⟩ := he j hjl
        refine ⟨v, ?_, ?_⟩
        · rw [Array.getElem?_setIfInBounds, if_neg (by omega)]
          exact hv
        · rw [List.getElem_append_left hjl]
          exact hfar hel
      · have hjn : j = n := by simp at hj; omega
        subst hjn
        refine ⟨u, by simp [hcell], ?_⟩
        rw [List.getElem_append_right (by omega)]
        simp only [h1, Nat.sub_self, List.getElem_cons_zero]
        exact hfar hu
    · have holds0 : ((cur.toList.drop f).take n).length = n := by
        rw [List.length_take, List.length_drop, Array.length_toList]
        omega
      have hr := run_append_grow (P := Try.prog) w 43 ty 34 i0 _ Try.underlying43 hi0 hz0 ⟨r, f, none⟩ n c ((cur.toList.drop f).take n) (by rw [holds0, hz1]; omega)
        (fun j v hv => by
          rw [Addr.add_lit, hb.cell]
          rw [List.getElem?_take] at hv
          split at hv
          · rw [List.getElem?_drop] at hv
            simpa using hv
          · cases hv) a 1 c2 [u] hl hn1 (by omega) (by omega) (growslice_fits (by omega) (by rw [hz2]; omega))
      have hge := grownCap_ge w (n + 1) c 34
      have hcm : grownCap w (n + 1) c 34 ≤ maxLen := grownCap_le_maxLen w (n + 1) c 34 (by unfold maxLen; omega)
      refine ⟨_, _, _, hr, ⟨some w.heap.size, ⟨by simp [h1], hge, hcm, .inr ⟨w.heap.size, 0, _, rfl, rfl, heap_alloc_new w.drew _, ?_, fun j hj => ?_⟩⟩, fun x hx => .inr (by injection hx with hx; omega)⟩, ((But.refl _ w).drew).alloc _⟩
      · simp only [Array.size_append, List.size_toArray, size_zeroCells, Value.cells, holds0]
        simp
        omega
      · have hk := ((But.refl [] w).drew).alloc (.cells (((cur.toList.drop f).take n).toArray ++ [u].toArray ++ Builtin.zeroCells (Value.slice none 0 0).cells (grownCap w (n + 1) c 34 - (n + 1))) 34)
        by_cases hjl : j < L.length
        · obtain ⟨v, hv, hel⟩ := he j hjl
          refine ⟨v, ?_, ?_⟩
          · rw [Nat.zero_add, ← hv, Array.append_assoc, Array.getElem?_append_left (by simp; omega)]
            have hjn : j < n := by omega
            simp [List.getElem?_take, List.getElem?_drop, hjn]
          · rw [List.getElem_append_left hjl]
            exact hel.keep hk (by simp)
        · have hjn : j = n := by simp at hj; omega
          subst hjn
          refine ⟨u, ?_, ?_⟩
          · rw [Nat.zero_add, Array.append_assoc, Array.getElem?_append_right (by simp; omega)]
            have e0 : j - ((cur.toList.drop f).take j).toArray.size = 0 := by
              have e1 : ((cur.toList.drop f).take j).toArray.size = j := holds0
              rw [e1, Nat.sub_self]
            rw [e0, Array.getElem?_append_left (by simp)]
            rfl
          · rw [List.getElem_append_right (by omega)]
            simp only [h1, Nat.sub_self, List.getElem_cons_zero]
            exact hu.keep hk (by simp)

end Go.Proofs.Ytibkbcffoabhfaa
