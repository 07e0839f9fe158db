import Derived.Test.YtjncahcigbdbgabLNA
namespace Go.Proofs.Ytjncahcigbdbgab
open Go.RowKit

/-! Layer 13: CanonIs, what its loops stand on: bytes that may turn. -/
theorem NewB.up {w w' : World} {base : Nat} {A : Option Addr} {bs : List UInt8} (h : NewB w base A bs) (hb : Below w.heap.size w w') : NewB w' base A bs := fun hn => by
  obtain ⟨g, o, cs, h1, h2, h3⟩ := h hn
  exact ⟨g, o, cs, h1, h2, box_below h3 hb⟩
theorem NewB.mono {w : World} {base b2 : Nat} {A : Option Addr} {bs : List UInt8} (h : NewB w base A bs) (hb : b2 ≤ base) : NewB w b2 A bs := fun hn => by
  obtain ⟨g, o, cs, h1, h2, h3⟩ := h hn
  exact ⟨g, o, cs, h1, by omega, h3⟩
theorem LnF.up {w w' : World} {base c : Nat} {A : Option Addr} {qs : List Rc} (h : Hid (LnF w base A c qs)) (hb : Below w.heap.size w w') : Hid (LnF w' base A c qs) :=
  hid ⟨(ln_up (hid h.out.ln) hb).out, fun hn => by
    obtain ⟨g, o, cs, h1, h2, h3⟩ := h.out.row hn
    exact ⟨g, o, cs, h1, h2, box_below h3 hb⟩, fun r hr => (h.out.text r hr).up hb⟩
theorem LnF.mono {w : World} {base b2 c : Nat} {A : Option Addr} {qs : List Rc} (h : Hid (LnF w base A c qs)) (hb : b2 ≤ base) : Hid (LnF w b2 A c qs) :=
  hid ⟨h.out.ln, fun hn => by
    obtain ⟨g, o, cs, h1, h2, h3⟩ := h.out.row hn
    exact ⟨g, o, cs, h1, by omega, h3⟩, fun r hr => (h.out.text r hr).mono hb⟩
/-- Bytes, whatever they are, in a block from M on. -/
def Byt (w : World) (M : Nat) (A : Option Addr) (n : Nat) : Prop := 0 < n → ∃ g o, A = some ⟨g, o, none⟩ ∧ M ≤ g ∧ (∃ cs, Box w g 5 cs) ∧ ∀ j, j < n → ∃ v : UInt8, w.cell? ⟨g, o + j, none⟩ = some (.int .u8 (v.toNat : Int))
theorem byt_of {w : World} {M n c : Nat} {A : Option Addr} {bs : List UInt8} (h : NewB w M A bs) (hs : SlB w w.heap.size A c bs) (hn : bs.length = n) : Byt w M A n := fun h0 => by
  have hne : bs ≠ [] := by intro e; rw [e] at hn; simp at hn; omega
  obtain ⟨g, o, cs, rfl, h2, h3⟩ := h hne
  refine ⟨g, o, rfl, h2, ⟨cs, h3⟩, fun j hj => ?_⟩
  obtain ⟨b, o2, y, e, _, hc⟩ := slb_cell hs hn hj
  cases e
  exact ⟨y, hc⟩
theorem Byt.up {w w' : World} {M n : Nat} {A : Option Addr} (h : Byt w M A n) (hb : Below w.heap.size w w') : Byt w' M A n := fun h0 => by
  obtain ⟨g, o, h1, h2, ⟨cs, h3⟩, h4⟩ := h h0
  refine ⟨g, o, h1, h2, ⟨cs, box_below h3 hb⟩, fun j hj => ?_⟩
  obtain ⟨v, hv⟩ := h4 j hj
  exact ⟨v, (hb.cell (p := ⟨g, o + j, none⟩) h3.lt).trans hv⟩
theorem Byt.store {w : World} {M n g i : Nat} {A : Option Addr} {cs : Array Value} (h : Byt w M A n) (hx : Box w g 5 cs) (hi : i < cs.size) (v : UInt8) : Byt (w.setCell ⟨g, i, none⟩ (.int .u8 (v.toNat : Int))) M A n := fun h0 => by
  obtain ⟨b, o, h1, h2, ⟨cb, h3⟩, h4⟩ := h h0
  by_cases e : b = g
  · subst e
    refine ⟨b, o, h1, h2, ⟨_, hx.store i _⟩, fun j hj => ?_⟩
    rw [(hx.store i _).cell]
    obtain ⟨u, hu⟩ := h4 j hj
    by_cases ej : o + j = i
    · subst ej
      exact ⟨v, by simp [hi]⟩
    · refine ⟨u, ?_⟩
      rw [Array.getElem?_setIfInBounds_ne (by omega), ← hx.cell]
      exact hu
  · have hs : (w.setCell ⟨g, i, none⟩ (.int .u8 (v.toNat : Int))).heap[b]? = w.heap[b]? := heap_setCell_other w ⟨g, i, none⟩ b _ e
    refine ⟨b, o, h1, h2, ⟨cb, h3.same hs⟩, fun j hj => ?_⟩
    rw [(h3.same hs).cell, ← h3.cell]
    exact h4 j hj
theorem Byt.drew {w : World} {M n : Nat} {A : Option Addr} (h : Byt w M A n) : Byt w.drew M A n := h
/-- All that may turn still holds bytes. -/
structure BA (w : World) (M : Nat) (qp qr : List Rc) (Ab : Option Addr) (nb : Nat) : Prop where
  p : ∀ r ∈ qp, Byt w M r.A r.bs.length
  r : ∀ r ∈ qr, Byt w M r.A r.bs.length
  b : Byt w M Ab nb
theorem BA.up {w w' : World} {M nb : Nat} {qp qr : List Rc} {Ab : Option Addr} (h : BA w M qp qr Ab nb) (hb : Below w.heap.size w w') : BA w' M qp qr Ab nb := ⟨fun r hr => (h.p r hr).up hb, fun r hr => (h.r r hr).up hb, h.b.up hb⟩
theorem BA.store {w : World} {M nb g i : Nat} {qp qr : List Rc} {Ab : Option Addr} {cs : Array Value} (h : BA w M qp qr Ab nb) (hx : Box w g 5 cs) (hi : i < cs.size) (v : UInt8) : BA (w.setCell ⟨g, i, none⟩ (.int .u8 (v.toNat : Int))) M qp qr Ab nb :=
  ⟨fun r hr => (h.p r hr).store hx hi v, fun r hr => (h.r r hr).store hx hi v, h.b.store hx hi v⟩
theorem BA.drew {w : World} {M nb : Nat} {qp qr : List Rc} {Ab : Option Addr} (h : BA w M qp qr Ab nb) : BA w.drew M qp qr Ab nb := ⟨h.p, h.r, h.b⟩
theorem each_byt {w : World} {M c : Nat} {A : Option Addr} {qs : List Rc} (h : Hid (LnF w M A c qs)) : ∀ r ∈ qs, Byt w M r.A r.bs.length := fun r hr => byt_of (h.out.text r hr) (h.out.ln.text r hr) rfl
/-- The rows of records stand as they were. -/
theorem row_at {u w : World} {M c n k : Nat} {A : Option Addr} {qs : List Rc} (h : Hid (LnF u M A c qs)) (hn : qs.length = n) (hk : k < n) (K : Hid (Kept M [5] u w)) :
    ∃ b o r, A = some ⟨b, o, none⟩ ∧ r ∈ qs ∧ w.cell? ⟨b, o + k * 2, none⟩ = some (.slice r.A r.bs.length r.c) ∧ w.cell? ⟨b, o + k * 2 + 1, none⟩ = some (.bool r.e) := by
  subst hn
  obtain ⟨b, o, r, rfl, h1, h2, h3, _⟩ := h.out.ln.at hk
  obtain ⟨g, o2, cs, e, _, hb⟩ := h.out.row (by intro e; rw [e] at hk; simp at hk)
  cases e
  have hb2 := K.out.box hb (by decide)
  refine ⟨b, o, r, rfl, List.mem_of_getElem? h1, ?_, ?_⟩
  · rw [hb2.cell, ← hb.cell]; exact h2
  · rw [hb2.cell, ← hb.cell]; exact h3
/-- What may be stored. -/
theorem byt_at {w : World} {M n j : Nat} {A : Option Addr} (h : Byt w M A n) (hj : j < n) : ∃ g o cs v, A = some ⟨g, o, none⟩ ∧ M ≤ g ∧ Box w g 5 cs ∧ o + j < cs.size ∧ w.cell? ⟨g, o + j, none⟩ = some (.int .u8 ((v : UInt8).toNat : Int)) ∧ w.frozen? ⟨g, o + j, none⟩ = false := by
  obtain ⟨g, o, h1, h2, ⟨cs, h3⟩, h4⟩ := h (by omega)
  obtain ⟨v, hv⟩ := h4 j hj
  have hc := hv
  rw [h3.cell] at hc
  exact ⟨g, o, cs, v, h1, h2, h3, (Array.getElem?_eq_some_iff.1 hc).1, hv, h3.frozen _⟩
theorem u8_up (v : UInt8) : ∃ v' : UInt8, IntKind.u8.wrap ((v.toNat : Int) + 1) = (v'.toNat : Int) := by
  refine ⟨v + 1, ?_⟩
  rw [IntKind.wrap_u8, UInt8.toNat_add]
  have : (1 : UInt8).toNat = 1 := rfl
  rw [this]
  omega
theorem kept_sb {M g i : Nat} {u w : World} {cs : Array Value} (K : Hid (Kept M [5] u w)) (hx : Box w g 5 cs) (hg : M ≤ g) (v : Value) : Hid (Kept M [5] u (w.setCell ⟨g, i, none⟩ v)) := hid (K.out.store hx hg (by simp) v)
theorem cell_al {w : World} {g i : Nat} {v : Value} (h : w.cell? ⟨g, i, none⟩ = some v) (o : Obj) : (w.alloc o).cell? ⟨g, i, none⟩ = some v :=
  (((Below.refl w.heap.size w).alloc (Nat.le_refl _) o).cell (p := ⟨g, i, none⟩) (World.block_lt_of_cell? _ _ h)).trans h
theorem box_nw1 {w : World} {o : Obj} {cs : Array Value} {t : TypeId} : Box ((w.alloc o).alloc (.cells cs t)) (w.heap.size + 1) t cs := by
  have := Box.new (w.alloc o) t cs
  rwa [World.size_alloc] at this
theorem box_nw2 {w : World} {o : Obj} {cs : Array Value} {t : TypeId} : Box ((w.alloc o).drew.alloc (.cells cs t)) (w.heap.size + 1) t cs := by
  have := Box.new (w.alloc o).drew t cs
  have e : (w.alloc o).drew.heap.size = w.heap.size + 1 := World.size_alloc ..
  rwa [e] at this
theorem bxl {W u : World} {g : Nat} {t : TypeId} {cs : Array Value} (h : Box W g t cs) (d : Below W.heap.size W u) : Box u g t cs ∧ g < W.heap.size := ⟨box_below h d, h.lt⟩
theorem own_turn {w w' : World} {g base : Nat} {e : TypeId} {size n : Nat} {v : Value} {xs : List Value} (h : w.ownsRow base e size v n xs) (k : ∀ b, b ≠ g → w'.heap[b]? = w.heap[b]?) (hg : g < base) : w'.ownsRow base e size v n xs := by
  refine ⟨h.1, ?_⟩
  rcases h.2 with hn | ⟨g', cap, cur, rfl, hb, hgg, rest⟩
  · exact .inl hn
  · exact .inr ⟨g', cap, cur, rfl, hb, (k g' (by omega)).trans hgg, rest⟩
theorem ln_turn {w w' : World} {g base E n c : Nat} {A : Option Addr} {qs : List Rc} (h : LnN w base E A n c qs) (k : ∀ b, b ≠ g → w'.heap[b]? = w.heap[b]?) (hg : g < base) : LnN w' base E A n c qs :=
  ⟨h.len, own_turn h.row k hg, fun r hr => own_turn (h.text r hr) k hg⟩
theorem st2_other (W : World) (g : Nat) (a b : Value) : ∀ x, x ≠ g → ((W.setCell ⟨g, 0, none⟩ a).setCell ⟨g, 1, none⟩ b).heap[x]? = W.heap[x]? := fun x hx =>
  (heap_setCell_other _ ⟨g, 1, none⟩ x b hx).trans (heap_setCell_other W ⟨g, 0, none⟩ x a hx)
section
variable {u3 u6 u7 : World} {gv base6 base7 n c6 c7 g7 cy : Nat} {A6 Ay : Option Addr} {q6 q7 : List Rc} {xb : List UInt8} {xe : Bool} {ao bo : Value}
theorem fin_text (N7 : Hid (LnN u7 base7 30 (some ⟨g7, 0, none⟩) 1 c7 q7)) (hqy : Hid (q7 = [⟨Ay, cy, xb, xe⟩])) : u7.ownsRow base7 5 1 (.slice Ay xb.length cy) xb.length (bv xb) := by
  have h := hqy.out
  subst h
  exact N7.out.text _ (List.mem_singleton.2 rfl)
theorem finA (N6 : Hid (LnN u6 base6 30 A6 n c6 q6)) (d67 : Below u6.heap.size u6 u7) (N7 : Hid (LnN u7 base7 30 (some ⟨g7, 0, none⟩) 1 c7 q7)) (hqy : Hid (q7 = [⟨Ay, cy, xb, xe⟩])) (b7 : Below u3.heap.size u3 u7) :
    Hid (LnV (u7.alloc (.cells #[.slice Ay xb.length cy, .bool xe] 30)) (u7.alloc (.cells #[.slice Ay xb.length cy, .bool xe] 30)).heap.size A6 c6 q6) ∧ Hid (Box (u7.alloc (.cells #[.slice Ay xb.length cy, .bool xe] 30)) u7.heap.size 30 #[.slice Ay xb.length cy, .bool xe]) ∧
    Hid (SlB (u7.alloc (.cells #[.slice Ay xb.length cy, .bool xe] 30)) (u7.alloc (.cells #[.slice Ay xb.length cy, .bool xe] 30)).heap.size Ay cy xb) ∧ Hid (Below u3.heap.size u3 (u7.alloc (.cells #[.slice Ay xb.length cy, .bool xe] 30))) := by
  have k := (Below.refl _ u7).alloc (Nat.le_refl _) (.cells #[.slice Ay xb.length cy, .bool xe] 30)
  exact ⟨hid ((N6.out.up d67).up k).ln, hid (box_nw rfl), hid (own_slb (_n := 0) (own_keep (fin_text N7 hqy) k)), hid (b7.alloc b7.size _)⟩
theorem finB (v7 : Box u7 gv 30 #[ao, bo] ∧ gv < base7) (h6 : gv < base6) (N6 : Hid (LnN u6 base6 30 A6 n c6 q6)) (d67 : Below u6.heap.size u6 u7) (N7 : Hid (LnN u7 base7 30 (some ⟨g7, 0, none⟩) 1 c7 q7)) (hqy : Hid (q7 = [⟨Ay, cy, xb, xe⟩])) (b7 : Below u3.heap.size u3 u7) (h3 : u3.heap.size ≤ gv) :
    Hid (LnV ((u7.setCell ⟨gv, 0, none⟩ (.slice Ay xb.length cy)).setCell ⟨gv, 1, none⟩ (.bool xe)) ((u7.setCell ⟨gv, 0, none⟩ (.slice Ay xb.length cy)).setCell ⟨gv, 1, none⟩ (.bool xe)).heap.size A6 c6 q6) ∧ Hid (Box ((u7.setCell ⟨gv, 0, none⟩ (.slice Ay xb.length cy)).setCell ⟨gv, 1, none⟩ (.bool xe)) gv 30 #[.slice Ay xb.length cy, .bool xe]) ∧
    Hid (SlB ((u7.setCell ⟨gv, 0, none⟩ (.slice Ay xb.length cy)).setCell ⟨gv, 1, none⟩ (.bool xe)) ((u7.setCell ⟨gv, 0, none⟩ (.slice Ay xb.length cy)).setCell ⟨gv, 1, none⟩ (.bool xe)).heap.size Ay cy xb) ∧ Hid (Below u3.heap.size u3 ((u7.setCell ⟨gv, 0, none⟩ (.slice Ay xb.length cy)).setCell ⟨gv, 1, none⟩ (.bool xe))) := by
  have k := st2_other u7 gv (.slice Ay xb.length cy) (.bool xe)
  have hb := (v7.1.store 0 (.slice Ay xb.length cy)).store 1 (.bool xe)
  refine ⟨hid (ln_turn (N6.out.up d67) k h6).ln, hid (by simpa using hb), hid (own_slb (_n := 0) (own_turn (fin_text N7 hqy) k v7.2)), hid (b7.trans ⟨rfl, rfl, rfl, by simp [World.setCell], fun b hb => k b (by omega)⟩)⟩
theorem finC (v7 : Box u7 gv 30 #[ao, bo] ∧ gv < base7) (h6 : u6.heap.size ≤ gv) (N6 : Hid (LnN u6 base6 30 A6 n c6 q6)) (d67 : Below u6.heap.size u6 u7) (N7 : Hid (LnN u7 base7 30 (some ⟨g7, 0, none⟩) 1 c7 q7)) (hqy : Hid (q7 = [⟨Ay, cy, xb, xe⟩])) (b7 : Below u3.heap.size u3 u7) (h3 : u3.heap.size ≤ u6.heap.size) :
    Hid (LnV ((u7.setCell ⟨gv, 0, none⟩ (.slice Ay xb.length cy)).setCell ⟨gv, 1, none⟩ (.bool xe)) ((u7.setCell ⟨gv, 0, none⟩ (.slice Ay xb.length cy)).setCell ⟨gv, 1, none⟩ (.bool xe)).heap.size A6 c6 q6) ∧ Hid (Box ((u7.setCell ⟨gv, 0, none⟩ (.slice Ay xb.length cy)).setCell ⟨gv, 1, none⟩ (.bool xe)) gv 30 #[.slice Ay xb.length cy, .bool xe]) ∧
    Hid (SlB ((u7.setCell ⟨gv, 0, none⟩ (.slice Ay xb.length cy)).setCell ⟨gv, 1, none⟩ (.bool xe)) ((u7.setCell ⟨gv, 0, none⟩ (.slice Ay xb.length cy)).setCell ⟨gv, 1, none⟩ (.bool xe)).heap.size Ay cy xb) ∧ Hid (Below u3.heap.size u3 ((u7.setCell ⟨gv, 0, none⟩ (.slice Ay xb.length cy)).setCell ⟨gv, 1, none⟩ (.bool xe))) := by
  have k := st2_other u7 gv (.slice Ay xb.length cy) (.bool xe)
  have hb := (v7.1.store 0 (.slice Ay xb.length cy)).store 1 (.bool xe)
  have k6 : Below u6.heap.size u6 ((u7.setCell ⟨gv, 0, none⟩ (.slice Ay xb.length cy)).setCell ⟨gv, 1, none⟩ (.bool xe)) := d67.trans ⟨rfl, rfl, rfl, by simp [World.setCell], fun b hb => k b (by omega)⟩
  refine ⟨ln_up (hid N6.out.ln) k6, hid (by simpa using hb), hid (own_slb (_n := 0) (own_turn (fin_text N7 hqy) k v7.2)), hid (b7.trans ⟨rfl, rfl, rfl, by simp [World.setCell], fun b hb => k b (by omega)⟩)⟩
end
/-- How long all lines are. -/
theorem flat_small (ls : List (List UInt8 × Bool)) (h : minL ls < 10000) : (flatL ls).length = minL ls := by
  induction ls with
  | nil => rfl
  | cons x r ih =>
    rw [minL_cons] at h ⊢
    have e : flatL (x :: r) = x.1 ++ flatL r := by simp [flatL]
    rw [e, List.length_append, ih (by omega)]
    omega
theorem flat_le {K : Nat} (hK : 10000 ≤ K) (ls : List (List UInt8 × Bool)) (h : minL ls ≤ 10000) (hb : ∀ y ∈ ls, y.1.length ≤ K) : (flatL ls).length ≤ K := by
  induction ls with
  | nil => exact Nat.zero_le _
  | cons x r ih =>
    rw [minL_cons] at h
    have e : flatL (x :: r) = x.1 ++ flatL r := by simp [flatL]
    rw [e, List.length_append]
    have h1 := hb x (List.mem_cons_self ..)
    by_cases h0 : x.1.length = 0
    · have := ih (by omega) (fun y hy => hb y (List.mem_cons_of_mem _ hy))
      omega
    · have := flat_small r (by omega)
      omega
theorem minL_take (ls : List (List UInt8 × Bool)) (k : Nat) : minL (ls.take k) ≤ minL ls := by
  induction ls generalizing k with
  | nil => simp [minL]
  | cons x r ih =>
    cases k with
    | zero => simp [minL]
    | succ k =>
      rw [List.take_succ_cons, minL_cons, minL_cons]
      have := ih k
      omega
theorem flat_each {K : Nat} (hK : 10000 ≤ K) (qs : List Rc) {L : List (List UInt8 × Bool)} (hq : lnR qs = L) (h : minL L ≤ 10000) (hb : ∀ y ∈ L, y.1.length ≤ K) : ∀ k, (flatL (lnR (qs.take k))).length ≤ K := fun k => by
  have e : lnR (qs.take k) = L.take k := by rw [← hq]; simp [lnR]
  rw [e]
  exact flat_le hK _ (Nat.le_trans (minL_take L k) h) (fun y hy => hb y (List.mem_of_mem_take hy))
theorem Try.size28 : (Try.prog.info? 28).map (·.size) = some 1 := by kernel_rfl
theorem index_two (v0 v1 : Value) (j : Nat) (v : Value) (hj : j < 2) (hv : (#[v0, v1] : Array Value)[j]? = some v) : ∀ W : World, (Instr.index 49 (.agg #[v0, v1]) (.int .i64 (j : Int))).run Try.prog W = .ok v W := fun W => by
  have hsz : (sizeOf 28).run Try.prog W = .ok 1 W := by
    have hi := Try.size28
    cases hq : Try.prog.info? 28 with
    | none => simp [hq] at hi
    | some i0 => simp [sizeOf, typeInfo, hq] at hi ⊢; exact hi
  have hagg : (isAgg 28).run Try.prog W = .ok false W := by
    unfold isAgg
    rw [Sem.run_bind, run_underlying Try.underlying28 W]
    rfl
  have hp : (part 28 #[v0, v1] j).run Try.prog W = .ok v W := by simp [part, Sem.run_bind, hagg, hv]
  have h2 : (j : Int) < 2 := by omega
  simp [Instr.index, asIntOf, run_underlying Try.underlying49, hsz, hp]
  intro h
  omega
/-- One of the two rows whose lines are turned. -/
theorem two_rows {u : World} {M np cp nr cr nb : Nat} {Ap Ar Ab : Option Addr} {qp qr : List Rc} (Fp : Hid (LnF u M Ap cp qp)) (Fr : Hid (LnF u M Ar cr qr)) (hnp : Hid (qp.length = np)) (hnr : Hid (qr.length = nr)) (hpb : np ≤ 1000) (hrb : nr ≤ 1000) (j : Nat) (hj : j < 2) :
    ∃ As ns cs qs, (∀ W : World, (Instr.index 49 (.agg #[.slice Ap np cp, .slice Ar nr cr]) (.int .i64 (j : Int))).run Try.prog W = .ok (.slice As ns cs) W) ∧ Hid (LnF u M As cs qs) ∧ Hid (qs.length = ns) ∧ ns ≤ 1000 ∧ Hid (∀ w, BA w M qp qr Ab nb → ∀ r ∈ qs, Byt w M r.A r.bs.length) := by
  rcases (by omega : j = 0 ∨ j = 1) with rfl | rfl
  · exact ⟨Ap, np, cp, qp, index_two _ _ 0 _ (by omega) rfl, Fp, hnp, hpb, hid (fun w h => h.p)⟩
  · exact ⟨Ar, nr, cr, qr, index_two _ _ 1 _ (by omega) rfl, Fr, hnr, hrb, hid (fun w h => h.r)⟩
/-- What a read gives is no more than there was. -/
theorem read_len (ls : List (List UInt8 × Bool)) (k : Int) : (readL ls k).2.1.length ≤ ls.length := by
  unfold readL
  split
  · exact Nat.zero_le _
  · split
    · exact Nat.le_refl _
    · split
      · simp
      · simp
theorem read_each {K : Nat} (ls : List (List UInt8 × Bool)) (k : Int) (h : ∀ y ∈ ls, y.1.length ≤ K) : (readL ls k).1.length ≤ K := by
  unfold readL
  split
  · exact Nat.zero_le _
  · rename_i x r
    have h1 := h x (List.mem_cons_self ..)
    split
    · exact Nat.zero_le _
    · split
      · exact h1
      · simp only [List.length_take]; omega
theorem put_len (ls : List (List UInt8 × Bool)) (x : List UInt8 × Bool) : (putL ls x).1.length ≤ ls.length + 1 := by
  unfold putL
  split
  · simp
  · simp
theorem put_f (w : World) (A : Option Addr) (n c : Nat) (rs : List Rc) (xA : Option Addr) (xc : Nat) (xb : List UInt8) (xe : Bool) (hl : Hid (LnV w w.heap.size A c rs)) (hx : Hid (SlB w w.heap.size xA xc xb)) (hn : Hid (rs.length = n)) (hm : n ≤ 900) (ht : Hid (∀ r ∈ rs, r.bs.length ≤ 140737488351232)) (hxt : Hid (xb.length ≤ 140737488351232))
    {L : List (List UInt8 × Bool)} {b : Bool} (hp : Hid (putL (lnR rs) (xb, xe) = (L, b))) :
    Calls Try.prog 10 #[.slice A n c, .agg #[.slice xA xb.length xc, .bool xe]] w fun e w' => ∃ A2 n2 c2 qs, e = .returned (.tuple #[.slice A2 n2 c2, .bool b]) ∧ Hid (lnR qs = L) ∧ Hid (qs.length = n2) ∧ Hid (LnF w' w.heap.size A2 c2 qs) ∧ Hid (Below w.heap.size w w') := by
  have h := putp_any w A n c rs ⟨xA, xc, xb, xe⟩ hl hx hn.out hm ht hxt
  rw [show (Rc.ln ⟨xA, xc, xb, xe⟩) = (xb, xe) from rfl, hp.out] at h
  exact h
theorem putr_grow (u W : World) (hW : Below u.heap.size u W) (A : Option Addr) (n c : Nat) (rs : List Rc) (xA : Option Addr) (xc : Nat) (xb : List UInt8) (xe : Bool) (hl : Hid (LnV W W.heap.size A c rs)) (hx : Hid (SlB u u.heap.size xA xc xb)) (hn : Hid (rs.length = n)) (hm : n ≤ 900) (ht : Hid (∀ r ∈ rs, r.bs.length ≤ 140737488351232)) (hxt : Hid (xb.length ≤ 140737488351232))
    {L : List (List UInt8 × Bool)} {b : Bool} (hp : Hid (putL (lnR rs) (xb, xe) = (L, b))) :
    Calls Try.prog 11 #[.slice A n c, .agg #[.slice xA xb.length xc, .bool xe]] W fun e w' => ∃ A2 n2 c2 qs, e = .returned (.tuple #[.slice A2 n2 c2, .bool b]) ∧ Hid (lnR qs = L) ∧ Hid (qs.length = n2) ∧ Hid (LnV w' w'.heap.size A2 c2 qs) ∧ Below u.heap.size u w' := by
  have h := putr_any W A n c rs ⟨xA, xc, xb, xe⟩ hl (slb_up hx hW) hn.out hm ht hxt
  rw [show (Rc.ln ⟨xA, xc, xb, xe⟩) = (xb, xe) from rfl, hp.out] at h
  refine h.mono ?_
  rintro e w' ⟨A2, n2, c2, qs, rfl, h1, h2, h3⟩
  exact ⟨A2, n2, c2, qs, rfl, h1, hid h2.out.len, hid h2.out.ln, hW.trans (h3.out.mono hW.size)⟩
theorem read_f (w : World) (A : Option Addr) (n c : Nat) (rs : List Rc) (k : Int) (hl : Hid (LnV w w.heap.size A c rs)) (hn : Hid (rs.length = n)) (hm : n ≤ 1000) (ht : Hid (∀ r ∈ rs, r.bs.length ≤ 140737488351232)) {bb : List UInt8} {L : List (List UInt8 × Bool)} {b : Bool} (hp : Hid (readL (lnR rs) k = (bb, L, b))) :
    Calls Try.prog 13 #[.slice A n c, .int .i64 k] w (RetRF w (bb, L, b)) := by
  have h := readp_any w A n c rs k hl hn.out hm ht
  rwa [hp.out] at h
theorem readr_f (w : World) (A : Option Addr) (n c : Nat) (rs : List Rc) (k : Int) (hl : Hid (LnV w w.heap.size A c rs)) (hn : Hid (rs.length = n)) (hm : n ≤ 1000) (ht : Hid (∀ r ∈ rs, r.bs.length ≤ 140737488351232)) {bb : List UInt8} {L : List (List UInt8 × Bool)} {b : Bool} (hp : Hid (readL (lnR rs) k = (bb, L, b))) :
    Calls Try.prog 14 #[.slice A n c, .int .i64 k] w (RetRd w (bb, L, b)) := by
  have h := readr_any w A n c rs k hl hn.out hm ht
  rwa [hp.out] at h
end Go.Proofs.Ytjncahcigbdbgab
