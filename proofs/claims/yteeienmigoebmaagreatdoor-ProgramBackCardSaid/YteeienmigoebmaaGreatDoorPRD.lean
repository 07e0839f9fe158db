import Derived.Test.YteeienmigoebmaaGreatDoorPRC
import Derived.Test.YteeienmigoebmaaGreatDoorSGF
import Derived.Deep.RegionHeld3
import Derived.Deep.RegionLaw
import Derived.BigQuiet
import Derived.Deep.QuietTactic
namespace Go.Proofs.YteeienmigoebmaaGreatDoor
namespace L19
open Go.RowKit L18

/-! Layer 19: programs in memory. -/
theorem flatU {α : Type} (f : α → List Value) (s : Nat) (hf : ∀ x, (f x).length = s) : ∀ (l : List α) (k : Nat) (x : α), l[k]? = some x → ∀ j, j < s → (l.flatMap f)[k * s + j]? = (f x)[j]?
  | [], k, x, h => by simp at h
  | y :: l, 0, x, h => fun j hj => by
    simp at h
    subst h
    rw [List.flatMap_cons, List.getElem?_append_left (by rw [hf]; omega)]
    simp
  | y :: l, k + 1, x, h => fun j hj => by
    have e : (k + 1) * s + j = s + (k * s + j) := by rw [Nat.add_mul]; omega
    rw [List.flatMap_cons, List.getElem?_append_right (by rw [hf, e]; omega), hf, e, show s + (k * s + j) - s = k * s + j by omega]
    exact flatU f s hf l k x (by simpa using h) j hj
theorem flatU_len {α : Type} (f : α → List Value) (s : Nat) (hf : ∀ x, (f x).length = s) (l : List α) : (l.flatMap f).length = l.length * s := by
  induction l with
  | nil => simp
  | cons y l ih => rw [List.flatMap_cons, List.length_append, ih, hf, List.length_cons, Nat.add_mul]; omega
/-- An operation's cells; a program's, its operations lying somewhere. -/
def opC (o : OpV) : List Value := [.int .i64 o.1, .int .i64 o.2.1, .int .i64 o.2.2.1, .string (bs o.2.2.2)]
abbrev PgX := ProgV × Option Addr × Nat
def pgX (x : PgX) : List Value := [.string (bs x.1.1), .slice x.2.1 x.1.2.length x.2.2]
def opsC (l : List OpV) : List Value := l.flatMap opC
def pgsC (X : List PgX) : List Value := X.flatMap pgX
def prL (X : List PgX) : List ProgV := X.map (·.1)
theorem opsC_len (l : List OpV) : (opsC l).length = l.length * 4 := flatU_len opC 4 (fun _ => rfl) l
theorem pgsC_len (X : List PgX) : (pgsC X).length = X.length * 2 := flatU_len pgX 2 (fun _ => rfl) X
theorem opsC_append (a b : List OpV) : opsC (a ++ b) = opsC a ++ opsC b := by simp [opsC]
theorem pgsC_append (a b : List PgX) : pgsC (a ++ b) = pgsC a ++ pgsC b := by simp [pgsC]
theorem prL_append (a b : List PgX) : prL (a ++ b) = prL a ++ prL b := by simp [prL]
theorem prL_len (X : List PgX) : (prL X).length = X.length := by simp [prL]
theorem opsC_one (l : List OpV) : ∀ u ∈ opsC l, u.oneCell' = true := by
  intro u hu
  obtain ⟨o, _, hu⟩ := List.mem_flatMap.1 hu
  simp only [opC, List.mem_cons, List.not_mem_nil, or_false] at hu
  rcases hu with rfl | rfl | rfl | rfl <;> rfl
theorem pgsC_one (X : List PgX) : ∀ u ∈ pgsC X, u.oneCell' = true := by
  intro u hu
  obtain ⟨o, _, hu⟩ := List.mem_flatMap.1 hu
  simp only [pgX, List.mem_cons, List.not_mem_nil, or_false] at hu
  rcases hu with rfl | rfl <;> rfl
theorem take_at {α : Type} {l : List α} {k : Nat} {x : α} (h : l[k]? = some x) : l.take (k + 1) = l.take k ++ [x] := by
  obtain ⟨hk, rfl⟩ := List.getElem?_eq_some_iff.1 h
  exact List.take_succ_eq_append_getElem hk
/-- Operations that lie in memory. -/
structure OpsM (w : World) (B : Nat) (A : Option Addr) (c : Nat) (l : List OpV) : Prop where
  len : l.length ≤ c
  cap : c ≤ maxLen
  nil : A = none → c = 0
  lies : Lies w B A (opsC l)
/-- Programs that lie in memory. -/
structure PgM (w : World) (B : Nat) (A : Option Addr) (c : Nat) (X : List PgX) : Prop where
  len : X.length ≤ c
  cap : c ≤ maxLen
  nil : A = none → c = 0
  lies : Lies w B A (pgsC X)
  text : ∀ x ∈ X, OpsM w B x.2.1 x.2.2 x.1.2
section
variable {w w' : World} {B B' c : Nat} {A : Option Addr} {l : List OpV} {X : List PgX}
theorem OpsM.below (h : OpsM w B A c l) (hb : Below B w w') : OpsM w' B A c l := ⟨h.len, h.cap, h.nil, h.lies.below hb⟩
theorem OpsM.more (h : OpsM w B A c l) (hB : B ≤ B') : OpsM w B' A c l := ⟨h.len, h.cap, h.nil, h.lies.more hB⟩
theorem PgM.below (h : PgM w B A c X) (hb : Below B w w') : PgM w' B A c X := ⟨h.len, h.cap, h.nil, h.lies.below hb, fun x hx => (h.text x hx).below hb⟩
theorem PgM.more (h : PgM w B A c X) (hB : B ≤ B') : PgM w B' A c X := ⟨h.len, h.cap, h.nil, h.lies.more hB, fun x hx => (h.text x hx).more hB⟩
theorem ops_up (h : Hid (OpsM w w.heap.size A c l)) (hb : Below w.heap.size w w') : Hid (OpsM w' w'.heap.size A c l) := hid ((h.out.below hb).more hb.size)
theorem pg_up (h : Hid (PgM w w.heap.size A c X)) (hb : Below w.heap.size w w') : Hid (PgM w' w'.heap.size A c X) := hid ((h.out.below hb).more hb.size)
theorem OpsM.at (h : OpsM w B A c l) {k : Nat} (hk : k < l.length) : ∃ b o x, A = some ⟨b, o, none⟩ ∧ l[k]? = some x ∧ w.cell? ⟨b, o + k * 4, none⟩ = some (.int .i64 x.1) ∧ w.cell? ⟨b, o + k * 4 + 1, none⟩ = some (.int .i64 x.2.1) ∧ w.cell? ⟨b, o + k * 4 + 2, none⟩ = some (.int .i64 x.2.2.1) ∧ w.cell? ⟨b, o + k * 4 + 3, none⟩ = some (.string (bs x.2.2.2)) := by
  obtain ⟨b, o, rfl, _, hc⟩ := h.lies (by
    intro e
    have := congrArg List.length e
    rw [opsC_len] at this
    have h0 : ([] : List Value).length = 0 := rfl
    omega)
  have hr : l[k]? = some l[k] := List.getElem?_eq_getElem hk
  have hx := flatU opC 4 (fun _ => rfl) l k l[k] hr
  exact ⟨b, o, l[k], rfl, hr, hc _ _ (hx 0 (by decide)), hc _ _ (hx 1 (by decide)), hc _ _ (hx 2 (by decide)), hc _ _ (hx 3 (by decide))⟩
theorem PgM.at (h : PgM w B A c X) {k : Nat} (hk : k < X.length) : ∃ b o x, A = some ⟨b, o, none⟩ ∧ X[k]? = some x ∧ w.cell? ⟨b, o + k * 2, none⟩ = some (.string (bs x.1.1)) ∧ w.cell? ⟨b, o + k * 2 + 1, none⟩ = some (.slice x.2.1 x.1.2.length x.2.2) ∧ OpsM w B x.2.1 x.2.2 x.1.2 := by
  obtain ⟨b, o, rfl, _, hc⟩ := h.lies (by
    intro e
    have := congrArg List.length e
    rw [pgsC_len] at this
    have h0 : ([] : List Value).length = 0 := rfl
    omega)
  have hr : X[k]? = some X[k] := List.getElem?_eq_getElem hk
  have hx := flatU pgX 2 (fun _ => rfl) X k X[k] hr
  exact ⟨b, o, X[k], rfl, hr, hc _ _ (hx 0 (by decide)), hc _ _ (hx 1 (by decide)), h.text _ (List.getElem_mem hk)⟩
end
theorem own_keep {w w' : World} {base : Nat} {e : TypeId} {size n : Nat} {v : Value} {xs : List Value} (h : w.ownsRow base e size v n xs) (hb : Below w.heap.size w w') : w'.ownsRow base e size v n xs :=
  (Kept.of_below hb 0 []).own h (by simp)
theorem own_mono {w : World} {b b' : Nat} {e : TypeId} {size n : Nat} {v : Value} {xs : List Value} (h : w.ownsRow b e size v n xs) (hb : b' ≤ b) : w.ownsRow b' e size v n xs :=
  ⟨h.1, h.2.imp id fun ⟨g, cap, cur, h1, h2, h3⟩ => ⟨g, cap, cur, h1, Nat.le_trans hb h2, h3⟩⟩
/-- Programs that a call has made: the row and all operations are its own. -/
structure PgN (w : World) (base EP EO : Nat) (A : Option Addr) (n c : Nat) (X : List PgX) : Prop where
  len : X.length = n
  row : w.ownsRow base EP 2 (.slice A n c) n (pgsC X)
  text : ∀ x ∈ X, w.ownsRow base EO 4 (.slice x.2.1 x.1.2.length x.2.2) x.1.2.length (opsC x.1.2)
theorem own_ops {w : World} {base E n c : Nat} {A : Option Addr} {l : List OpV} (h : w.ownsRow base E 4 (.slice A n c) n (opsC l)) (hn : l.length = n) : OpsM w w.heap.size A c l := by
  have hc := own_caps h
  refine ⟨by omega, hc.2, ?_, Lies.own h⟩
  rintro rfl
  rcases h.2 with ⟨hv, _⟩ | ⟨g, cap, cur, hv, _⟩
  · injection hv
  · injection hv with h1
    cases h1
section
variable {w w' : World} {base EP EO n c : Nat} {A : Option Addr} {X : List PgX}
theorem PgN.nil (w : World) (base EP EO : Nat) : PgN w base EP EO none 0 0 [] := ⟨rfl, World.ownsRow_nil _ _ _ _, fun r h => by cases h⟩
theorem PgN.up (h : PgN w base EP EO A n c X) (hb : Below w.heap.size w w') : PgN w' base EP EO A n c X := ⟨h.len, own_keep h.row hb, fun r hr => own_keep (h.text r hr) hb⟩
theorem PgN.pg (h : PgN w base EP EO A n c X) : PgM w w.heap.size A c X := by
  have hc := own_caps h.row
  refine ⟨by rw [h.len]; exact hc.1, hc.2, ?_, Lies.own h.row, fun x hx => own_ops (h.text x hx) rfl⟩
  rintro rfl
  rcases h.row.2 with ⟨hv, _⟩ | ⟨g, cap, cur, hv, _⟩
  · injection hv
  · injection hv with h1
    cases h1
end
/-- Cells are put behind a row of the call's own. -/
theorem app_row {P : Program} {ops : Array Oper} {rest : List Oper} {o : Oper} {a : Act} {Q : Exit → Act → World → Prop} (T E size bytes : Nat) (z : Value) (hT : P.underlying T = some (.slice E)) (hE : (P.info? E).map (fun i => (i.zero, i.size, i.bytes)) = some (some z, size, bytes)) (hzs : z.cells.size = size) (hsz : 0 < size) (W : World) (hgd : o.guard = none) (s x : Operand) (ho : o.op = .call { callee := .builtin .append, args := #[s, x], argTypes := #[T, T] })
    (base n m c : Nat) (A : Option Addr) (xs ys : List Value) (hs : a.eval s = .slice A n c) (hown : Hid (W.ownsRow base E size (.slice A n c) n xs)) (hb : base ≤ W.heap.size) (A2 : Option Addr) (c2 : Nat) (hx : a.eval x = .slice A2 m c2) (hL : Hid (Lies W W.heap.size A2 ys)) (hy : ys.length = m * size) (h1 : ∀ u ∈ ys, u.oneCell' = true) (h63 : n + m ≤ maxLen) (hm : (n + m) * bytes ≤ 140737488355328)
    (h : ∀ A' c' w', Hid (w'.ownsRow base E size (.slice A' (n + m) c') (n + m) (xs ++ ys)) → Hid (Kept base [E] W w') → wpList P ops Q rest (a.put o.dst (.slice A' (n + m) c')) w') : wpList P ops Q (o :: rest) a W := by
  obtain ⟨i0, hi0, hz0, hz1, hz2⟩ := info_parts hE
  refine wpList_app _ hgd s x T ho base E i0 _ size bytes hT hi0 hz0 hz1 hz2 hzs hsz A n c xs hs hown.out W.heap.size A2 m c2 ys hx hy hL.out h1 h63 hm hb ?_
  intro A3 c3 u2 ho2 hg2
  have hk : Kept base [E] W u2 := (Kept.refl base [E] W).grown hg2 (fun k hk => by obtain ⟨a, cs, b⟩ := own_box hown.out k hk; exact ⟨a, E, cs, by simp, b⟩)
  exact h A3 c3 u2 (hid ho2) (hid hk)
/-- The same, in a region that draws its order. -/
theorem step_row {P : Program} {ops : Array Oper} {o : Oper} {a : Act} {K : Act → World → Prop} {Q : Exit → Act → World → Prop} {E0 : Prop} (T E size bytes : Nat) (z : Value) (hT : P.underlying T = some (.slice E)) (hE : (P.info? E).map (fun i => (i.zero, i.size, i.bytes)) = some (some z, size, bytes)) (hzs : z.cells.size = size) (hsz : 0 < size) {W : World} (hgd : o.guard = none) (s x : Operand) (ho : o.op = .call { callee := .builtin .append, args := #[s, x], argTypes := #[T, T] })
    (base n m c : Nat) (A : Option Addr) (xs ys : List Value) (hs : a.eval s = .slice A n c) (hown : Hid (W.ownsRow base E size (.slice A n c) n xs)) (hb : base ≤ W.heap.size) (A2 : Option Addr) (c2 : Nat) (hx : a.eval x = .slice A2 m c2) (hL : Hid (Lies W W.heap.size A2 ys)) (hy : ys.length = m * size) (h1 : ∀ u ∈ ys, u.oneCell' = true) (h63 : n + m ≤ maxLen) (hm : (n + m) * bytes ≤ 140737488355328)
    (h : ∀ A' c' w', Hid (w'.ownsRow base E size (.slice A' (n + m) c') (n + m) (xs ++ ys)) → Hid (Kept base [E] W w') → Hid (W.grownBy w' (Value.slice A n c).ownBlock) → K (a.put o.dst (.slice A' (n + m) c')) w') : if Region.wanted o (yielded ops a.tmps) = true then Oper.wp P o a W K Q else E0 := by
  obtain ⟨i0, hi0, hz0, hz1, hz2⟩ := info_parts hE
  refine step_app _ hgd s x T ho base E i0 _ size bytes hT hi0 hz0 hz1 hz2 hzs hsz A n c xs hs hown.out W.heap.size A2 m c2 ys hx hy hL.out h1 h63 hm hb ?_
  intro A3 c3 u2 ho2 hg2
  have hk : Kept base [E] W u2 := (Kept.refl base [E] W).grown hg2 (fun k hk => by obtain ⟨a, cs, b⟩ := own_box hown.out k hk; exact ⟨a, E, cs, by simp, b⟩)
  exact h A3 c3 u2 (hid ho2) (hid hk) (hid hg2)
theorem lies_row (W : World) (E : TypeId) (xs : List Value) (cs : Array Value) (g : Nat) (hg : g = W.heap.size) (hc : xs.toArray = cs) : Lies (W.alloc (.cells cs E)) (W.alloc (.cells cs E)).heap.size (some ⟨g, 0, none⟩) xs := by
  subst hc hg
  have := lies_lit W xs.toArray E
  rw [World.size_alloc]
  simpa using this
theorem own_lit0 {W : World} {g base E size : Nat} (h : Box W g E #[]) (hb : base ≤ g) : W.ownsRow base E size (.slice (some ⟨g, 0, none⟩) 0 0) 0 [] := by
  unfold Box at h
  refine ⟨by simp, Or.inr ⟨g, 0, #[], rfl, hb, by simpa using h, by simp, by simp, by simp, by simp⟩⟩
theorem pg_snoc {W w' : World} {base EP EO n c c' : Nat} {A A' : Option Addr} {X : List PgX} {x : PgX} (h : PgN W base EP EO A n c X) (ht : W.ownsRow base EO 4 (.slice x.2.1 x.1.2.length x.2.2) x.1.2.length (opsC x.1.2)) (hk : Kept base [EP] W w') (hE : EO ∉ [EP]) (ho : w'.ownsRow base EP 2 (.slice A' (n + 1) c') (n + 1) (pgsC X ++ pgsC [x])) : PgN w' base EP EO A' (n + 1) c' (X ++ [x]) := by
  refine ⟨by rw [List.length_append, h.len]; rfl, by rw [pgsC_append]; exact ho, fun r hr => ?_⟩
  rcases List.mem_append.1 hr with h1 | h1
  · exact hk.own (h.text r h1) hE
  · obtain rfl := List.mem_singleton.1 h1
    exact hk.own ht hE
theorem bel_a {u W : World} {o : Obj} (h : Below u.heap.size u W) : Below u.heap.size u (W.alloc o) := h.alloc h.size o
theorem bel_d {u W : World} (h : Below u.heap.size u W) : Below u.heap.size u W.drew := h.drew
theorem box_d {W : World} {g : Nat} {t : TypeId} {cs : Array Value} (h : Box W g t cs) : Box W.drew g t cs := h
theorem box_n {w : World} {g : Nat} {cs : Array Value} {t : TypeId} (hg : g = w.heap.size) : Box (w.alloc (.cells cs t)) g t cs := by
  subst hg
  exact Box.new w t cs
end L19
end Go.Proofs.YteeienmigoebmaaGreatDoor
