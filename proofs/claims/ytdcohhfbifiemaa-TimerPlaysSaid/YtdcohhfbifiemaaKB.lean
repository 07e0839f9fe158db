import Derived.Test.YtdcohhfbifiemaaRows
import Derived.Test.YtdcohhfbifiemaaKA
import Derived.BigQuiet
import Derived.BigRegion
import Derived.Deep.QuietTactic
import Derived.Deep.RegionLaw
import Derived.Maps.OwnSet
namespace Go.Proofs.Ytdcohhfbifiemaa
open Go.RowKit Go.Maps

theorem ret_bool {a b : Bool} (h : a = b) : Ending.returned (.bool a) = .returned (.bool b) := by rw [h]
/-- A timer: its id, its time. -/
abbrev Tm := Int × Int
def okI (a : Int) : Prop := (Lit.int .i64 a).wf = true
/-- A row of timers. -/
structure Rw (w : World) (A : Option Addr) (n c : Nat) (rb : Option Nat) (L : List Tm) : Prop where
  len : L.length = n
  le : n ≤ c
  max : c ≤ maxLen
  row : (A = none ∧ c = 0 ∧ rb = none) ∨ ∃ r cur, A = some ⟨r, 0, none⟩ ∧ rb = some r ∧ Box w r 61 cur ∧ c * 2 ≤ cur.size ∧ ∀ j (h : j < L.length), cur[j * 2]? = some (.int .i64 L[j].1) ∧ cur[j * 2 + 1]? = some (.int .i64 L[j].2)
section
variable {w w' : World} {A : Option Addr} {n c : Nat} {rb : Option Nat} {L : List Tm} {K : List Nat}
theorem Rw.keep (h : Rw w A n c rb L) (k : But K w w') (hr : ∀ x, rb = some x → x ∉ K) : Rw w' A n c rb L := by
  refine ⟨h.len, h.le, h.max, ?_⟩
  rcases h.row with h1 | ⟨r, cur, e1, e2, hb, hs, he⟩
  · exact .inl h1
  · exact .inr ⟨r, cur, e1, e2, k.box hb (hr r e2), hs, he⟩
theorem Rw.box (h : Rw w A n c rb L) : ∀ x, rb = some x → ∃ cs, Box w x 61 cs := fun x hx => by
  rcases h.row with ⟨_, _, e⟩ | ⟨r, cur, _, e2, hb, _⟩
  · rw [e] at hx; cases hx
  · rw [e2] at hx
    injection hx with hx
    subst hx
    exact ⟨cur, hb⟩
theorem Rw.nil (w : World) : Rw w none 0 0 none [] := ⟨rfl, Nat.le_refl _, Nat.zero_le _, .inl ⟨rfl, rfl, rfl⟩⟩
/-- Where there is a timer there is a row. -/
theorem Rw.some_ (h : Rw w A n c rb L) (hn : 0 < n) : ∃ r cur, A = some ⟨r, 0, none⟩ ∧ rb = some r ∧ Box w r 61 cur ∧ c * 2 ≤ cur.size ∧ ∀ j (h : j < L.length), cur[j * 2]? = some (.int .i64 L[j].1) ∧ cur[j * 2 + 1]? = some (.int .i64 L[j].2) := by
  rcases h.row with ⟨_, e, _⟩ | h1
  · have := h.le
    omega
  · exact h1
end

/-- A map of numbers: its block reads as f, with n keys. -/
def Mp (w : World) (e : TypeId) (M n : Nat) (f : Int → Option Int) : Prop :=
  ∃ D : DataW Unit, w.ownsMap Try.prog 3 (plainElem Try.prog e) M n D ∧ Maps.size D = n ∧
    ∀ a, okI a → Maps.has D (.int .i64 a) = (f a).isSome ∧ ∀ v, f a = some v → D.atKey (.int .i64 a) (.lit (.int .i64 0)) = .lit (.int .i64 v)
theorem ownsMap_tight {w : World} {P : Program} {k : TypeId} {R : Value → Option (DataW Unit × List MemPlace)} {b n : Nat} {D : DataW Unit} (h : w.ownsMap P k R b n D) : w.ownsMap P k R b (Maps.size D) D := by
  obtain ⟨es, clock, hb, F, _, rfl⟩ := h
  exact ⟨es, clock, hb, F, by simp [Maps.size, length_sorted], rfl⟩
def putF (f : Int → Option Int) (a v : Int) : Int → Option Int := fun x => if x = a then some v else f x
def delF (f : Int → Option Int) (a : Int) : Int → Option Int := fun x => if x = a then none else f x
theorem keyI {a : Int} (h : okI a) : keyOf Try.prog 3 (.int .i64 a) = some (.int .i64 a) := keyOf_int_mk Try.underlying3 h
theorem lawI : Keyed Try.prog 3 := int_keyed Try.underlying3
theorem isKeyI (a : Int) : WideAt.IsKeyLit (.int .i64 a) := by simp [WideAt.IsKeyLit]
theorem litI {a b : Int} (h : b ≠ a) : (Lit.int .i64 b) ≠ .int .i64 a := fun e => by injection e with _ e; exact h e
section
variable {w w' : World} {e : TypeId} {M n : Nat} {f : Int → Option Int}
theorem Mp.keep {K : List Nat} (h : Mp w e M n f) (k : But K w w') (hM : M ∉ K) : Mp w' e M n f := by
  obtain ⟨D, hown, h2⟩ := h
  refine ⟨D, ?_, h2⟩
  have hl := hown.lt
  obtain ⟨es, clock, hb, r⟩ := hown
  exact ⟨es, clock, (k.block M hl hM).trans hb, r⟩
theorem Mp.lt (h : Mp w e M n f) : M < w.heap.size := by
  obtain ⟨D, hown, _⟩ := h
  exact hown.lt
theorem Mp.ne {g : Nat} {t : TypeId} {cs : Array Value} (h : Mp w e M n f) (hb : Box w g t cs) : M ≠ g := by
  rintro rfl
  obtain ⟨D, ⟨es, clock, hm, _⟩, _⟩ := h
  unfold Box at hb
  rw [hb] at hm
  cases hm
theorem Mp.made (w : World) (e : TypeId) : Mp (w.alloc (.map #[] 0)) e w.heap.size 0 (fun _ => none) :=
  ⟨_, World.ownsMap_made _ _ _ _, rfl, fun a _ => ⟨rfl, fun v hv => by cases hv⟩⟩
theorem but_grown {K : List Nat} {b : Nat} (hg : w.grownBy w' (some b)) (hb : b ∈ K) : But K w w' :=
  (But.refl K w).grown hg fun k hk => .inl (by injection hk with hk; subst hk; exact hb)
theorem Mp.put (h : Mp w e M n f) {t : TypeId} (ht : Try.prog.underlying t = some (.map 3 e)) (he : Try.prog.underlying e = some (.int .i64)) (hn : n < maxLen) {a v : Int} (ha : okI a) (hv : okI v) :
    ∃ w', (Instr.mapUpdate t (.map (some M)) (.int .i64 a) (.int .i64 v)).run Try.prog w = .ok () w' ∧ Mp w' e M (if (f a).isSome then n else n + 1) (putF f a v) ∧ But [M] w w' := by
  obtain ⟨D, hown, hs, hf⟩ := h
  have hT := hown.tidy lawI
  obtain ⟨w', hrun, h1, h2⟩ := hown.update lawI ht hn (keyI ha) (plainElem_int he hv)
  refine ⟨w', hrun, ⟨D.put (.int .i64 a) (.lit (.int .i64 v)), ?_, ?_, fun b hb => ?_⟩, but_grown h2 (by simp)⟩
  · have := ownsMap_tight h1
    rw [size_put hT, (hf a ha).1, hs] at this
    exact this
  · rw [size_put hT, (hf a ha).1, hs]
  · unfold putF
    by_cases hab : b = a
    · subst hab
      rw [if_pos rfl, has_put_same hT.isMap (isKeyI b), atKey_put_same hT.isMap (isKeyI b)]
      exact ⟨rfl, fun x hx => by injection hx with hx; rw [hx]⟩
    · rw [if_neg hab, has_put_other (litI hab), atKey_put_other (litI hab)]
      exact hf b hb
theorem Mp.del (h : Mp w e M n f) {t : TypeId} (ht : Try.prog.underlying t = some (.map 3 e)) {a : Int} (ha : okI a) (ty : TypeId) :
    ∃ w', (Builtin.delete_ #[t, 3] ty #[.map (some M), .int .i64 a]).run Try.prog w = .ok (.tuple #[]) w' ∧ Mp w' e M (if (f a).isSome then n - 1 else n) (delF f a) ∧ But [M] w w' := by
  obtain ⟨D, hown, hs, hf⟩ := h
  have hT := hown.tidy lawI
  obtain ⟨w', hrun, h1, h2⟩ := hown.drop lawI ht (keyI ha) ty
  have hsz : Maps.size (D.del (.int .i64 a)) = if (f a).isSome then n - 1 else n := by
    have := size_del (k := .int .i64 a) hT
    rw [(hf a ha).1, hs] at this
    split <;> simp_all <;> omega
  refine ⟨w', hrun, ⟨D.del (.int .i64 a), ?_, hsz, fun b hb => ?_⟩, but_grown h2.grown (by simp)⟩
  · have := ownsMap_tight h1
    rw [hsz] at this
    exact this
  · unfold delF
    by_cases hab : b = a
    · subst hab
      rw [if_pos rfl, has_del_same]
      exact ⟨rfl, fun x hx => by cases hx⟩
    · rw [if_neg hab, has_del_other (litI hab), atKey_del_other (litI hab)]
      exact hf b hb
theorem Mp.look (h : Mp w e M n f) {t : TypeId} (ht : Try.prog.underlying t = some (.map 3 e)) (he : Try.prog.underlying e = some (.int .i64)) (hz : (zeroValue e).run Try.prog w = .ok (.int .i64 0) w) {a : Int} (ha : okI a) :
    (Instr.lookup t (.map (some M)) (.int .i64 a) true).run Try.prog w = .ok (.tuple #[.int .i64 ((f a).getD 0), .bool (f a).isSome]) w := by
  obtain ⟨D, hown, hs, hf⟩ := h
  obtain ⟨v, ps, hrun, hv⟩ := hown.look_ok lawI ht hz (plainElem_int he (by decide)) (keyI ha)
  obtain ⟨c, rfl, hc, hwc⟩ := plainElem_int_inv he hv
  rw [hrun, (hf a ha).1]
  cases hfa : f a with
  | none =>
    have h0 : Maps.has D (.int .i64 a) = false := by rw [(hf a ha).1, hfa]; rfl
    have hc' : D.atKey (.int .i64 a) (.lit (.int .i64 0)) = .lit (.int .i64 c) := congrArg Prod.fst hc
    rw [atKey_of_not_has h0] at hc'
    injection hc' with hc'
    injection hc' with _ hc'
    rw [← hc']
    rfl
  | some x =>
    have hc' : D.atKey (.int .i64 a) (.lit (.int .i64 0)) = .lit (.int .i64 c) := congrArg Prod.fst hc
    rw [(hf a ha).2 x hfa] at hc'
    injection hc' with hc'
    injection hc' with _ hc'
    rw [← hc']
    rfl
theorem Mp.look1 (h : Mp w e M n f) {t : TypeId} (ht : Try.prog.underlying t = some (.map 3 e)) (he : Try.prog.underlying e = some (.int .i64)) (hz : (zeroValue e).run Try.prog w = .ok (.int .i64 0) w) {a : Int} (ha : okI a) :
    (Instr.lookup t (.map (some M)) (.int .i64 a) false).run Try.prog w = .ok (.int .i64 ((f a).getD 0)) w := by
  obtain ⟨D, hown, hs, hf⟩ := h
  obtain ⟨v, ps, hrun, hv⟩ := hown.lookup lawI ht hz (plainElem_int he (by decide)) (keyI ha)
  obtain ⟨c, rfl, hc, hwc⟩ := plainElem_int_inv he hv
  rw [hrun]
  have hc' : D.atKey (.int .i64 a) (.lit (.int .i64 0)) = .lit (.int .i64 c) := congrArg Prod.fst hc
  cases hfa : f a with
  | none =>
    have h0 : Maps.has D (.int .i64 a) = false := by rw [(hf a ha).1, hfa]; rfl
    rw [atKey_of_not_has h0] at hc'
    injection hc' with hc'
    injection hc' with _ hc'
    rw [← hc']
    rfl
  | some x =>
    rw [(hf a ha).2 x hfa] at hc'
    injection hc' with hc'
    injection hc' with _ hc'
    rw [← hc']
    rfl
theorem Mp.lenM (h : Mp w e M n f) {t : TypeId} (ht : Try.prog.underlying t = some (.map 3 e)) (ty : TypeId) : (Builtin.len_ #[t] ty #[.map (some M)]).run Try.prog w = .ok (.int .i64 n) w := by
  obtain ⟨D, hown, hs, _⟩ := h
  rw [hown.len ht ty, hs]
end

/-- f tells of each timer where it stands. -/
def Mf (f : Int → Option Int) (L : List Tm) : Prop := (∀ (j : Nat) x, L[j]? = some x → f x.1 = some (j : Int)) ∧ ∀ a v, f a = some v → ∃ (j : Nat) (x : Tm), L[j]? = some x ∧ x.1 = a ∧ v = j
/-- The places: their block, the map's block, the row's. -/
structure Pl (w : World) (H M : Nat) (rb : Option Nat) (L : List Tm) : Prop where
  wf : ∀ x ∈ L, okI x.1 ∧ okI x.2
  cnt : L.length ≤ 300
  nd : L.Pairwise (fun a b => a.1 ≠ b.1)
  body : ∃ A c f, Box w H 59 #[.slice A L.length c, .map (some M)] ∧ Rw w A L.length c rb L ∧ Mp w 3 M L.length f ∧ Mf f L
/-- The blocks that are the places' own. -/
def plB (H M : Nat) (rb : Option Nat) : List Nat := H :: M :: rb.toList
end Go.Proofs.Ytdcohhfbifiemaa
