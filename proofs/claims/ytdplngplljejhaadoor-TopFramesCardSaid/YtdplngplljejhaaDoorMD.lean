import Derived.Test.YtdplngplljejhaaDoorMC
namespace Go.Proofs.YtdplngplljejhaaDoor
open Go.RowKit

/-- Each kind's one row. -/
def tab : List (Int × List Pl) := [(1, [.code, .text, .lang]), (80, [.name, .want, .rest]), (81, [.rest]), (82, []), (90, [.name, .sender, .window, .packet, .rest]), (91, [.chan, .sender, .window, .packet, .rest]), (92, [.chan, .code, .text, .lang]), (93, [.chan, .window]), (94, [.chan, .text]), (95, [.chan, .code, .text]), (96, [.chan]), (97, [.chan]), (98, [.chan, .name, .want, .rest]), (99, [.chan]), (100, [.chan])]
def look (k : Int) : List (Int × List Pl) → Option (List Pl)
  | [] => none
  | (a, ps) :: r => if a = k then some ps else look k r
def Pl.funV (p : Pl) : Value := .func (.func p.fn) #[] #[]

/-- Cells in memory that nothing turns: below a block, or in a block of one type. -/
def LT (w : World) (base t : Nat) (A : Option Addr) (cs : List Value) : Prop :=
  cs ≠ [] → ∃ b o, A = some ⟨b, o, none⟩ ∧ b < w.heap.size ∧ (b < base ∨ ∃ cur fr, w.heap[b]? = some (.cells cur t fr)) ∧ ∀ j u, cs[j]? = some u → w.cell? ⟨b, o + j, none⟩ = some u
theorem LT.kept {w w' : World} {base t : Nat} {A : Option Addr} {cs : List Value} {T : List TypeId} (h : LT w base t A cs) (k : Kept base T w w') (h5 : t ∉ T) : LT w' base t A cs := fun hn => by
  obtain ⟨b, o, rfl, hb, ho, hc⟩ := h hn
  have hh : w'.heap[b]? = w.heap[b]? := k.block b hb (ho.imp id (by
    rintro ⟨cur, fr, e⟩ cs t fr' e'
    rw [e] at e'
    injection e' with e'
    injection e' with _ e'
    subst e'
    exact h5))
  refine ⟨b, o, rfl, Nat.lt_of_lt_of_le hb k.size, ho.imp id (by rintro ⟨cur, fr, e⟩; exact ⟨cur, fr, hh.trans e⟩), fun j u hu => ?_⟩
  rw [World.cell?_of_block (w := w) hh]
  exact hc j u hu
theorem LT.below {w w' : World} {base t : Nat} {A : Option Addr} {cs : List Value} (h : LT w base t A cs) (k : Below w.heap.size w w') : LT w' base t A cs := h.kept (Kept.of_below k _ []) (by simp)
theorem LT.base {w : World} {base base' t : Nat} {A : Option Addr} {cs : List Value} (h : LT w base t A cs) (hb : base ≤ base') : LT w base' t A cs := fun hn => by
  obtain ⟨b, o, e, h1, h2, h3⟩ := h hn
  exact ⟨b, o, e, h1, h2.imp (fun x => by omega) id, h3⟩
theorem lt_lay {w w' : World} {cs : Array Value} {t g : Nat} (hg : g = w.heap.size) (h : Below (w.heap.size + 1) (w.alloc (.cells cs t)) w') : LT w' 0 t (some ⟨g, 0, none⟩) cs.toList := fun _ => by
  subst hg
  have hx : Box w' w.heap.size t cs := (Box.new w t cs).same (h.block _ (by omega))
  exact ⟨_, _, rfl, hx.lt, .inr ⟨_, _, hx⟩, fun j u hu => by rw [Nat.zero_add, hx.cell j]; simpa using hu⟩

/-- The table in memory. -/
def RowsV (w : World) (b : Nat) (l : List (Int × List Pl)) : Prop :=
  b < w.heap.size ∧ ∀ k (h : k < l.length), ∃ pA pc, w.cell? ⟨b, k * 2, none⟩ = some (.int .i64 l[k].1) ∧ w.cell? ⟨b, k * 2 + 1, none⟩ = some (.slice pA l[k].2.length pc) ∧ l[k].2.length ≤ pc ∧ pc ≤ maxLen ∧ LT w 0 91 pA (l[k].2.map Pl.funV)
theorem RowsV.below {w w' : World} {b : Nat} {l : List (Int × List Pl)} (h : RowsV w b l) (hb : Below w.heap.size w w') : RowsV w' b l :=
  ⟨Nat.lt_of_lt_of_le h.1 hb.size, fun k hk => by
    obtain ⟨pA, pc, h1, h2, h3, h4, h5⟩ := h.2 k hk
    exact ⟨pA, pc, (hb.cell (p := ⟨b, _, none⟩) h.1).trans h1, (hb.cell (p := ⟨b, _, none⟩) h.1).trans h2, h3, h4, h5.below hb⟩⟩

def allocs (t : Nat) (w : World) : List (Array Value) → World
  | [] => w
  | cs :: r => allocs t (w.alloc (.cells cs t)) r
theorem allocs_below (t : Nat) : ∀ (l : List (Array Value)) (w : World), Below w.heap.size w (allocs t w l)
  | [], _ => Below.refl _ _
  | cs :: r, w => (bel1 w _).trans ((allocs_below t r (w.alloc (.cells cs t))).mono (by simp))
theorem allocs_size (t : Nat) : ∀ (l : List (Array Value)) (w : World), (allocs t w l).heap.size = w.heap.size + l.length
  | [], _ => rfl
  | cs :: r, w => by rw [allocs, allocs_size t r]; simp; omega
theorem lt_allocs (t : Nat) : ∀ (l : List (Array Value)) (w : World) (i : Nat) (h : i < l.length), LT (allocs t w l) 0 t (some ⟨w.heap.size + i, 0, none⟩) l[i].toList
  | cs :: r, w, 0, _ => lt_lay rfl ((allocs_below t r (w.alloc (.cells cs t))).mono (by simp))
  | cs :: r, w, i + 1, h => by
    have e : w.heap.size + (i + 1) = (w.alloc (.cells cs t)).heap.size + i := by simp; omega
    rw [e]
    exact lt_allocs t r (w.alloc (.cells cs t)) i (by simpa using h)
def layL : List (Array Value) := [#[.func (.func 78) #[] #[], .func (.func 79) #[] #[], .func (.func 80) #[] #[]], #[.func (.func 81) #[] #[], .func (.func 82) #[] #[], .func (.func 83) #[] #[]], #[.func (.func 83) #[] #[]], #[.func (.func 81) #[] #[], .func (.func 84) #[] #[], .func (.func 85) #[] #[], .func (.func 86) #[] #[], .func (.func 83) #[] #[]], #[.func (.func 87) #[] #[], .func (.func 84) #[] #[], .func (.func 85) #[] #[], .func (.func 86) #[] #[], .func (.func 83) #[] #[]], #[.func (.func 87) #[] #[], .func (.func 78) #[] #[], .func (.func 79) #[] #[], .func (.func 80) #[] #[]], #[.func (.func 87) #[] #[], .func (.func 85) #[] #[]], #[.func (.func 87) #[] #[], .func (.func 79) #[] #[]], #[.func (.func 87) #[] #[], .func (.func 78) #[] #[], .func (.func 79) #[] #[]], #[.func (.func 87) #[] #[]], #[.func (.func 87) #[] #[]], #[.func (.func 87) #[] #[], .func (.func 81) #[] #[], .func (.func 82) #[] #[], .func (.func 83) #[] #[]], #[.func (.func 87) #[] #[]], #[.func (.func 87) #[] #[]]]
def bigV (n : Nat) : Array Value := #[.int .i64 1, .slice (some ⟨n + 0, 0, none⟩) 3 3, .int .i64 80, .slice (some ⟨n + 1, 0, none⟩) 3 3, .int .i64 81, .slice (some ⟨n + 2, 0, none⟩) 1 1, .int .i64 82, .slice none 0 0, .int .i64 90, .slice (some ⟨n + 3, 0, none⟩) 5 5, .int .i64 91, .slice (some ⟨n + 4, 0, none⟩) 5 5, .int .i64 92, .slice (some ⟨n + 5, 0, none⟩) 4 4, .int .i64 93, .slice (some ⟨n + 6, 0, none⟩) 2 2, .int .i64 94, .slice (some ⟨n + 7, 0, none⟩) 2 2, .int .i64 95, .slice (some ⟨n + 8, 0, none⟩) 3 3, .int .i64 96, .slice (some ⟨n + 9, 0, none⟩) 1 1, .int .i64 97, .slice (some ⟨n + 10, 0, none⟩) 1 1, .int .i64 98, .slice (some ⟨n + 11, 0, none⟩) 4 4, .int .i64 99, .slice (some ⟨n + 12, 0, none⟩) 1 1, .int .i64 100, .slice (some ⟨n + 13, 0, none⟩) 1 1]
set_option maxRecDepth 100000 in
theorem rows_laid (w : World) : RowsV ((allocs 91 w layL).alloc (.cells (bigV w.heap.size) 134)) (w.heap.size + 14) tab := by
  have hsz : (allocs 91 w layL).heap.size = w.heap.size + 14 := allocs_size 91 layL w
  have hx : Box ((allocs 91 w layL).alloc (.cells (bigV w.heap.size) 134)) (w.heap.size + 14) 134 (bigV w.heap.size) := by
    have h := Box.new (allocs 91 w layL) 134 (bigV w.heap.size)
    rw [hsz] at h
    exact h
  refine ⟨hx.lt, fun k hk => ?_⟩
  have hk15 : k < 15 := hk
  have : k = 0 ∨ k = 1 ∨ k = 2 ∨ k = 3 ∨ k = 4 ∨ k = 5 ∨ k = 6 ∨ k = 7 ∨ k = 8 ∨ k = 9 ∨ k = 10 ∨ k = 11 ∨ k = 12 ∨ k = 13 ∨ k = 14 := by omega
  rcases this with rfl | rfl | rfl | rfl | rfl | rfl | rfl | rfl | rfl | rfl | rfl | rfl | rfl | rfl | rfl
  · exact ⟨_, _, hx.cell 0, hx.cell 1, Nat.le_refl _, by unfold maxLen; decide, (lt_allocs 91 layL w 0 (by decide)).below (bel1 _ _)⟩
  · exact ⟨_, _, hx.cell 2, hx.cell 3, Nat.le_refl _, by unfold maxLen; decide, (lt_allocs 91 layL w 1 (by decide)).below (bel1 _ _)⟩
  · exact ⟨_, _, hx.cell 4, hx.cell 5, Nat.le_refl _, by unfold maxLen; decide, (lt_allocs 91 layL w 2 (by decide)).below (bel1 _ _)⟩
  · exact ⟨none, 0, hx.cell 6, hx.cell 7, Nat.le_refl _, Nat.zero_le _, fun h => absurd rfl h⟩
  · exact ⟨_, _, hx.cell 8, hx.cell 9, Nat.le_refl _, by unfold maxLen; decide, (lt_allocs 91 layL w 3 (by decide)).below (bel1 _ _)⟩
  · exact ⟨_, _, hx.cell 10, hx.cell 11, Nat.le_refl _, by unfold maxLen; decide, (lt_allocs 91 layL w 4 (by decide)).below (bel1 _ _)⟩
  · exact ⟨_, _, hx.cell 12, hx.cell 13, Nat.le_refl _, by unfold maxLen; decide, (lt_allocs 91 layL w 5 (by decide)).below (bel1 _ _)⟩
  · exact ⟨_, _, hx.cell 14, hx.cell 15, Nat.le_refl _, by unfold maxLen; decide, (lt_allocs 91 layL w 6 (by decide)).below (bel1 _ _)⟩
  · exact ⟨_, _, hx.cell 16, hx.cell 17, Nat.le_refl _, by unfold maxLen; decide, (lt_allocs 91 layL w 7 (by decide)).below (bel1 _ _)⟩
  · exact ⟨_, _, hx.cell 18, hx.cell 19, Nat.le_refl _, by unfold maxLen; decide, (lt_allocs 91 layL w 8 (by decide)).below (bel1 _ _)⟩
  · exact ⟨_, _, hx.cell 20, hx.cell 21, Nat.le_refl _, by unfold maxLen; decide, (lt_allocs 91 layL w 9 (by decide)).below (bel1 _ _)⟩
  · exact ⟨_, _, hx.cell 22, hx.cell 23, Nat.le_refl _, by unfold maxLen; decide, (lt_allocs 91 layL w 10 (by decide)).below (bel1 _ _)⟩
  · exact ⟨_, _, hx.cell 24, hx.cell 25, Nat.le_refl _, by unfold maxLen; decide, (lt_allocs 91 layL w 11 (by decide)).below (bel1 _ _)⟩
  · exact ⟨_, _, hx.cell 26, hx.cell 27, Nat.le_refl _, by unfold maxLen; decide, (lt_allocs 91 layL w 12 (by decide)).below (bel1 _ _)⟩
  · exact ⟨_, _, hx.cell 28, hx.cell 29, Nat.le_refl _, by unfold maxLen; decide, (lt_allocs 91 layL w 13 (by decide)).below (bel1 _ _)⟩

set_option maxHeartbeats 1000000 in
set_option maxRecDepth 100000 in
theorem rows_any (w : World) :
    Calls Tryd.prog 45 #[] w fun e w' => ∃ b, e = .returned (.slice (some ⟨b, 0, none⟩) 15 15) ∧ RowsV w' b tab ∧ Below w.heap.size w w' := by
  have h1 : ∀ (w : World) (a : Addr) (m : Mode) (f : Fn) (xs ys : Array Value), (store a (.func f xs ys) m).run Tryd.prog w = stored Tryd.prog w a (.func f xs ys) m := fun w a m f xs ys => run_store Tryd.prog w a _ m rfl
  go_enter Tryd.func45, Tryd.ntmps45
  go_wp2
  go_ret
  refine ⟨w.heap.size + 14, rfl, rows_laid w, ?_⟩
  exact (allocs_below 91 layL w).alloc (by rw [allocs_size]; omega) (.cells (bigV w.heap.size) 134)

def PlacesR (x : Option (List Pl)) (w : World) (e : Ending) (w' : World) : Prop :=
  Below w.heap.size w w' ∧ match x with
  | none => e = .returned (.tuple #[.slice none 0 0, .bool false])
  | some ps => ∃ pA pc, e = .returned (.tuple #[.slice pA ps.length pc, .bool true]) ∧ ps.length ≤ pc ∧ pc ≤ maxLen ∧ LT w' 0 91 pA (ps.map Pl.funV)

set_option maxHeartbeats 1000000 in
set_option maxRecDepth 100000 in
theorem placesOf_any (kd : Int) (w : World) (hlo : -9223372036854775808 ≤ kd) (hhi : kd ≤ 9223372036854775807) :
    Calls Tryd.prog 28 #[.int .i64 kd] w (PlacesR (look kd tab) w) := by
  go_enter Tryd.func28, Tryd.ntmps28
  go_wp2_with (go_at_call 45; refine (rows_any w).mono ?_; rintro e w1 ⟨b, rfl, hR, hB⟩)
  have HR := hid hR
  clear hR
  go_loopw [8] (fun i wr => ∃ k : Nat, k ≤ 15 ∧ i = .int .i64 k ∧ Below w1.heap.size w1 wr ∧ Hid (look kd tab = look kd (tab.drop k))) (fun i _ => 15 - (intOf i).toNat)
  case atStart => exact ⟨0, by omega, rfl, Below.refl _ _, hid rfl⟩
  case round =>
    obtain ⟨k, hk, rfl, hbw, HP⟩ := hrel
    by_cases hlt : k < 15
    · obtain ⟨pA, pc, c0, c1, hp1, hp2, hL⟩ := HR.out.2 k hlt
      have hbl := HR.out.1
      have c0 := (hbw.cell (p := ⟨b, _, none⟩) hbl).trans c0
      have c1 := (hbw.cell (p := ⟨b, _, none⟩) hbl).trans c1
      have hdrop : tab.drop k = tab[k] :: tab.drop (k + 1) := List.drop_eq_getElem_cons hlt
      have HD : Hid (look kd tab = look kd (tab[k] :: tab.drop (k + 1))) := by rw [← hdrop]; exact HP
      have HL := hid hL
      clear hdrop hL
      generalize tab[k] = t at *
      obtain ⟨a, ps⟩ := t
      simp only at c0 c1 hp1
      by_cases he : a = kd
      · subst he
        have HE : Hid (look a tab = some ps) := by show _ = _; rw [HD.out]; simp [look]
        go_wp2
        go_ret2
        rw [HE.out]
        exact ⟨hB.trans ((hbw.alloc hbw.size _).mono hB.size), pA, pc, rfl, hp1, hp2, (HL.out.below hbw).below (bel1 _ _)⟩
      · have hne : (a == kd) = false := by simpa using he
        have HN : Hid (look kd tab = look kd (tab.drop (k + 1))) := by show _ = _; rw [HD.out]; simp [look, he]
        clear he
        go_wp2
        go_roundw
        case rel => exact ⟨k + 1, by omega, by go_num, hbw.alloc hbw.size _, HN⟩
        case measure => simp [intOf]; omega
    · have HN : Hid (look kd tab = none) := by
        show _ = _
        rw [HP.out, List.drop_of_length_le (by show 15 ≤ k; omega)]
        rfl
      go_wp2
      go_ret2
      rw [HN.out]
      exact ⟨hB.trans (hbw.mono hB.size), rfl⟩

end Go.Proofs.YtdplngplljejhaaDoor
