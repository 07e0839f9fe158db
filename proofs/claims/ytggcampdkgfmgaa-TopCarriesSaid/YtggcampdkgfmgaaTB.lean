import Derived.Test.YtggcampdkgfmgaaTA
import Derived.Deep.DeepCutAuto
namespace Go.Proofs.Ytggcampdkgfmgaa
open Go.RowKit

/-! Layer 17: the calls that don't reach the discipline. -/
def evs (gp : Int) (l : List Int) : List (Int × Int) := if gp = 0 then [] else l.map fun s => (gp, s)
def evV (E : List (Int × Int)) : List Value := (E.map fun x => [Value.int .i64 x.1, Value.int .i64 x.2]).flatten
theorem evV_append (a b : List (Int × Int)) : evV (a ++ b) = evV a ++ evV b := by simp [evV]
theorem evV_len (a : List (Int × Int)) : (evV a).length = a.length * 2 := by
  induction a with
  | nil => rfl
  | cons x r ih =>
    have : evV (x :: r) = [Value.int .i64 x.1, Value.int .i64 x.2] ++ evV r := rfl
    rw [this, List.length_append, ih, List.length_cons]
    simp
    omega
theorem evV_one (a : List (Int × Int)) : ∀ u ∈ evV a, u.oneCell' = true := by
  intro u hu
  simp only [evV, List.mem_flatten, List.mem_map] at hu
  obtain ⟨l, ⟨x, _, rfl⟩, h⟩ := hu
  simp at h
  rcases h with rfl | rfl <;> rfl
/-- Events in memory of the call's own. -/
def RetEv (T : TypeId) (w : World) (E : List (Int × Int)) (e : Ending) (w' : World) : Prop := ∃ A n c, e = .returned (.slice A n c) ∧ Hid (E.length = n) ∧ Hid (w'.ownsRow w.heap.size T 2 (.slice A n c) n (evV E)) ∧ Hid (Below w.heap.size w w')
/-- An event is put behind a row of the call's own. -/
theorem app_ev {ops : Array Oper} {rest : List Oper} {o : Oper} {a : Act} {Q : Exit → Act → World → Prop} (T E : TypeId) (hT : Try.prog.underlying T = some (.slice E)) (hE : (Try.prog.info? E).map (fun i => (i.zero, i.size, i.bytes)) = some (some (.agg #[.int .i64 0, .int .i64 0]), 2, 16)) (W : World) (hgd : o.guard = none) (s x : Operand) (ho : o.op = .call { callee := .builtin .append, args := #[s, x], argTypes := #[T, T] })
    (base n m c : Nat) (A : Option Addr) (xs ys : List (Int × Int)) (hs : a.eval s = .slice A n c) (hown : Hid (W.ownsRow base E 2 (.slice A n c) n (evV xs))) (hb : base ≤ W.heap.size) (A2 : Option Addr) (c2 : Nat) (hx : a.eval x = .slice A2 m c2) (hL : Hid (Lies W W.heap.size A2 (evV ys))) (hy : ys.length = m) (hm : n + m ≤ 4398046511104)
    (h : ∀ A' c' w', Hid (w'.ownsRow base E 2 (.slice A' (n + m) c') (n + m) (evV (xs ++ ys))) → Hid (Kept base [E] W w') → wpList Try.prog ops Q rest (a.put o.dst (.slice A' (n + m) c')) w') : wpList Try.prog ops Q (o :: rest) a W := by
  obtain ⟨i0, hi0, hz0, hz1, hz2⟩ := info_parts hE
  refine wpList_app _ hgd s x T ho base E i0 _ 2 16 hT hi0 hz0 hz1 hz2 rfl (by decide) A n c (evV xs) hs hown.out W.heap.size A2 m c2 (evV ys) hx (by rw [evV_len, hy]) hL.out (evV_one ys) (by unfold maxLen; omega) (by omega) hb ?_
  intro A3 c3 u2 ho2 hg2
  rw [← evV_append] at ho2
  have hk : Kept base [E] W u2 := (Kept.refl base [E] W).grown hg2 (fun k hk => by obtain ⟨a, cs, b⟩ := own_box hown.out k hk; exact ⟨a, E, cs, by simp, b⟩)
  exact h A3 c3 u2 (hid ho2) (hid hk)
theorem lies_ev (W : World) (T : TypeId) (x y : Int) : Hid (Lies (W.alloc (.cells #[.int .i64 x, .int .i64 y] T)) (W.alloc (.cells #[.int .i64 x, .int .i64 y] T)).heap.size (some ⟨W.heap.size, 0, none⟩) (evV [(x, y)])) := hid (by
  have := lies_lit W #[Value.int .i64 x, .int .i64 y] T
  rw [World.size_alloc]
  simpa [evV] using this)
theorem map_take {l : List Int} {k : Nat} {y gp : Int} (h : l[k]? = some y) : ((l.take k).map fun s => (gp, s)) ++ [(gp, y)] = (l.take (k + 1)).map fun s => (gp, s) := by
  obtain ⟨h1, h2⟩ := List.getElem?_eq_some_iff.1 h
  rw [List.take_succ_eq_append_getElem h1, h2]
  simp
section
variable {w0 w : World} {g p : Nat} {S0 S : Nat → Prop} {P : Ps}
set_option maxRecDepth 100000 in
theorem isThere_b (H : Hid (Py w0 g p S0 w S P)) : Calls Try.prog 30 #[.pointer (some ⟨g, 0, none⟩)] w fun e w' => e = .returned (.bool true) ∧ Hid (Below w.heap.size w w') := by
  have c0 := Py.cell (v := .pointer (some ⟨p, 0, none⟩)) H 0 rfl
  go_enter Try.func30, Try.ntmps30
  go_wp2_with fail
  go_ret
  exact ⟨rfl, hid (Below.refl _ _)⟩
def refE (P : Ps) : Int := if P.hu = true then 11 else 0
set_option maxRecDepth 100000 in
theorem refuses_b (H : Hid (Py w0 g p S0 w S P)) {b : Bool} (hb : P.hu = b) : Calls Try.prog 15 #[.pointer (some ⟨g, 0, none⟩)] w fun e w' => e = .returned (.int .i64 (if b = true then 11 else 0)) ∧ Hid (Below w.heap.size w w') := by
  have c8 := Py.cell H 8 (v := .bool b) (by rw [← hb]; rfl)
  cases b
  · go_enter Try.func15, Try.ntmps15
    go_wp2_with (first
      | (go_at_call 30
         (with_reducible refine (isThere_b H).mono ?_)
         rintro e w1 ⟨rfl, k1⟩
         have H1 := Py.bel H k1.out
         have c8 := Py.cell H1 8 (v := .bool false) (by rw [← hb]; rfl)))
    go_ret
    exact ⟨rfl, k1⟩
  · go_enter Try.func15, Try.ntmps15
    go_wp2_with (first
      | (go_at_call 30
         (with_reducible refine (isThere_b H).mono ?_)
         rintro e w1 ⟨rfl, k1⟩
         have H1 := Py.bel H k1.out
         have c8 := Py.cell H1 8 (v := .bool true) (by rw [← hb]; rfl)))
    go_ret
    exact ⟨rfl, k1⟩
theorem refuses_f (H : Hid (Py w0 g p S0 w S P)) (hb : P.hu = false) : Calls Try.prog 15 #[.pointer (some ⟨g, 0, none⟩)] w fun e w' => e = .returned (.int .i64 0) ∧ Hid (Below w.heap.size w w') := refuses_b H hb
theorem refuses_t (H : Hid (Py w0 g p S0 w S P)) (hb : P.hu = true) : Calls Try.prog 15 #[.pointer (some ⟨g, 0, none⟩)] w fun e w' => e = .returned (.int .i64 11) ∧ Hid (Below w.heap.size w w') := refuses_b H hb
set_option maxRecDepth 100000 in
theorem isOver_b (H : Hid (Py w0 g p S0 w S P)) (ht : P.d.t.Ok) {b : Bool} (hb : Hid ((decide (P.sl ≤ 0) && decide (P.d.out.length = 0)) = b)) : Calls Try.prog 20 #[.pointer (some ⟨g, 0, none⟩)] w fun e w' => e = .returned (.bool b) ∧ Hid (Below w.heap.size w w') := by
  obtain ⟨sl, hsl⟩ : ∃ x, Hid (P.sl = x) := ⟨_, hid rfl⟩
  obtain ⟨q, hq⟩ : ∃ x, Hid (P.d.out.length = x) := ⟨_, hid rfl⟩
  have c7 := Py.cell H 7 (v := .int .i64 sl) (by rw [← hsl.out]; rfl)
  have c0 := Py.cell (v := .pointer (some ⟨p, 0, none⟩)) H 0 rfl
  obtain ⟨h, Hd⟩ := H.out.at_.at_
  have c30 : w.cell? ⟨p, 30, none⟩ = some (.slice h.oA q h.oc) := (Box.cell Hd.box 30).trans ((tmV_back ht (j := 6) rfl).trans (by rw [hq.out]))
  rw [hsl.out, hq.out] at hb
  by_cases h1 : sl ≤ 0
  · by_cases h2 : q = 0
    · subst h2
      obtain rfl : true = b := by rw [← hb.out, decide_eq_true h1]; rfl
      go_enter Try.func20, Try.ntmps20
      go_wp2_with fail
      go_ret
      exact ⟨rfl, hid (Below.refl _ _)⟩
    · have h3 : ((q : Int) == 0) = false := beq_eq_false_iff_ne.2 (by omega)
      obtain rfl : false = b := by rw [← hb.out, decide_eq_true h1, decide_eq_false h2]; rfl
      go_enter Try.func20, Try.ntmps20
      go_wp2_with fail
      go_ret
      exact ⟨rfl, hid (Below.refl _ _)⟩
  · obtain rfl : false = b := by rw [← hb.out, decide_eq_false h1]; rfl
    go_enter Try.func20, Try.ntmps20
    go_wp2_with fail
    go_ret
    exact ⟨rfl, hid (Below.refl _ _)⟩
/-- What Open, Close, Bind, SetGroup make of a terminal, and answer. -/
def openP (P : Ps) : Ps × Int := if P.hu = true then (P, 11) else ({ P with sl := wrap64 (P.sl + 1) }, 0)
def closeP (P : Ps) : Ps × Int := if P.sl ≤ 0 then (P, 9) else ({ P with sl := wrap64 (P.sl - 1) }, 0)
def bindP (P : Ps) (s q : Int) : Ps × Int := if s ≤ 0 ∨ q ≤ 0 then (P, 2) else if P.ss = 0 then ({ P with ss := s, gp := q }, 0) else (P, 12)
def groupP (P : Ps) (q : Int) : Ps × Int := if q ≤ 0 then (P, 2) else if P.ss = 0 then (P, 9) else ({ P with gp := q }, 0)
set_option maxRecDepth 100000 in
theorem open_any (H : Hid (Py w0 g p S0 w S P)) {r : Ps × Int} (hr : Hid (openP P = r)) : Calls Try.prog 14 #[.pointer (some ⟨g, 0, none⟩)] w fun e w' => e = .returned (.int .i64 r.2) ∧ POut w0 g p S0 r.1 w' := by
  cases hb : P.hu
  · obtain rfl : ({ P with sl := wrap64 (P.sl + 1) }, 0) = r := by rw [← hr.out]; unfold openP; rw [hb]; rfl
    obtain ⟨sl, hsl⟩ : ∃ x, Hid (P.sl = x) := ⟨_, hid rfl⟩
    go_enter Try.func14, Try.ntmps14
    go_wp2_with (first
      | (go_at_call 15
         (with_reducible refine (refuses_f H hb).mono ?_)
         rintro e w1 ⟨rfl, k1⟩
         have H1 := Py.bel H k1.out
         have c7 := Py.cell H1 7 (v := .int .i64 sl) (by rw [← hsl.out]; rfl)
         have z7 := Py.fz H1 7
         have H2 := Py.store (P' := { P with sl := wrap64 (sl + 1) }) H1 7 (.int .i64 (wrap64 (sl + 1))) rfl rfl))
    go_ret
    exact ⟨rfl, by rw [hsl.out]; exact Py.done H2⟩
  · obtain rfl : (P, 11) = r := by rw [← hr.out]; unfold openP; rw [hb]; rfl
    go_enter Try.func14, Try.ntmps14
    go_wp2_with (first
      | (go_at_call 15
         (with_reducible refine (refuses_t H hb).mono ?_)
         rintro e w1 ⟨rfl, k1⟩
         have H1 := Py.bel H k1.out))
    go_ret
    exact ⟨rfl, Py.done H1⟩
end
end Go.Proofs.Ytggcampdkgfmgaa
