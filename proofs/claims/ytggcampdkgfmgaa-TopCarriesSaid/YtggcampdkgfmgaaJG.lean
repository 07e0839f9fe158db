import Derived.Test.YtggcampdkgfmgaaJF
import Derived.Deep.RegionHeld3
namespace Go.Proofs.Ytggcampdkgfmgaa.L12
open Go.RowKit

/-! The program's pen: a setting, a column and what went out, 26 cells in a row. -/
def penC (t : Tm) (N : Nat) (s : Value) : Array Value := (t.cl ++ [Value.int .i64 (N : Int), s]).toArray
section
variable {t : Tm}
theorem penC_size (h : t.c.length = 19) (N : Nat) (s : Value) : (penC t N s).size = 26 := by simp [penC, cl_len h]
theorem penC_24 (h : t.c.length = 19) (N : Nat) (s : Value) : (penC t N s)[24]? = some (.int .i64 (N : Int)) := by
  unfold penC
  rw [List.getElem?_toArray, List.getElem?_append_right (by rw [cl_len h]; exact Nat.le_refl _), cl_len h]
  rfl
theorem penC_25 (h : t.c.length = 19) (N : Nat) (s : Value) : (penC t N s)[25]? = some s := by
  unfold penC
  rw [List.getElem?_toArray, List.getElem?_append_right (by rw [cl_len h]; decide), cl_len h]
  rfl
theorem penC_front (N : Nat) (s : Value) (j : Nat) (v : Value) (hj : t.cl[j]? = some v) : (penC t N s)[j]? = some v := by
  have := (List.getElem?_eq_some_iff.1 hj).1
  unfold penC
  rw [List.getElem?_toArray, List.getElem?_append_left this, hj]
theorem penC_set (h : t.c.length = 19) (N M : Nat) (s : Value) : (penC t N s).setIfInBounds 24 (.int .i64 (M : Int)) = penC t M s := by
  unfold penC
  rw [List.setIfInBounds_toArray, List.set_append_right _ _ (by rw [cl_len h]; exact Nat.le_refl _), cl_len h]
  rfl
theorem penC_out (h : t.c.length = 19) (N : Nat) (s r : Value) : (penC t N s).setIfInBounds 25 r = penC t N r := by
  unfold penC
  rw [List.setIfInBounds_toArray, List.set_append_right _ _ (by rw [cl_len h]; decide), cl_len h]
  rfl
end
theorem penC_one (t : Tm) (N : Nat) {s : Value} (hs : s.oneCell' = true) : (penC t N s).all (·.oneCell') = true := by
  refine Array.all_eq_true_iff_forall_mem.2 fun v hv => ?_
  simp only [penC, List.mem_toArray, List.mem_append, List.mem_cons, List.not_mem_nil, or_false] at hv
  rcases hv with hv | rfl | rfl
  · have h1 := cs_one t
    rw [Array.all_eq_true_iff_forall_mem] at h1
    exact h1 v (by simpa [Tm.cs] using hv)
  · rfl
  · exact hs
theorem Try.size46 : (Try.prog.info? 66).map (·.size) = some 26 := by kernel_rfl
/-- Nothing went out. -/
def noV : Value := .slice none 0 0
def zeroP : Array Value := penC Tm.zero 0 noV
/-- A pen in memory. -/
def Pen (w : World) (g : Nat) (t : Tm) (N : Nat) (s : Value) : Prop := Box w g 66 (penC t N s)
section
variable {w w' : World} {g N : Nat} {t : Tm} {s : Value}
theorem Pen.cell (h : Pen w g t N s) (ht : t.c.length = 19) : w.cell? ⟨g, 24, none⟩ = some (.int .i64 (N : Int)) := (Box.cell h 24).trans (penC_24 ht N s)
theorem Pen.frozen (h : Pen w g t N s) : w.frozen? ⟨g, 24, none⟩ = false := Box.frozen h 24
theorem Pen.cell25 (h : Pen w g t N s) (ht : t.c.length = 19) : w.cell? ⟨g, 25, none⟩ = some s := (Box.cell h 25).trans (penC_25 ht N s)
theorem Pen.frozen25 (h : Pen w g t N s) : w.frozen? ⟨g, 25, none⟩ = false := Box.frozen h 25
theorem Pen.R (h : Pen w g t N s) (ht : t.c.length = 19) : isR w (.pointer (some ⟨g, 0, none⟩)) = true ∧ csR w (.pointer (some ⟨g, 0, none⟩)) = t.cs := front_R ht h (penC_front N s)
theorem Pen.bel (h : Pen w g t N s) (k : Below w.heap.size w w') : Pen w' g t N s := box_below h k
theorem Pen.store (h : Pen w g t N s) (ht : t.c.length = 19) (M : Nat) : Pen (w.setCell ⟨g, 24, none⟩ (.int .i64 (M : Int))) g t M s := by
  have := Box.store h 24 (.int .i64 (M : Int))
  rwa [penC_set ht] at this
theorem Pen.storeOut (h : Pen w g t N s) (ht : t.c.length = 19) (r : Value) : Pen (w.setCell ⟨g, 25, none⟩ r) g t N r := by
  have := Box.store h 25 r
  rwa [penC_out ht] at this
/-- What the pen's methods may turn: the pen. -/
theorem Pen.keptOut (h : Pen w g t N s) (v : Value) {B : Nat} (hB : B ≤ g) : Kept B [66] w (w.setCell ⟨g, 25, none⟩ v) := (Kept.refl B [66] w).store h hB (by simp) v
theorem Pen.kept (h : Pen w g t N s) (v : Value) {B : Nat} (hB : B ≤ g) : Kept B [66] w (w.setCell ⟨g, 24, none⟩ v) := (Kept.refl B [66] w).store h hB (by simp) v
end
theorem bel_p {w a b : World} {B : Nat} (h : Hid (Below w.heap.size w a)) (k : Hid (Kept B [66] a b)) (hB : w.heap.size ≤ B) : Hid (Below w.heap.size w b) :=
  hid (h.out.trans ((k.out.mono hB (fun _ h => h)).below h.out.size))
theorem kep_b {B : Nat} {a b c : World} (h : Hid (Kept B [66] a b)) (k : Below b.heap.size b c) : Hid (Kept B [66] a c) := hid (h.out.trans (Kept.of_below k B [66]))
theorem slb_p {a b : World} {B : Nat} {A : Option Addr} {c : Nat} {bs : List UInt8} (h : Hid (SlB a B A c bs)) (k : Hid (Kept B [66] a b)) (hB : B ≤ a.heap.size) : Hid (SlB b B A c bs) :=
  hid ⟨h.out.1, h.out.2.1, h.out.2.2.1, h.out.2.2.2.below (k.out.below hB)⟩
section
variable {ops : Array Oper} {rest : List Oper} {o : Oper} {a : Act} {w : World} {Q : Exit → Act → World → Prop}
/-- The pen's setting is loaded. -/
theorem ldP (hw : Region.wanted o (yielded ops a.tmps) = true) (x : Operand) (ho : o.op = .load 26 x) (g : Nat) (hx : a.eval x = .pointer (some ⟨g, 0, none⟩)) (t : Tm) (N : Nat) (s : Value) (hb : Hid (Pen w g t N s)) (ht : t.c.length = 19)
    (h : wpList Try.prog ops Q rest (a.put o.dst (.agg t.cs)) w) : wpList Try.prog ops Q (o :: rest) a w :=
  BigFrame.wpList_want hw fun _ hK => by
    have hr : w.rangeAt g 0 t.cl := fun j v hj => by
      rw [Nat.zero_add]
      exact (Box.cell hb.out j).trans (penC_front N s j v hj)
    unfold Oper.wp execOp
    simp only [ho, hx, Instr.loadAt, Instr.sureAddr, Sem.run_bind, Sem.run_pure, Result.andThen_ok, run_loadVar_mid (P := Try.prog) w g 0 26 t.cl _ hr Try.underlying26 rfl (by rw [cl_len ht]; exact Try.size26)]
    exact hK _ _ h
/-- A new variable of a pen's type takes one. -/
theorem snP (hw : Region.wanted o (yielded ops a.tmps) = true) (x y : Operand) (ho : o.op = .store 66 x y) (w0 : World) (cs : Array Value) (hs : cs.size = 26) (hw0 : w = w0.alloc (.cells cs 66)) (hx : a.eval x = .pointer (some ⟨w0.heap.size, 0, none⟩)) (t : Tm) (N : Nat) (ht : t.c.length = 19) (s : Value) (hs1 : s.oneCell' = true) (hy : a.eval y = .agg (penC t N s))
    (h : ∀ w', Hid (Pen w' w0.heap.size t N s) → Hid (Below w0.heap.size w0 w') → Hid (w0.heap.size < w'.heap.size) → wpList Try.prog ops Q rest (a.put o.dst undef) w') : wpList Try.prog ops Q (o :: rest) a w := by
  subst hw0
  refine BigFrame.wpList_want hw fun _ hK => wp_store_row 66 x y ho w0.heap.size (penC t N s) hx hy 66 cs (Box.new w0 66 cs) (by rw [penC_size ht]; exact Try.size46) (by rw [hs, penC_size ht]) (penC_one t N hs1) (hK _ _ (h _ (hid (setRow_heap _ _ cs _ 66 _ (Box.new w0 66 cs))) (hid ?_) (hid ?_)))
  · exact ((Below.refl _ w0).alloc (Nat.le_refl _) _).trans ((Turn.setRow _ w0.heap.size _).below (Nat.le_refl _))
  · rw [size_setRow]; simp
end
theorem list24 {l : List Value} (h : l.length = 24) : ∃ a b c d e f g i j k m n o p q r s t u v w x y z : Value, l = [a, b, c, d, e, f, g, i, j, k, m, n, o, p, q, r, s, t, u, v, w, x, y, z] :=
  match l, h with
  | [a, b, c, d, e, f, g, i, j, k, m, n, o, p, q, r, s, t, u, v, w, x, y, z], _ => ⟨a, b, c, d, e, f, g, i, j, k, m, n, o, p, q, r, s, t, u, v, w, x, y, z, rfl⟩
theorem built46 {cs : Array Value} (hs : cs.size = 24) (n : Int) : Try.prog.built 66 [(0, .agg cs), (1, .int .i64 n)] = some ((cs.push (.int .i64 n)).push noV) := by
  obtain ⟨l⟩ := cs
  have h : l.length = 24 := by simpa using hs
  obtain ⟨a, b, c, d, e, f, g, i, j, k, m, n2, o, p, q, r, s, t, u, v, w, x, y, z, rfl⟩ := list24 h
  show Try.prog.built 66 [(0, .agg [a, b, c, d, e, f, g, i, j, k, m, n2, o, p, q, r, s, t, u, v, w, x, y, z].toArray), (1, .int .i64 n)] = some (([a, b, c, d, e, f, g, i, j, k, m, n2, o, p, q, r, s, t, u, v, w, x, y, z].toArray.push (Value.int .i64 n)).push noV)
  kernel_rfl
theorem penC_push (t : Tm) (N : Nat) : (t.cs.push (.int .i64 (N : Int))).push noV = penC t N noV := by simp [penC, Tm.cs]
end Go.Proofs.Ytggcampdkgfmgaa.L12
namespace Go.Proofs.Ytggcampdkgfmgaa.L12
open Go.RowKit

set_option maxRecDepth 100000 in
theorem insidep_any (w : World) (col : Int) : Calls Try.prog 33 #[.int .i64 col] w fun e w' => e = .returned (.int .i64 (nrm col : Int)) ∧ w' = w := by
  by_cases h1 : col < 0
  · have hq : ((nrm col : Nat) : Int) = 0 := by unfold nrm; rw [if_pos (Or.inl h1)]; rfl
    rw [hq]
    go_enter Try.func33, Try.ntmps33
    go_wp2
    go_ret
    exact ⟨rfl, rfl⟩
  · by_cases h2 : 65535 < col
    · have hq : ((nrm col : Nat) : Int) = 0 := by unfold nrm; rw [if_pos (Or.inr h2)]; rfl
      rw [hq]
      go_enter Try.func33, Try.ntmps33
      go_wp2
      go_ret
      exact ⟨rfl, rfl⟩
    · have hq : ((nrm col : Nat) : Int) = col := by unfold nrm; rw [if_neg (by omega)]; omega
      rw [hq]
      go_enter Try.func33, Try.ntmps33
      go_wp2
      go_ret
      exact ⟨rfl, rfl⟩
theorem insidep_n (w : World) (n : Nat) (x : Int) (hx : x = (n : Int)) : Calls Try.prog 33 #[.int .i64 x] w fun e w' => e = .returned (.int .i64 (clampN n : Int)) ∧ w' = w := by
  subst hx
  have := insidep_any w (n : Int)
  rwa [nrm_clamp] at this
set_option maxRecDepth 100000 in
theorem isSmall_any (w : World) (c : UInt8) : Calls Try.prog 38 #[.int .u8 (c.toNat : Int)] w fun e w' => e = .returned (.bool (decide (97 ≤ c.toNat) && decide (c.toNat ≤ 122))) ∧ w' = w := by
  by_cases h1 : 97 ≤ c.toNat
  · have e1 : (97 : Int) ≤ (c.toNat : Int) := by omega
    by_cases h2 : c.toNat ≤ 122
    · have e2 : (c.toNat : Int) ≤ 122 := by omega
      rw [decide_eq_true h1, decide_eq_true h2]
      go_enter Try.func38, Try.ntmps38
      go_wp2
      go_ret
      exact ⟨rfl, rfl⟩
    · have e2 : ¬ (c.toNat : Int) ≤ 122 := by omega
      rw [decide_eq_true h1, decide_eq_false h2]
      go_enter Try.func38, Try.ntmps38
      go_wp2
      go_ret
      exact ⟨rfl, rfl⟩
  · have e1 : ¬ (97 : Int) ≤ (c.toNat : Int) := by omega
    rw [decide_eq_false h1]
    go_enter Try.func38, Try.ntmps38
    go_wp2
    go_ret
    exact ⟨rfl, rfl⟩
theorem isSmall_b (w : World) (c : UInt8) {b : Bool} (hb : (decide (97 ≤ c.toNat) && decide (c.toNat ≤ 122)) = b) : Calls Try.prog 38 #[.int .u8 (c.toNat : Int)] w fun e w' => e = .returned (.bool b) ∧ w' = w := by
  subst hb
  exact isSmall_any w c
set_option maxRecDepth 100000 in
theorem goesOn_any (w : World) (c : UInt8) : Calls Try.prog 60 #[.int .u8 (c.toNat : Int)] w fun e w' => e = .returned (.bool (decide (128 ≤ c.toNat) && decide (c.toNat ≤ 191))) ∧ w' = w := by
  by_cases h1 : 128 ≤ c.toNat
  · have e1 : (128 : Int) ≤ (c.toNat : Int) := by omega
    by_cases h2 : c.toNat ≤ 191
    · have e2 : (c.toNat : Int) ≤ 191 := by omega
      rw [decide_eq_true h1, decide_eq_true h2]
      go_enter Try.func60, Try.ntmps60
      go_wp2
      go_ret
      exact ⟨rfl, rfl⟩
    · have e2 : ¬ (c.toNat : Int) ≤ 191 := by omega
      rw [decide_eq_true h1, decide_eq_false h2]
      go_enter Try.func60, Try.ntmps60
      go_wp2
      go_ret
      exact ⟨rfl, rfl⟩
  · have e1 : ¬ (128 : Int) ≤ (c.toNat : Int) := by omega
    rw [decide_eq_false h1]
    go_enter Try.func60, Try.ntmps60
    go_wp2
    go_ret
    exact ⟨rfl, rfl⟩
theorem goesOn_b (w : World) (c : UInt8) {b : Bool} (hb : (decide (128 ≤ c.toNat) && decide (c.toNat ≤ 191)) = b) : Calls Try.prog 60 #[.int .u8 (c.toNat : Int)] w fun e w' => e = .returned (.bool b) ∧ w' = w := by
  subst hb
  exact goesOn_any w c
set_option maxRecDepth 100000 in
theorem hasp_b (w : World) {g N : Nat} {t : Tm} {s : Value} (hp : Hid (Pen w g t N s)) (ht : t.Ok) {op : Int} {b : Bool} (hb : hasN t.f op = b) : Calls Try.prog 34 #[.pointer (some ⟨g, 0, none⟩), .int .i64 op] w fun e w' => e = .returned (.bool b) ∧ Hid (Below w.heap.size w w') := by
  have hl := ht.len
  go_enter Try.func34, Try.ntmps34
  go_wp2_with (first
    | (refine ldP (by rfl) _ (by rfl) g (by rfl) t N s hp hl ?_)
    | (go_at_call 46
       (with_reducible refine (has_b _ ht hb).mono ?_)
       rintro e u1 ⟨rfl, k⟩))
  go_ret
  exact ⟨rfl, k⟩
/-- Whether a byte has a sign of its own. -/
def signP (u : Bool) (c : UInt8) : Bool := decide (32 ≤ c.toNat) && !decide (c.toNat = 127) && !(decide (128 ≤ c.toNat) && decide (c.toNat ≤ 191) && u)
set_option maxRecDepth 100000 in
set_option maxHeartbeats 2000000 in
theorem hasSign_any (w : World) {g N : Nat} {t : Tm} {s : Value} (hp : Hid (Pen w g t N s)) (ht : t.Ok) (c : UInt8) {u : Bool} (hu : hasN t.f 42 = u) : Calls Try.prog 55 #[.pointer (some ⟨g, 0, none⟩), .int .u8 (c.toNat : Int)] w fun e w' => e = .returned (.bool (signP u c)) ∧ Hid (Below w.heap.size w w') := by
  by_cases h1 : 32 ≤ c.toNat
  · have e1 : (32 : Int) ≤ (c.toNat : Int) := by omega
    by_cases h2 : c.toNat = 127
    · have hs : signP u c = false := by simp [signP, h2]
      have e2 : (c.toNat : Int) = 127 := by omega
      rw [hs, e2]
      clear e1
      go_enter Try.func55, Try.ntmps55
      go_wp2
      go_ret
      exact ⟨rfl, hid (Below.refl _ _)⟩
    · have e2 : (((c.toNat : Int)) != 127) = true := bne_iff_ne.2 (by omega)
      cases hg : (decide (128 ≤ c.toNat) && decide (c.toNat ≤ 191))
      · have hs : signP u c = true := by unfold signP; rw [decide_eq_true h1, decide_eq_false h2, hg]; rfl
        rw [hs]
        go_enter Try.func55, Try.ntmps55
        go_wp2_with (first
          | (go_at_call 60
             (with_reducible refine (goesOn_b _ c hg).mono ?_)
             rintro e u1 ⟨rfl, rfl⟩))
        go_ret
        exact ⟨rfl, hid (Below.refl _ _)⟩
      · have hs : signP u c = !u := by unfold signP; rw [decide_eq_true h1, decide_eq_false h2, hg]; rfl
        rw [hs]
        clear hs
        cases u
        · go_enter Try.func55, Try.ntmps55
          go_wp2_with (first
            | (go_at_call 60
               (with_reducible refine (goesOn_b _ c hg).mono ?_)
               rintro e u1 ⟨rfl, rfl⟩)
            | (go_at_call 34
               (with_reducible refine (hasp_b _ hp ht hu).mono ?_)
               rintro e u2 ⟨rfl, k2⟩))
          go_ret
          exact ⟨rfl, k2⟩
        · go_enter Try.func55, Try.ntmps55
          go_wp2_with (first
            | (go_at_call 60
               (with_reducible refine (goesOn_b _ c hg).mono ?_)
               rintro e u1 ⟨rfl, rfl⟩)
            | (go_at_call 34
               (with_reducible refine (hasp_b _ hp ht hu).mono ?_)
               rintro e u2 ⟨rfl, k2⟩))
          go_ret
          exact ⟨rfl, k2⟩
  · have e1 : ¬ (32 : Int) ≤ (c.toNat : Int) := by omega
    have hs : signP u c = false := by unfold signP; rw [decide_eq_false h1]; rfl
    rw [hs]
    go_enter Try.func55, Try.ntmps55
    go_wp2
    go_ret
    exact ⟨rfl, hid (Below.refl _ _)⟩
theorem hasSign_b (w : World) {g N : Nat} {t : Tm} {s : Value} (hp : Hid (Pen w g t N s)) (ht : t.Ok) (c : UInt8) {u b : Bool} (hu : hasN t.f 42 = u) (hb : signP u c = b) : Calls Try.prog 55 #[.pointer (some ⟨g, 0, none⟩), .int .u8 (c.toNat : Int)] w fun e w' => e = .returned (.bool b) ∧ Hid (Below w.heap.size w w') := by
  subst hb
  exact hasSign_any w hp ht c hu
end Go.Proofs.Ytggcampdkgfmgaa.L12
namespace Go.Proofs.Ytggcampdkgfmgaa.L12
open Go.RowKit

def isZ (w : World) (g : Nat) : Bool := match w.heap[g]? with
  | some (.cells cs t fr) => decide (t = 66) && decide (fr = (0, 0)) && decide (cs.size = 26)
  | _ => false
theorem isZ_box {w : World} {g : Nat} (h : isZ w g = true) : ∃ cs, Box w g 66 cs ∧ cs.size = 26 := by
  unfold isZ at h
  unfold Box
  split at h
  · rename_i cs t fr he
    simp only [Bool.and_eq_true, decide_eq_true_eq] at h
    obtain ⟨⟨rfl, rfl⟩, h3⟩ := h
    exact ⟨cs, he, h3⟩
  · cases h
theorem isZ_mk {w : World} {g : Nat} {cs : Array Value} (h : Box w g 66 cs) (hs : cs.size = 26) : isZ w g = true := by
  unfold Box at h
  unfold isZ
  rw [h]
  simp [hs]
def okP (v : Value) : Bool := isA v && decide ((aggV v).size = 26) && (aggV v).all (·.oneCell')
theorem okP_cs {t : Tm} (ht : t.c.length = 19) (N : Nat) {s : Value} (hs : s.oneCell' = true) : okP (.agg (penC t N s)) = true ∧ aggV (.agg (penC t N s)) = penC t N s := by
  refine ⟨?_, rfl⟩
  unfold okP
  show (true && decide ((penC t N s).size = 26) && (penC t N s).all (·.oneCell')) = true
  rw [penC_one t N hs, penC_size ht]
  rfl
theorem wp_stP {dst : Option Tmp} {x y : Operand} {ty : TypeId} {pos : String} {after : Array Edge} {gd : Option (Nat × Bool)} {a : Act} {w : World} {K : Act → World → Prop} {Q : Exit → Act → World → Prop} (h1 : isP (a.eval x) = true) (h2 : isZ w (blkV (a.eval x)) = true) (h3 : okP (a.eval y) = true) :
    Oper.wp Try.prog { dst, op := .store 66 x y, type := ty, pos, after, guard := gd } a w K Q = K (a.put dst undef) (w.setRow (blkV (a.eval x)) (aggV (a.eval y))) := by
  obtain ⟨old, hb, hs⟩ := isZ_box h2
  have hx := isP_eq h1
  unfold okP at h3
  simp only [Bool.and_eq_true, decide_eq_true_eq] at h3
  obtain ⟨⟨h4, h5⟩, h6⟩ := h3
  have hy := isA_eq h4
  generalize blkV (a.eval x) = g at *
  generalize aggV (a.eval y) = cs at *
  unfold Oper.wp execOp
  simp only [hx, hy, Instr.storeAt, Instr.sureAddr, Sem.run_bind, Sem.run_pure, Result.andThen_ok, run_storeVar_row (P := Try.prog) w g 66 66 _ cs hb (by rw [h5]; exact Try.size46) (by rw [hs, h5]) h6]
  rfl
/-- A pen is built of a setting and a column. -/
def bldV (x y : Value) : Array Value := ((aggV x).push y).push noV
def isI (v : Value) : Bool := match v with
  | .int .i64 _ => true
  | _ => false
def bldO (x y : Value) : Bool := isA x && decide ((aggV x).size = 24) && isI y
theorem bld_eq {t : Tm} (ht : t.c.length = 19) (N : Nat) : bldO (.agg t.cs) (.int .i64 (N : Int)) = true ∧ bldV (.agg t.cs) (.int .i64 (N : Int)) = penC t N noV := by
  refine ⟨?_, penC_push t N⟩
  unfold bldO
  show (true && decide (t.cs.size = 24) && true) = true
  rw [cs_size ht]
  rfl
theorem ex_bP {ev : Operand → Value} {w : World} {dst : Option Tmp} {x y : Operand} {ty : TypeId} {pos : String} {after : Array Edge} {gd : Option (Nat × Bool)} (h : bldO (ev x) (ev y) = true) :
    (execOp ev { dst, op := .build 66 #[(0, x), (1, y)], type := ty, pos, after, guard := gd }).run Try.prog w = .ok (.value (.agg (bldV (ev x) (ev y)))) w := by
  unfold bldO at h
  simp only [Bool.and_eq_true, decide_eq_true_eq] at h
  obtain ⟨⟨h1, h2⟩, h3⟩ := h
  have hx := isA_eq h1
  obtain ⟨n, hy⟩ : ∃ n, ev y = .int .i64 n := by
    unfold isI at h3
    split at h3
    · rename_i n he
      exact ⟨n, he⟩
    · cases h3
  have h4 := run_build (P := Try.prog) w 66 #[(0, .agg (aggV (ev x))), (1, .int .i64 n)] _ (built46 h2 n)
  unfold execOp bldV
  rw [hy]
  simp only [List.map_toArray, List.map_cons, List.map_nil, Sem.run_bind, hy]
  rw [hx, h4]
  rfl
theorem wp_bP {dst : Option Tmp} {x y : Operand} {ty : TypeId} {pos : String} {after : Array Edge} {gd : Option (Nat × Bool)} {a : Act} {w : World} {K : Act → World → Prop} {Q : Exit → Act → World → Prop} (h : bldO (a.eval x) (a.eval y) = true) :
    Oper.wp Try.prog { dst, op := .build 66 #[(0, x), (1, y)], type := ty, pos, after, guard := gd } a w K Q = K (a.put dst (.agg (bldV (a.eval x) (a.eval y)))) w := by
  unfold Oper.wp
  rw [ex_bP h]
  rfl
theorem results46 {fn : Func} {p : Tmp} (h : fn.results = #[.cell p 66]) (tmps : Array Value) (w : World) (g : Nat) (t : Tm) (N : Nat) (s : Value) (ht : t.c.length = 19)
    (hp : tmps.getD p undef = .pointer (some ⟨g, 0, none⟩)) (hb : Box w g 66 (penC t N s)) : (results fn tmps).run Try.prog w = .ok (.agg (penC t N s)) w :=
  results_cell_row h tmps w g 66 (penC t N s) (0, 0) _ hp hb Try.underlying66 rfl (by rw [penC_size ht]; exact Try.size46)
attribute [local go_sem ↓] ex_ld26 wp_ld26 wp_stP wp_bP ex_bP
attribute [local go_sem] isP_v blkV_v aggV_v
set_option maxRecDepth 100000 in
set_option maxHeartbeats 2000000 in
theorem at_any (w : World) {t : Tm} (ht : t.Ok) (col : Int) {M : Nat} (hM : Hid (nrm col = M)) : Calls Try.prog 21 #[.agg t.cs, .int .i64 col] w fun e w' => e = .returned (.agg (penC t M noV)) ∧ Hid (Below w.heap.size w w') := by
  have hs := cs_size ht.len
  have K0 := old26 w t
  obtain ⟨q1, q2⟩ := bld_eq ht.len M
  obtain ⟨q3, q4⟩ := okP_cs ht.len M (s := noV) rfl
  have HZ : Hid (zeroP.size = 26) := hid (penC_size rfl 0 noV)
  go_enter Try.func21, Try.ntmps21
  go_wp2_with (first
    | (refine bx26 (by rfl) _ (by rfl) _ (by rfl) hs ?_
       intro G0))
  have hgB : isB ((w.alloc (.cells t.cs 26)).alloc (.cells zeroP 66)) w.heap.size = true ∧ cs26 ((w.alloc (.cells t.cs 26)).alloc (.cells zeroP 66)) w.heap.size = t.cs := ⟨isB_mk (box_al G0.out) hs, cs26_of (box_al G0.out)⟩
  have hgZ : isZ ((w.alloc (.cells t.cs 26)).alloc (.cells zeroP 66)) (w.heap.size + 1) = true := isZ_mk (cs := zeroP) (box_nw (by simp)) HZ.out
  have hgK : Hid (Below w.heap.size w ((w.alloc (.cells t.cs 26)).alloc (.cells zeroP 66))) := hid (K0.out.alloc K0.out.size _)
  have hz : zeroP = #[.int .u8 0, .int .u8 0, .int .u8 0, .int .u8 0, .int .u8 0, .int .u8 0, .int .u8 0, .int .u8 0, .int .u8 0, .int .u8 0, .int .u8 0, .int .u8 0, .int .u8 0, .int .u8 0, .int .u8 0, .int .u8 0, .int .u8 0, .int .u8 0, .int .u8 0, .int .u64 0, .int .u32 0, .int .u32 0, .int .i64 0, .int .i64 0, .int .i64 0, .slice none 0 0] := rfl
  rw [hz] at hgB hgZ hgK
  clear hz HZ K0 G0 hs
  generalize World.alloc (World.alloc w _) _ = u at hgB hgZ hgK ⊢
  obtain ⟨b1, b2⟩ := hgB
  have b1 : isB u.drew w.heap.size = true := b1
  have b2 : cs26 u.drew w.heap.size = t.cs := b2
  have hgZ : isZ u.drew (w.heap.size + 1) = true := hgZ
  go_region_law (first | (go_simp; go_at_call 33; (with_reducible refine (insidep_any _ col).mono ?_); rintro e u2 ⟨rfl, rfl⟩; rw [hM.out]))
  all_goals
    obtain ⟨old, zb, zs⟩ := isZ_box hgZ
    have HP : Hid (Box (u.drew.setRow (w.heap.size + 1) (penC t M noV)) (w.heap.size + 1) 66 (penC t M noV)) := hid (setRow_heap _ _ old _ 66 _ zb)
    have HK : Hid (Below w.heap.size w (u.drew.setRow (w.heap.size + 1) (penC t M noV))) := hid (hgK.out.drew.trans ((Turn.setRow _ _ _).below (by omega)))
    clear zb zs hgZ b1 b2 hgK q1 q2 q3 q4
    generalize World.setRow _ _ _ = u5 at HP HK ⊢
    go_wp2
    refine bodyPost_ret (results46 rfl _ _ _ t M noV ht.len rfl HP.out) rfl ?_
    exact ⟨rfl, HK⟩
def MovP (w : World) (g : Nat) (t : Tm) (M : Nat) (s : Value) (e : Ending) (w' : World) : Prop := e = .returned (.tuple #[]) ∧ Hid (Pen w' g t M s) ∧ Hid (Kept g [66] w w')
theorem pen_st {w u : World} {g N M : Nat} {t : Tm} {s : Value} {x : Int} (hp : Hid (Pen u g t N s)) (ht : t.c.length = 19) (hk : Hid (Kept g [66] w u)) (hx : x = (M : Int)) : Hid (Pen (u.setCell ⟨g, 24, none⟩ (.int .i64 x)) g t M s) ∧ Hid (Kept g [66] w (u.setCell ⟨g, 24, none⟩ (.int .i64 x))) := by
  subst hx
  exact ⟨hid (hp.out.store ht M), hid (hk.out.trans (hp.out.kept _ (Nat.le_refl _)))⟩
set_option maxRecDepth 100000 in
set_option maxHeartbeats 4000000 in
theorem move_any (w : World) {g N M : Nat} {t : Tm} {s : Value} (hp : Hid (Pen w g t N s)) (hN : N ≤ 65535) (ht : t.Ok) (c : UInt8) {v : Bool} (hs42 : hasN t.f 42 = v) (hM : Hid (movedN v N c = M)) :
    Calls Try.prog 47 #[.pointer (some ⟨g, 0, none⟩), .int .u8 (c.toNat : Int)] w (MovP w g t M s) := by
  have hl := ht.len
  have cn := hp.out.cell hl
  have cf := hp.out.frozen
  have K0 : Hid (Kept g [66] w w) := hid (Kept.refl _ _ _)
  by_cases h9 : c.toNat = 9
  · have e9 : (c.toNat : Int) = 9 := by omega
    have hm9 : clampN ((N / 8 + 1) * 8) = M := by rw [← hM.out]; exact (movedN_9 h9).symm
    rw [e9]
    have cn1 : w.drew.cell? ⟨g, 24, none⟩ = some (.int .i64 (N : Int)) := cn
    have cf1 : w.drew.frozen? ⟨g, 24, none⟩ = false := cf
    have htm : (N : Int).tmod 8 = ((N % 8 : Nat) : Int) := by rw [Int.tmod_eq_emod_of_nonneg (by omega)]; omega
    obtain ⟨r, hr⟩ : ∃ r, N % 8 = r := ⟨_, rfl⟩
    rw [hr] at htm
    have hr8 : r < 8 := by omega
    have hrN : r ≤ N := by omega
    have hw1 : IntKind.i64.wrap ((N : Int) - (r : Int)) = (N : Int) - (r : Int) := by rw [IntKind.wrap_i64]; omega
    have hw2 : IntKind.i64.wrap ((N : Int) - (r : Int) + 8) = (N : Int) - (r : Int) + 8 := by rw [IntKind.wrap_i64]; omega
    have hx : Hid ((N : Int) - (r : Int) + 8 = (((N / 8 + 1) * 8 : Nat) : Int)) := hid (by omega)
    clear hr hr8 hrN
    go_enter Try.func47, Try.ntmps47
    go_wp2
    go_region_law (first
      | (go_simp
         go_at_call 33
         (with_reducible refine (insidep_n _ ((N / 8 + 1) * 8) _ hx.out).mono ?_)
         rintro e u2 ⟨rfl, rfl⟩
         rw [hm9]))
    all_goals
      obtain ⟨HP, HK⟩ := pen_st (u := w) hp hl K0 (rfl : (M : Int) = _)
      have HK2 := hid HK.out.drew
      go_wp2
      go_end0
      exact ⟨rfl, HP, HK2⟩
  · by_cases h8 : c.toNat = 8
    · have e8 : (c.toNat : Int) = 8 := by omega
      have hm8 : N - 1 = M := by rw [← hM.out]; exact (movedN_8 h8).symm
      rw [e8]
      by_cases h0 : N = 0
      · subst h0
        have hm0 : 0 = M := by omega
        subst hm0
        obtain ⟨HP, HK⟩ := pen_st (u := w) hp hl K0 (show (0 : Int) = ((0 : Nat) : Int) by omega)
        go_enter Try.func47, Try.ntmps47
        go_wp2
        all_goals
          go_end0
          exact ⟨rfl, HP, HK⟩
      · have h1 : ¬ (N : Int) - 1 < 0 := by omega
        have h2 : (0 : Int) < (N : Int) - 1 ∨ True := Or.inr trivial
        obtain ⟨HP, HK⟩ := pen_st (u := w) hp hl K0 (show (N : Int) - 1 = (M : Int) by omega)
        go_enter Try.func47, Try.ntmps47
        go_wp2
        all_goals
          go_end0
          exact ⟨rfl, HP, HK⟩
    · by_cases h13 : c.toNat = 13
      · have e13 : (c.toNat : Int) = 13 := by omega
        obtain rfl : M = 0 := by rw [← hM.out]; exact movedN_13 h13
        obtain ⟨HP, HK⟩ := pen_st (u := w) hp hl K0 (show (0 : Int) = ((0 : Nat) : Int) by omega)
        rw [e13]
        go_enter Try.func47, Try.ntmps47
        go_wp2
        go_end0
        exact ⟨rfl, HP, HK⟩
      · have k9 : (((c.toNat : Int)) == 9) = false := beq_eq_false_iff_ne.2 (by omega)
        have k8 : (((c.toNat : Int)) == 8) = false := beq_eq_false_iff_ne.2 (by omega)
        have k13 : (((c.toNat : Int)) == 13) = false := beq_eq_false_iff_ne.2 (by omega)
        cases hsg : signP v c
        · have hmN : N = M := by
            rw [← hM.out]
            by_cases hc : c.toNat < 32 ∨ c.toNat = 127
            · exact (movedN_ctl h9 h8 h13 hc).symm
            · unfold signP at hsg
              rw [decide_eq_true (show 32 ≤ c.toNat by omega), decide_eq_false (show ¬ c.toNat = 127 by omega)] at hsg
              simp at hsg
              obtain ⟨⟨h1, h2⟩, rfl⟩ := hsg
              exact (movedN_cont hc h1 h2).symm
          go_enter Try.func47, Try.ntmps47
          go_wp2_with (first
            | (go_at_call 55
               (with_reducible refine (hasSign_b _ hp ht c hs42 hsg).mono ?_)
               rintro e u1 ⟨rfl, k1⟩))
          go_end0
          subst hmN
          exact ⟨rfl, hid (hp.out.bel k1.out), kep_b K0 k1.out⟩
        · have hmN : clampN (N + 1) = M := by
            rw [← hM.out]
            have h1 := hsg
            unfold signP at h1
            simp at h1
            refine (movedN_one (by omega) ?_).symm
            rintro ⟨rfl, h2, h3⟩
            have := h1.2
            simp at this
            omega
          have hx := hid (show (N : Int) + 1 = ((N + 1 : Nat) : Int) by omega)
          have hw1 : IntKind.i64.wrap ((N : Int) + 1) = (N : Int) + 1 := by rw [IntKind.wrap_i64]; omega
          go_enter Try.func47, Try.ntmps47
          go_wp2_with (first
            | (go_at_call 55
               (with_reducible refine (hasSign_b _ hp ht c hs42 hsg).mono ?_)
               rintro e u1 ⟨rfl, k1⟩
               have P1 := hid (hp.out.bel k1.out)
               have K1 := kep_b K0 k1.out
               have cn1 := P1.out.cell hl
               have cf1 := P1.out.frozen)
            | (go_at_call 33
               (with_reducible refine (insidep_n _ (N + 1) _ hx.out).mono ?_)
               rintro e u2 ⟨rfl, rfl⟩
               rw [hmN]))
          obtain ⟨HP, HK⟩ := pen_st P1 hl K1 (rfl : (M : Int) = _)
          go_end0
          exact ⟨rfl, HP, HK⟩
end Go.Proofs.Ytggcampdkgfmgaa.L12
namespace Go.Proofs.Ytggcampdkgfmgaa.L12
open Go.RowKit

/-- The pen has let these bytes go out, and stands at this column. -/
structure St (w : World) (B g : Nat) (t : Tm) (N : Nat) (xs : List UInt8) (A : Option Addr) (n c : Nat) : Prop where
  len : xs.length = n
  pen : Pen w g t N (.slice A n c)
  own : w.ownsRow B 5 1 (.slice A n c) n (bv xs)
theorem St.up {w w' : World} {B g N n c : Nat} {t : Tm} {xs : List UInt8} {A : Option Addr} (h : Hid (St w B g t N xs A n c)) (k : Hid (Below w.heap.size w w')) : Hid (St w' B g t N xs A n c) :=
  hid ⟨h.out.len, h.out.pen.bel k.out, own_keep h.out.own k.out⟩
/-- A method of the pen has let these bytes go out in all; it stands at this column. -/
def RetS (w : World) (B g : Nat) (t : Tm) (xs : List UInt8) (M : Nat) (e : Ending) (w' : World) : Prop := e = .returned (.tuple #[]) ∧ ∃ A n c, Hid (St w' B g t M xs A n c) ∧ Hid (Below B w w')
theorem bel_s {w a b : World} {B : Nat} (h : Hid (Below B w a)) (k : Hid (Below a.heap.size a b)) (hB : B ≤ a.heap.size) : Hid (Below B w b) := hid (h.out.trans (k.out.mono hB))
theorem bel_z (w : World) (B : Nat) : Hid (Below B w w) := hid (Below.refl _ _)
theorem St.lt {w : World} {B g N n c : Nat} {t : Tm} {xs : List UInt8} {A : Option Addr} (h : Hid (St w B g t N xs A n c)) (hB : B ≤ g) : B ≤ w.heap.size := by have := Box.lt h.out.pen; omega
theorem St.eq {w : World} {B g N n c : Nat} {t : Tm} {xs ys : List UInt8} {A : Option Addr} (h : Hid (St w B g t N xs A n c)) (he : xs = ys) : Hid (St w B g t N ys A n c) := by rwa [he] at h
theorem St.col {w : World} {B g N M n c : Nat} {t : Tm} {xs : List UInt8} {A : Option Addr} {x : Int} (h : Hid (St w B g t N xs A n c)) (ht : t.c.length = 19) (hB : B ≤ g) (hx : x = (M : Int)) : Hid (St (w.setCell ⟨g, 24, none⟩ (.int .i64 x)) B g t M xs A n c) ∧ Hid (Below B w (w.setCell ⟨g, 24, none⟩ (.int .i64 x))) := by
  subst hx
  have k := h.out.pen.kept (.int .i64 (M : Int)) (Nat.le_refl _)
  exact ⟨hid ⟨h.out.len, h.out.pen.store ht M, k.own h.out.own (by decide)⟩, hid ((k.mono hB (fun _ h => h)).below (St.lt h hB))⟩
theorem st_moved {w u v : World} {B g N M n c : Nat} {t : Tm} {ys : List UInt8} {A A0 : Option Addr} {n0 c0 : Nat} (_hl : t.c.length = 19) (hB : B ≤ g) (hP : Hid (Pen u g t N (.slice A0 n0 c0))) (hy : ys.length = n) (hO : Hid (u.ownsRow B 5 1 (.slice A n c) n (bv ys))) (hb : Hid (Below B w u)) (P4 : Hid (Pen v g t M (.slice A n c))) (K4 : Hid (Kept g [66] (u.setCell ⟨g, 25, none⟩ (.slice A n c)) v)) : Hid (St v B g t M ys A n c) ∧ Hid (Below B w v) := by
  have k3 := hP.out.keptOut (.slice A n c) (Nat.le_refl _)
  have k := k3.trans K4.out
  refine ⟨hid ⟨hy, P4.out, k.own hO.out (by decide)⟩, hid (hb.out.trans ((k.mono hB (fun _ h => h)).below ?_))⟩
  have := Box.lt hP.out
  omega
section
variable {w : World} {B g N M n c : Nat} {t : Tm} {xs : List UInt8} {A : Option Addr}
set_option maxRecDepth 100000 in
set_option maxHeartbeats 1000000 in
theorem put_any (hs : Hid (St w B g t N xs A n c)) (hB : B ≤ g) (hm : n ≤ 900000) (hN : N ≤ 65535) (ht : t.Ok) (d : UInt8) {v : Bool} (hs42 : hasN t.f 42 = v) {x : List UInt8} (hM : Hid ((([d] : List UInt8), movedN v N d) = (x, M))) :
    Calls Try.prog 35 #[.pointer (some ⟨g, 0, none⟩), .int .u8 (d.toNat : Int)] w (RetS w B g t (xs ++ x) M) := by
  obtain ⟨rfl, hmv⟩ : [d] = x ∧ movedN v N d = M := by
    have := hM.out
    injection this with h1 h2
    exact ⟨h1, h2⟩
  have hl := ht.len
  have cn := hs.out.pen.cell25 hl
  have hgz := St.lt hs hB
  have k1 : Hid (Below w.heap.size w (w.alloc (.cells #[.int .u8 (d.toNat : Int)] 5))) := hid ((Below.refl _ w).alloc (Nat.le_refl _) _)
  have s1 := St.up hs k1
  have O1 := hid s1.out.own
  have P1 := hid s1.out.pen
  have S1 : Hid (SlB (w.alloc (.cells #[.int .u8 (d.toNat : Int)] 5)) (w.alloc (.cells #[.int .u8 (d.toNat : Int)] 5)).heap.size (some ⟨w.heap.size, 0, none⟩) 1 [d]) := hid (slb_lit w [d] 1 #[.int .u8 (d.toNat : Int)] rfl rfl (by decide))
  have hz1 : B ≤ (w.alloc (.cells #[.int .u8 (d.toNat : Int)] 5)).heap.size := Nat.le_trans hgz k1.out.size
  have hlen : Hid ((xs ++ [d]).length = n + 1) := hid (by rw [List.length_append, hs.out.len]; rfl)
  have b1 : Hid (Below B w (w.alloc (.cells #[.int .u8 (d.toNat : Int)] 5))) := hid (k1.out.mono hgz)
  clear s1 hs k1
  go_enter Try.func35, Try.ntmps35
  go_wp2_with (first
    | (at_builtin
       (refine app_own (w.alloc (.cells #[.int .u8 (d.toNat : Int)] 5)) (by rfl) (.tmp 8) (.tmp 10) rfl B n c A xs rfl O1 hz1 (some ⟨w.heap.size, 0, none⟩) 1 1 [d] rfl S1 rfl (by omega) ?_)
       intro A3 c3 u1 O2 k2
       have P2 := hid (k2.out.box P1.out (by decide))
       have b2 : Hid (Below B w u1) := hid (b1.out.trans (k2.out.below hz1))
       have cn2 := Pen.cell25 P2.out hl
       have cf2 := Pen.frozen25 P2.out
       have P3 : Hid (Pen (u1.setCell ⟨g, 25, none⟩ (.slice A3 (n + 1) c3)) g t N (.slice A3 (n + 1) c3)) := hid (Pen.storeOut P2.out hl _)
       clear k2)
    | (go_at_call 47
       (with_reducible refine (move_any _ P3 hN ht d hs42 (hid hmv)).mono ?_)
       rintro e u2 ⟨rfl, P4, K4⟩))
  go_end0
  obtain ⟨h1, h2⟩ := st_moved hl hB P2 hlen.out O2 b2 P4 K4
  exact ⟨rfl, A3, n + 1, c3, h1, h2⟩
theorem put_lit (hs : Hid (St w B g t N xs A n c)) (hB : B ≤ g) (hm : n ≤ 900000) (hN : N ≤ 65535) (ht : t.Ok) (d : UInt8) {v : Bool} (hs42 : hasN t.f 42 = v) {x : List UInt8} (hM : Hid ((([d] : List UInt8), movedN v N d) = (x, M))) {i : Int} (hi : i = (d.toNat : Int)) :
    Calls Try.prog 35 #[.pointer (some ⟨g, 0, none⟩), .int .u8 i] w (RetS w B g t (xs ++ x) M) := by
  subst hi
  exact put_any hs hB hm hN ht d hs42 hM
theorem put13 (hs : Hid (St w B g t N xs A n c)) (hB : B ≤ g) (hm : n ≤ 900000) (hN : N ≤ 65535) (ht : t.Ok) {v : Bool} (hs42 : hasN t.f 42 = v) {x : List UInt8} (hM : Hid ((([13] : List UInt8), movedN v N 13) = (x, M))) :
    Calls Try.prog 35 #[.pointer (some ⟨g, 0, none⟩), .int .u8 13] w (RetS w B g t (xs ++ x) M) := put_any hs hB hm hN ht 13 hs42 hM
theorem put10 (hs : Hid (St w B g t N xs A n c)) (hB : B ≤ g) (hm : n ≤ 900000) (hN : N ≤ 65535) (ht : t.Ok) {v : Bool} (hs42 : hasN t.f 42 = v) :
    Calls Try.prog 35 #[.pointer (some ⟨g, 0, none⟩), .int .u8 10] w (RetS w B g t (xs ++ [10]) N) := put_any hs hB hm hN ht 10 hs42 (hid (by rw [movedN_ctl (by decide) (by decide) (by decide) (Or.inl (by decide))]))
set_option maxRecDepth 100000 in
theorem feed_any (hs : Hid (St w B g t N xs A n c)) (hB : B ≤ g) (hm : n ≤ 900000) (hN : N ≤ 65535) (ht : t.Ok) {f : PoF} (hf : Hid (poF t = f)) {x : List UInt8} (hM : Hid (nlP f N = (x, M))) :
    Calls Try.prog 48 #[.pointer (some ⟨g, 0, none⟩)] w (RetS w B g t (xs ++ x) M) := by
  have hl := ht.len
  have B0 := bel_z w B
  have h42 : Hid (hasN t.f 42 = f.u) := hid (by rw [← hf.out]; rfl)
  have hgz := St.lt hs hB
  cases h75 : hasN t.f 75
  · obtain ⟨rfl, rfl⟩ : [10] = x ∧ N = M := by
      have h1 := nlP_no (f := f) (N := N) (by rw [← hf.out]; exact h75)
      have := h1.symm.trans hM.out
      injection this with h1 h2
      exact ⟨h1, h2⟩
    go_enter Try.func48, Try.ntmps48
    go_wp2_with (first
      | (go_at_call 35
         (with_reducible refine (put10 hs hB hm hN ht h42.out).mono ?_)
         rintro e u1 ⟨rfl, A1, n1, c1, s1, B1⟩
         have hgz := St.lt s1 hB)
      | (go_at_call 34
         (with_reducible refine (hasp_b _ (hid s1.out.pen) ht h75).mono ?_)
         rintro e u2 ⟨rfl, k2⟩
         have s2 := St.up s1 k2
         have B2 := bel_s B1 k2 hgz))
    go_end0
    exact ⟨rfl, A1, n1, c1, s2, B2⟩
  · obtain ⟨rfl, rfl⟩ : [10] = x ∧ 0 = M := by
      have h1 := nlP_ret (f := f) (N := N) (by rw [← hf.out]; exact h75)
      have := h1.symm.trans hM.out
      injection this with h1 h2
      exact ⟨h1, h2⟩
    go_enter Try.func48, Try.ntmps48
    go_wp2_with (first
      | (go_at_call 35
         (with_reducible refine (put10 hs hB hm hN ht h42.out).mono ?_)
         rintro e u1 ⟨rfl, A1, n1, c1, s1, B1⟩
         have hgz := St.lt s1 hB)
      | (go_at_call 34
         (with_reducible refine (hasp_b _ (hid s1.out.pen) ht h75).mono ?_)
         rintro e u2 ⟨rfl, k2⟩
         have s2 := St.up s1 k2
         have B2 := bel_s B1 k2 hgz
         have cn1 := s2.out.pen.cell hl
         have cf1 := s2.out.pen.frozen))
    obtain ⟨h1, h2⟩ := St.col s2 hl hB (show (0 : Int) = ((0 : Nat) : Int) by omega)
    go_end0
    exact ⟨rfl, A1, n1, c1, h1, hid (B2.out.trans h2.out)⟩
set_option maxRecDepth 100000 in
theorem endLine_any (hs : Hid (St w B g t N xs A n c)) (hB : B ≤ g) (hm : n ≤ 800000) (hN : N ≤ 65535) (ht : t.Ok) {f : PoF} (hf : Hid (poF t = f)) {x : List UInt8} (hM : Hid ((if f.nlcr = true then ([13, 10], 0) else nlP f N) = (x, M))) :
    Calls Try.prog 36 #[.pointer (some ⟨g, 0, none⟩)] w (RetS w B g t (xs ++ x) M) := by
  have hl := ht.len
  have B0 := bel_z w B
  have h42 : Hid (hasN t.f 42 = f.u) := hid (by rw [← hf.out]; rfl)
  have hgz := St.lt hs hB
  cases h72 : hasN t.f 72
  · have hn : Hid (nlP f N = (x, M)) := hid (by
      have := hM.out
      rwa [if_neg (by rw [← hf.out]; show ¬ hasN t.f 72 = true; rw [h72]; decide)] at this)
    go_enter Try.func36, Try.ntmps36
    go_wp2_with (first
      | (go_at_call 34
         (with_reducible refine (hasp_b _ (hid hs.out.pen) ht h72).mono ?_)
         rintro e u1 ⟨rfl, k1⟩
         have s1 := St.up hs k1
         have B1 := bel_s B0 k1 hgz)
      | (go_at_call 48
         (with_reducible refine (feed_any s1 hB (by omega) hN ht hf hn).mono ?_)
         rintro e u2 ⟨rfl, A2, n2, c2, s2, B2⟩))
    go_end0
    exact ⟨rfl, A2, n2, c2, s2, hid (B1.out.trans B2.out)⟩
  · obtain ⟨rfl, rfl⟩ : [13, 10] = x ∧ 0 = M := by
      have := hM.out
      rw [if_pos (by rw [← hf.out]; exact h72)] at this
      injection this with h1 h2
      exact ⟨h1, h2⟩
    have hn : Hid (nlP f 0 = ([10], 0)) := hid (by unfold nlP; split <;> rfl)
    have h13 : Hid ((([13] : List UInt8), movedN f.u N 13) = ([13], 0)) := hid (by rw [movedN_13 rfl])
    go_enter Try.func36, Try.ntmps36
    go_wp2_with (first
      | (go_at_call 34
         (with_reducible refine (hasp_b _ (hid hs.out.pen) ht h72).mono ?_)
         rintro e u1 ⟨rfl, k1⟩
         have s1 := St.up hs k1
         have B1 := bel_s B0 k1 hgz)
      | (go_at_call 35
         (with_reducible refine (put13 s1 hB (by omega) hN ht h42.out h13).mono ?_)
         rintro e u2 ⟨rfl, A2, n2, c2, s2, B2⟩
         have hn2 : n2 ≤ 900000 := by
           have := s2.out.len
           have := s1.out.len
           simp only [List.length_append, List.length_singleton] at *
           omega)
      | (go_at_call 48
         (with_reducible refine (feed_any s2 hB hn2 (Nat.zero_le _) ht hf hn).mono ?_)
         rintro e u3 ⟨rfl, A3, n3, c3, s3, B3⟩))
    go_end0
    exact ⟨rfl, A3, n3, c3, St.eq s3 (by rw [List.append_assoc]; rfl), hid (B1.out.trans (B2.out.trans B3.out))⟩
set_option maxRecDepth 100000 in
set_option maxHeartbeats 1000000 in
theorem goBack_any (hs : Hid (St w B g t N xs A n c)) (hB : B ≤ g) (hm : n ≤ 800000) (hN : N ≤ 65535) (ht : t.Ok) {f : PoF} (hf : Hid (poF t = f)) {x : List UInt8} (hM : Hid ((if f.nocr = true ∧ N = 0 then ([], 0) else if f.crnl = false then ([13], 0) else nlP f N) = (x, M))) :
    Calls Try.prog 37 #[.pointer (some ⟨g, 0, none⟩)] w (RetS w B g t (xs ++ x) M) := by
  have hl := ht.len
  have B0 := bel_z w B
  have hgz := St.lt hs hB
  have h42 : Hid (hasN t.f 42 = f.u) := hid (by rw [← hf.out]; rfl)
  have cn := hs.out.pen.cell hl
  have fn : f.nocr = hasN t.f 74 := by rw [← hf.out]; rfl
  have fc : f.crnl = hasN t.f 73 := by rw [← hf.out]; rfl
  have q13 : movedN f.u N 13 = 0 := movedN_13 rfl
  by_cases h0 : N = 0
  · subst h0
    cases h74 : hasN t.f 74
    · cases h73 : hasN t.f 73
      · have hm2 : Hid ((([13] : List UInt8), movedN f.u 0 13) = (x, M)) := hid (by
          have := hM.out
          rw [fn, fc, h74, h73] at this
          rw [q13]
          exact this)
        go_enter Try.func37, Try.ntmps37
        go_wp2_with (first
          | (go_at_call 34
             (first
               | ((with_reducible refine (hasp_b _ (hid hs.out.pen) ht h74).mono ?_)
                  rintro e u1 ⟨rfl, k1⟩
                  have s1 := St.up hs k1
                  have B1 := bel_s B0 k1 hgz
                  have hgz1 := St.lt s1 hB)
               | ((with_reducible refine (hasp_b _ (hid s1.out.pen) ht h73).mono ?_)
                  rintro e u2 ⟨rfl, k2⟩
                  have s2 := St.up s1 k2
                  have B2 := bel_s B1 k2 hgz1)))
          | (go_at_call 35
             (with_reducible refine (put13 s2 hB (by omega) hN ht h42.out hm2).mono ?_)
             rintro e u3 ⟨rfl, A3, n3, c3, s3, B3⟩))
        go_end0
        exact ⟨rfl, A3, n3, c3, s3, hid (B2.out.trans B3.out)⟩
      · have hm2 : Hid (nlP f 0 = (x, M)) := hid (by
          have := hM.out
          rw [fn, fc, h74, h73] at this
          exact this)
        go_enter Try.func37, Try.ntmps37
        go_wp2_with (first
          | (go_at_call 34
             (first
               | ((with_reducible refine (hasp_b _ (hid hs.out.pen) ht h74).mono ?_)
                  rintro e u1 ⟨rfl, k1⟩
                  have s1 := St.up hs k1
                  have B1 := bel_s B0 k1 hgz
                  have hgz1 := St.lt s1 hB)
               | ((with_reducible refine (hasp_b _ (hid s1.out.pen) ht h73).mono ?_)
                  rintro e u2 ⟨rfl, k2⟩
                  have s2 := St.up s1 k2
                  have B2 := bel_s B1 k2 hgz1)))
          | (go_at_call 48
             (with_reducible refine (feed_any s2 hB (by omega) hN ht hf hm2).mono ?_)
             rintro e u3 ⟨rfl, A3, n3, c3, s3, B3⟩))
        go_end0
        exact ⟨rfl, A3, n3, c3, s3, hid (B2.out.trans B3.out)⟩
    · obtain ⟨rfl, rfl⟩ : [] = x ∧ 0 = M := by
        have := hM.out
        rw [fn, h74] at this
        simpa using this
      go_enter Try.func37, Try.ntmps37
      go_wp2_with (first
        | (go_at_call 34
           ((with_reducible refine (hasp_b _ (hid hs.out.pen) ht h74).mono ?_)
            rintro e u1 ⟨rfl, k1⟩
            have s1 := St.up hs k1
            have B1 := bel_s B0 k1 hgz)))
      go_end0
      exact ⟨rfl, A, n, c, St.eq s1 (by rw [List.append_nil]), B1⟩
  · have e0 : ((N : Int) == 0) = false := beq_eq_false_iff_ne.2 (by omega)
    cases h73 : hasN t.f 73
    · have hm2 : Hid ((([13] : List UInt8), movedN f.u N 13) = (x, M)) := hid (by
        have := hM.out
        rw [if_neg (fun h => h0 h.2), fc, h73] at this
        rw [q13]
        exact this)
      clear h0
      go_enter Try.func37, Try.ntmps37
      go_wp2_with (first
        | (go_at_call 34
           ((with_reducible refine (hasp_b _ (hid hs.out.pen) ht h73).mono ?_)
            rintro e u2 ⟨rfl, k2⟩
            have s2 := St.up hs k2
            have B2 := bel_s B0 k2 hgz))
        | (go_at_call 35
           (with_reducible refine (put13 s2 hB (by omega) hN ht h42.out hm2).mono ?_)
           rintro e u3 ⟨rfl, A3, n3, c3, s3, B3⟩))
      go_end0
      exact ⟨rfl, A3, n3, c3, s3, hid (B2.out.trans B3.out)⟩
    · have hm2 : Hid (nlP f N = (x, M)) := hid (by
        have := hM.out
        rw [if_neg (fun h => h0 h.2), fc, h73] at this
        exact this)
      clear h0
      go_enter Try.func37, Try.ntmps37
      go_wp2_with (first
        | (go_at_call 34
           ((with_reducible refine (hasp_b _ (hid hs.out.pen) ht h73).mono ?_)
            rintro e u2 ⟨rfl, k2⟩
            have s2 := St.up hs k2
            have B2 := bel_s B0 k2 hgz))
        | (go_at_call 48
           (with_reducible refine (feed_any s2 hB (by omega) hN ht hf hm2).mono ?_)
           rintro e u3 ⟨rfl, A3, n3, c3, s3, B3⟩))
      go_end0
      exact ⟨rfl, A3, n3, c3, s3, hid (B2.out.trans B3.out)⟩
set_option maxRecDepth 100000 in
set_option maxHeartbeats 1000000 in
theorem write_any (hs : Hid (St w B g t N xs A n c)) (hB : B ≤ g) (hm : n ≤ 800000) (hN : N ≤ 65535) (ht : t.Ok) (d : UInt8) {f : PoF} (hf : Hid (poF t = f)) {x : List UInt8} (hx : Hid (byteP f N d = (x, M))) :
    Calls Try.prog 22 #[.pointer (some ⟨g, 0, none⟩), .int .u8 (d.toNat : Int)] w (RetS w B g t (xs ++ x) M) := by
  have h42 : Hid (hasN t.f 42 = f.u) := hid (by rw [← hf.out]; rfl)
  have B0 := bel_z w B
  have hgz := St.lt hs hB
  cases h70 : hasN t.f 70
  · have hm2 : Hid ((([d] : List UInt8), movedN f.u N d) = (x, M)) := hid ((byteP_off (by rw [← hf.out]; exact h70)).symm.trans hx.out)
    go_enter Try.func22, Try.ntmps22
    go_wp2_with (first
      | (go_at_call 34
         ((with_reducible refine (hasp_b _ (hid hs.out.pen) ht h70).mono ?_)
          rintro e u1 ⟨rfl, k1⟩
          have s1 := St.up hs k1
          have B1 := bel_s B0 k1 hgz
          have hgz1 := St.lt s1 hB))
      | (go_at_call 35
         (with_reducible refine (put_any s1 hB (by omega) hN ht d h42.out hm2).mono ?_)
         rintro e u2 ⟨rfl, A2, n2, c2, s2, B2⟩))
    go_end0
    exact ⟨rfl, A2, n2, c2, s2, hid (B1.out.trans B2.out)⟩
  · have ho : f.o = true := by rw [← hf.out]; exact h70
    by_cases h10 : d.toNat = 10
    · have e10 : (d.toNat : Int) = 10 := by omega
      have hm2 : Hid ((if f.nlcr = true then ([13, 10], 0) else nlP f N) = (x, M)) := hid (by
        have := hx.out
        unfold byteP at this
        rwa [if_neg (by rw [ho]; decide), if_neg (by omega), if_pos h10] at this)
      rw [e10]
      clear e10 h10
      go_enter Try.func22, Try.ntmps22
      go_wp2_with (first
        | (go_at_call 34
           ((with_reducible refine (hasp_b _ (hid hs.out.pen) ht h70).mono ?_)
            rintro e u1 ⟨rfl, k1⟩
            have s1 := St.up hs k1
            have B1 := bel_s B0 k1 hgz
            have hgz1 := St.lt s1 hB))
        | (go_at_call 36
           (with_reducible refine (endLine_any s1 hB hm hN ht hf hm2).mono ?_)
           rintro e u2 ⟨rfl, A2, n2, c2, s2, B2⟩))
      go_end0
      exact ⟨rfl, A2, n2, c2, s2, hid (B1.out.trans B2.out)⟩
    · have k10 : (((d.toNat : Int)) == 10) = false := beq_eq_false_iff_ne.2 (by omega)
      by_cases h13 : d.toNat = 13
      · have e13 : (d.toNat : Int) = 13 := by omega
        have hm2 : Hid ((if f.nocr = true ∧ N = 0 then ([], 0) else if f.crnl = false then ([13], 0) else nlP f N) = (x, M)) := hid (by
          have := hx.out
          unfold byteP at this
          rwa [if_neg (by rw [ho]; decide), if_pos h13] at this)
        rw [e13]
        clear e13 h13 k10 h10
        go_enter Try.func22, Try.ntmps22
        go_wp2_with (first
          | (go_at_call 34
             ((with_reducible refine (hasp_b _ (hid hs.out.pen) ht h70).mono ?_)
              rintro e u1 ⟨rfl, k1⟩
              have s1 := St.up hs k1
              have B1 := bel_s B0 k1 hgz
              have hgz1 := St.lt s1 hB))
          | (go_at_call 37
             (with_reducible refine (goBack_any s1 hB hm hN ht hf hm2).mono ?_)
             rintro e u2 ⟨rfl, A2, n2, c2, s2, B2⟩))
        go_end0
        exact ⟨rfl, A2, n2, c2, s2, hid (B1.out.trans B2.out)⟩
      · have k13 : (((d.toNat : Int)) == 13) = false := beq_eq_false_iff_ne.2 (by omega)
        have hm2 : Hid ((([upB f d] : List UInt8), movedN f.u N (upB f d)) = (x, M)) := hid ((byteP_any ho h13 h10).symm.trans hx.out)
        clear h10 h13
        cases hsm : (decide (97 ≤ d.toNat) && decide (d.toNat ≤ 122))
        · have hu : upB f d = d := upB_no (by
            rintro ⟨_, h1, h2⟩
            rw [decide_eq_true h1, decide_eq_true h2] at hsm
            cases hsm)
          rw [hu] at hm2
          go_enter Try.func22, Try.ntmps22
          go_wp2_with (first
            | (go_at_call 34
               ((with_reducible refine (hasp_b _ (hid hs.out.pen) ht h70).mono ?_)
                rintro e u1 ⟨rfl, k1⟩
                have s1 := St.up hs k1
                have B1 := bel_s B0 k1 hgz
                have hgz1 := St.lt s1 hB))
            | (go_at_call 38
               (with_reducible refine (isSmall_b _ d hsm).mono ?_)
               rintro e u3 ⟨rfl, rfl⟩)
            | (go_at_call 35
               (with_reducible refine (put_any s1 hB (by omega) hN ht d h42.out hm2).mono ?_)
               rintro e u2 ⟨rfl, A2, n2, c2, s2, B2⟩))
          go_end0
          exact ⟨rfl, A2, n2, c2, s2, hid (B1.out.trans B2.out)⟩
        · have h97 : 97 ≤ d.toNat ∧ d.toNat ≤ 122 := by simpa using hsm
          cases h71 : hasN t.f 71
          · have hu : upB f d = d := upB_no (by rw [← hf.out]; rintro ⟨h, _⟩; exact absurd (h71.symm.trans h) (by decide))
            rw [hu] at hm2
            go_enter Try.func22, Try.ntmps22
            go_wp2_with (first
              | (go_at_call 34
                 (first
                   | ((with_reducible refine (hasp_b _ (hid hs.out.pen) ht h70).mono ?_)
                      rintro e u1 ⟨rfl, k1⟩
                      have s1 := St.up hs k1
                      have B1 := bel_s B0 k1 hgz
                      have hgz1 := St.lt s1 hB)
                   | ((with_reducible refine (hasp_b _ (hid s1.out.pen) ht h71).mono ?_)
                      rintro e u4 ⟨rfl, k4⟩
                      have s1 := St.up s1 k4
                      have B1 := bel_s B1 k4 hgz1)))
              | (go_at_call 38
                 (with_reducible refine (isSmall_b _ d hsm).mono ?_)
                 rintro e u3 ⟨rfl, rfl⟩)
              | (go_at_call 35
                 (with_reducible refine (put_any s1 hB (by omega) hN ht d h42.out hm2).mono ?_)
                 rintro e u2 ⟨rfl, A2, n2, c2, s2, B2⟩))
            go_end0
            exact ⟨rfl, A2, n2, c2, s2, hid (B1.out.trans B2.out)⟩
          · have hd := upB_on (f := f) (c := d) (by rw [← hf.out]; exact h71) h97.1 h97.2
            obtain ⟨r, hd0⟩ : ∃ r, upB f d = r := ⟨_, rfl⟩
            rw [hd0] at hd hm2
            have hd2 := hd.symm
            clear hd hd0
            go_enter Try.func22, Try.ntmps22
            go_wp2_with (first
              | (go_at_call 34
                 (first
                   | ((with_reducible refine (hasp_b _ (hid hs.out.pen) ht h70).mono ?_)
                      rintro e u1 ⟨rfl, k1⟩
                      have s1 := St.up hs k1
                      have B1 := bel_s B0 k1 hgz
                      have hgz1 := St.lt s1 hB)
                   | ((with_reducible refine (hasp_b _ (hid s1.out.pen) ht h71).mono ?_)
                      rintro e u4 ⟨rfl, k4⟩
                      have s1 := St.up s1 k4
                      have B1 := bel_s B1 k4 hgz1)))
              | (go_at_call 38
                 (with_reducible refine (isSmall_b _ d hsm).mono ?_)
                 rintro e u3 ⟨rfl, rfl⟩)
              | (go_at_call 35
                 (with_reducible refine (put_any s1 hB (by omega) hN ht r h42.out hm2).mono ?_)
                 rintro e u2 ⟨rfl, A2, n2, c2, s2, B2⟩))
            go_end0
            exact ⟨rfl, A2, n2, c2, s2, hid (B1.out.trans B2.out)⟩
end
end Go.Proofs.Ytggcampdkgfmgaa.L12
namespace Go.Proofs.Ytggcampdkgfmgaa.L12
open Go.RowKit

theorem wpList_zero46 : (zeroP).size = 26 := penC_size rfl 0 noV
theorem st_new {w : World} {B g N : Nat} {t : Tm} (h : Hid (Pen w g t N noV)) : Hid (St w B g t N [] none 0 0) := hid ⟨rfl, h.out, World.ownsRow_nil _ _ _ _⟩
/-- Bytes of the call's own and a column. -/
def RetPO (w : World) (r : List UInt8 × Nat) (e : Ending) (w' : World) : Prop := ∃ A n c, e = .returned (.tuple #[.slice A n c, .int .i64 (r.2 : Int)]) ∧ Hid (r.1.length = n) ∧ Hid (w'.ownsRow w.heap.size 5 1 (.slice A n c) n (bv r.1)) ∧ Hid (Below w.heap.size w w')
theorem retp_of {w w' : World} {r : List UInt8 × Nat} {e : Ending} (h : RetPO w r e w') : RetP w r e w' := by
  obtain ⟨A, n, c, he, h1, h2, h3⟩ := h
  exact ⟨A, n, c, he, h1, slb_own h1 h2, h3⟩
theorem st_ret {w u v : World} {g N n c : Nat} {t : Tm} {xs : List UInt8} {A : Option Addr} (h : Hid (St u w.heap.size g t N xs A n c)) (hb : Hid (Below w.heap.size w u)) (hv : v = u.drew) : RetPO w (xs, N) (.returned (.tuple #[.slice A n c, .int .i64 (N : Int)])) v := by
  subst hv
  exact ⟨A, n, c, rfl, hid h.out.len, hid h.out.own.drew, hid hb.out.drew⟩
set_option maxRecDepth 100000 in
set_option maxHeartbeats 2000000 in
theorem bytespo_any (w : World) {t : Tm} (ht : t.Ok) (col : Int) (A : Option Addr) (n c : Nat) (bs : List UInt8) {f : PoF} (hf : Hid (poF t = f)) (hb : Hid (SlB w w.heap.size A c bs)) (hn : bs.length = n) (hm : n ≤ 400000) :
    Calls Try.prog 8 #[.agg t.cs, .int .i64 col, .slice A n c] w (RetPO w (bytesP f (nrm col) bs)) := by
  have hs := cs_size ht.len
  have hl := ht.len
  have K0 := old26 w t
  have HN := hid hn
  have hN := nrm_le col
  obtain ⟨N, hq⟩ : ∃ N, Hid (nrm col = N) := ⟨_, hid rfl⟩
  rw [hq.out] at hN ⊢
  go_enter Try.func8, Try.ntmps8
  go_wp2_with (first
    | (refine bx26 (by rfl) _ (by rfl) _ (by rfl) hs ?_
       intro G0)
    | (refine ld26 (by rfl) _ (by rfl) _ (by rfl) t.cs G0.out hs ?_)
    | (go_at_call 21
       (with_reducible refine (at_any _ ht col hq).mono ?_)
       rintro e u1 ⟨rfl, k1⟩
       have K1 := bel_t K0 k1.out)
    | (refine snP (by rfl) _ _ (by rfl) u1 zeroP wpList_zero46 (by rfl) (by rfl) t N hl noV rfl (by rfl) ?_
       intro u2 P2 k2 z2
       have K2 := bel_t K1 k2.out
       have g1 : w.heap.size ≤ u1.heap.size := K1.out.size
       have s2 := st_new (B := w.heap.size) P2))
  obtain ⟨g, hg⟩ : ∃ g, u1.heap.size = g := ⟨_, rfl⟩
  rw [hg] at s2 z2 g1 ⊢
  clear hg k2 k1 K1 G0 K0 P2
  go_loopw [16] (fun i wr => ∃ (k m M : Nat) (A2 : Option Addr) (c2 : Nat), k ≤ n ∧ m ≤ 2 * k ∧ M ≤ 65535 ∧ i = .int .i64 k ∧ Hid ((bytesP f N (bs.take k)).2 = M) ∧ Hid (St wr w.heap.size g t M (bytesP f N (bs.take k)).1 A2 m c2) ∧ Hid (Below w.heap.size w wr)) (fun i _ => n - (intOf i).toNat)
  case atStart => exact ⟨0, 0, N, none, 0, Nat.zero_le _, Nat.zero_le _, hN, rfl, hid rfl, s2, K2⟩
  case round =>
    obtain ⟨k, m, M, A2, c2, hk, hm2, hM, rfl, HM, HS, HB⟩ := hrel
    by_cases hlt : k < n
    · have L1 := slb_at hb HB
      obtain ⟨b, o, y, rfl, hy, cy⟩ := slb_cell L1.out hn hlt
      have hat := bytesP_at (f := f) (col := N) hy
      rw [HM.out] at hat
      obtain ⟨⟨x, M2⟩, hx⟩ : ∃ z, Hid (byteP f M y = z) := ⟨_, hid rfl⟩
      rw [hx.out] at hat
      have hxl := byteP_len f M y
      have hM2 := byteP_le (f := f) (c := y) hM
      rw [hx.out] at hxl hM2
      have hxl : x.length ≤ 2 := hxl
      have hM2 : M2 ≤ 65535 := hM2
      obtain ⟨xs, hxs⟩ : ∃ xs, (bytesP f N (bs.take k)).1 = xs := ⟨_, rfl⟩
      rw [hxs] at hat HS
      have HAT := hid hat
      have HXL := hid hxl
      clear hat hxs hy hxl
      go_wp2_with (first
        | (go_at_call 22
           (with_reducible refine (write_any HS g1 (by omega) hM ht y hf hx).mono ?_)
           rintro e u3 ⟨rfl, A3, m3, c3, S3, b3⟩
           have B3 : Hid (Below w.heap.size w u3) := hid (HB.out.trans b3.out)
           have hm3 : m3 ≤ m + 2 := by
             have h1 := S3.out.len
             have h2 := HS.out.len
             have h3 := HXL.out
             rw [List.length_append] at h1
             omega
           clear b3))
      go_roundw
      case rel =>
        refine ⟨k + 1, m3, M2, A3, c3, by omega, by omega, hM2, by go_num, ?_, ?_, B3⟩
        · rw [HAT.out]; exact hid rfl
        · rw [HAT.out]; exact S3
      case measure => simp [intOf] <;> omega
    · have hkn : k = n := by omega
      have e : bs.take k = bs := List.take_of_length_le (by have := HN.out; omega)
      rw [e] at HM HS
      have hM3 := HM.out
      clear HM
      have cn := HS.out.pen.cell hl
      have cn2 : wr.drew.cell? ⟨g, 24, none⟩ = some (.int .i64 (M : Int)) := cn
      have co := HS.out.pen.cell25 hl
      have co2 : wr.drew.cell? ⟨g, 25, none⟩ = some (.slice A2 m c2) := co
      subst hM3
      go_wp2
      go_region
      all_goals
        go_wp2
        go_ret2
        exact st_ret HS HB rfl
theorem bytesp_any (w : World) {t : Tm} (ht : t.Ok) (col : Int) (A : Option Addr) (n c : Nat) (bs : List UInt8) {f : PoF} (hf : Hid (poF t = f)) (hb : Hid (SlB w w.heap.size A c bs)) (hn : bs.length = n) (hm : n ≤ 400000) :
    Calls Try.prog 8 #[.agg t.cs, .int .i64 col, .slice A n c] w (RetP w (bytesP f (nrm col) bs)) :=
  (bytespo_any w ht col A n c bs hf hb hn hm).mono fun _ _ h => retp_of h
/-- The same, behind whatever has been made. -/
theorem bytesp_grow (u W : World) (hW : Below u.heap.size u W) {t : Tm} (ht : t.Ok) (col : Int) (A : Option Addr) (n c : Nat) (bs : List UInt8) {f : PoF} (hf : Hid (poF t = f)) (hb : Hid (SlB u u.heap.size A c bs)) (hn : Hid (bs.length = n)) (hm : n ≤ 400000) {x : List UInt8} {M : Nat} (hx : Hid (bytesP f (nrm col) bs = (x, M))) :
    Calls Try.prog 8 #[.agg t.cs, .int .i64 col, .slice A n c] W fun e w' => ∃ A2 n2 c2, e = .returned (.tuple #[.slice A2 n2 c2, .int .i64 (M : Int)]) ∧ Hid (x.length = n2) ∧ Hid (SlB w' w'.heap.size A2 c2 x) ∧ Below u.heap.size u w' ∧ Below W.heap.size W w' := by
  refine (bytesp_any W ht col A n c bs hf (slb_up hb hW) hn.out hm).mono ?_
  rw [hx.out]
  rintro e w' ⟨A2, n2, c2, rfl, h1, h2, h3⟩
  exact ⟨A2, n2, c2, rfl, h1, h2, hW.trans (h3.out.mono hW.size), h3.out⟩
end Go.Proofs.Ytggcampdkgfmgaa.L12
namespace Go.Proofs.Ytggcampdkgfmgaa.L12
open Go.RowKit

theorem fitP_neg {f : PoF} {col : Nat} {l : List UInt8} {room : Int} (h : room < 0) : fitP f col l room = 0 := fitP_is (Nat.zero_le _) (Or.inl rfl) (Or.inr (by omega))
set_option maxRecDepth 100000 in
set_option maxHeartbeats 4000000 in
theorem fitp_any (w : World) {t : Tm} (ht : t.Ok) (col : Int) (A : Option Addr) (n c : Nat) (bs : List UInt8) (room : Int) {f : PoF} (hf : Hid (poF t = f)) (hb : Hid (SlB w w.heap.size A c bs)) (hn : bs.length = n) (hm : n ≤ 400000) (hri : room ≤ 9223372036854775807) :
    Calls Try.prog 31 #[.agg t.cs, .int .i64 col, .slice A n c, .int .i64 room] w fun e w' => e = .returned (.int .i64 ((fitP f (nrm col) bs room : Nat) : Int)) ∧ Hid (Below w.heap.size w w') := by
  have hs := cs_size ht.len
  have hl := ht.len
  have K0 := old26 w t
  have HN := hid hn
  have hN := nrm_le col
  obtain ⟨N, hq⟩ : ∃ N, Hid (nrm col = N) := ⟨_, hid rfl⟩
  rw [hq.out] at hN ⊢
  obtain ⟨r, hr⟩ : ∃ r, Hid (fitP f N bs room = r) := ⟨_, hid rfl⟩
  rw [hr.out]
  by_cases hr0 : room < 0
  · have h0 : r = 0 := by rw [← hr.out]; exact fitP_neg hr0
    subst h0
    go_enter Try.func31, Try.ntmps31
    go_wp2_with (first
      | (refine bx26 (by rfl) _ (by rfl) _ (by rfl) hs ?_
         intro G0))
    go_ret
    exact ⟨rfl, K0⟩
  · obtain ⟨R, rfl⟩ : ∃ R : Nat, room = (R : Int) := ⟨room.toNat, by omega⟩
    clear hr0
    have hRi : R ≤ 9223372036854775807 := by omega
    clear hri
    go_enter Try.func31, Try.ntmps31
    go_wp2_with (first
      | (refine bx26 (by rfl) _ (by rfl) _ (by rfl) hs ?_
         intro G0)
      | (refine ld26 (by rfl) _ (by rfl) _ (by rfl) t.cs G0.out hs ?_)
      | (go_at_call 21
         (with_reducible refine (at_any _ ht col hq).mono ?_)
         rintro e u1 ⟨rfl, k1⟩
         have K1 := bel_t K0 k1.out)
      | (refine snP (by rfl) _ _ (by rfl) u1 zeroP wpList_zero46 (by rfl) (by rfl) t N hl noV rfl (by rfl) ?_
         intro u2 P2 k2 z2
         have K2 := bel_t K1 k2.out
         have g1 : w.heap.size ≤ u1.heap.size := K1.out.size
         have s2 := st_new (B := w.heap.size) P2))
    obtain ⟨g, hg⟩ : ∃ g, u1.heap.size = g := ⟨_, rfl⟩
    rw [hg] at s2 z2 g1 ⊢
    clear hg k2 k1 K1 G0 K0 P2
    go_loopw [19] (fun i wr => ∃ (k m M : Nat) (A2 : Option Addr) (c2 : Nat), k ≤ n ∧ m ≤ 2 * k ∧ m ≤ R ∧ M ≤ 65535 ∧ i = .int .i64 k ∧ Hid ((bytesP f N (bs.take k)).2 = M) ∧ Hid (outN f N bs k = m) ∧ Hid (St wr w.heap.size g t M (bytesP f N (bs.take k)).1 A2 m c2) ∧ Hid (Below w.heap.size w wr)) (fun i _ => n - (intOf i).toNat)
    case atStart => exact ⟨0, 0, N, none, 0, Nat.zero_le _, Nat.zero_le _, Nat.zero_le _, hN, rfl, hid rfl, hid rfl, s2, K2⟩
    case round =>
      obtain ⟨k, m, M, A2, c2, hk, hm2, hmR, hM, rfl, HM, HO, HS, HB⟩ := hrel
      by_cases hlt : k < n
      · have L1 := slb_at hb HB
        obtain ⟨b, o2, y, rfl, hy, cy⟩ := slb_cell L1.out hn hlt
        have hat := bytesP_at (f := f) (col := N) hy
        rw [HM.out] at hat
        obtain ⟨⟨x, M2⟩, hx⟩ : ∃ z, Hid (byteP f M y = z) := ⟨_, hid rfl⟩
        rw [hx.out] at hat
        have hxl := byteP_len f M y
        have hM2 := byteP_le (f := f) (c := y) hM
        rw [hx.out] at hxl hM2
        have hxl : x.length ≤ 2 := hxl
        have hM2 : M2 ≤ 65535 := hM2
        obtain ⟨q, hxq⟩ : ∃ q, x.length = q := ⟨_, rfl⟩
        have HXQ := hid hxq
        rw [hxq] at hxl
        have HO2 : Hid (outN f N bs (k + 1) = m + q) := hid (by
          unfold outN
          rw [hat]
          show ((bytesP f N (bs.take k)).1 ++ x).length = _
          rw [List.length_append, hxq, ← HO.out]
          rfl)
        obtain ⟨xs, hxs⟩ : ∃ xs, (bytesP f N (bs.take k)).1 = xs := ⟨_, rfl⟩
        rw [hxs] at hat HS
        have HAT := hid hat
        clear hat hxs hy hxq
        have hw0 : IntKind.i64.wrap ((k : Int) + 1) = (k : Int) + 1 := by rw [IntKind.wrap_i64]; omega
        by_cases hov : R < m + q
        · have hrk : r = k := by
            rw [← hr.out]
            refine fitP_is (by rw [HN.out]; exact hk) (Or.inr ?_) (Or.inr ?_)
            · rw [HO.out]; omega
            · rw [HO2.out]; omega
          subst hrk
          have hovi : (R : Int) < ((m + q : Nat) : Int) := by omega
          go_wp2_with (first
            | (go_at_call 22
               (with_reducible refine (write_any HS g1 (by omega) hM ht y hf hx).mono ?_)
               rintro e u3 ⟨rfl, A3, m3, c3, S3, b3⟩
               have B3 : Hid (Below w.heap.size w u3) := hid (HB.out.trans b3.out)
               obtain rfl : m3 = m + q := by
                 have h1 := S3.out.len
                 have h2 := HS.out.len
                 rw [List.length_append, HXQ.out, h2] at h1
                 exact h1.symm
               have co3 := S3.out.pen.cell25 hl
               clear b3))
          go_ret
          exact ⟨rfl, B3⟩
        · have hovi : ¬ (R : Int) < ((m + q : Nat) : Int) := by omega
          go_wp2_with (first
            | (go_at_call 22
               (with_reducible refine (write_any HS g1 (by omega) hM ht y hf hx).mono ?_)
               rintro e u3 ⟨rfl, A3, m3, c3, S3, b3⟩
               have B3 : Hid (Below w.heap.size w u3) := hid (HB.out.trans b3.out)
               obtain rfl : m3 = m + q := by
                 have h1 := S3.out.len
                 have h2 := HS.out.len
                 rw [List.length_append, HXQ.out, h2] at h1
                 exact h1.symm
               have co3 := S3.out.pen.cell25 hl
               clear b3))
          go_roundw
          case rel =>
            refine ⟨k + 1, m + q, M2, A3, c3, by omega, by omega, by omega, hM2, by go_num, ?_, HO2, ?_, B3⟩
            · rw [HAT.out]; exact hid rfl
            · rw [HAT.out]; exact S3
          case measure => simp [intOf] <;> omega
      · have hkn : k = n := by omega
        have e : r = n := by
          rw [← hr.out]
          refine fitP_is (by rw [HN.out]; exact Nat.le_refl _) (Or.inr ?_) (Or.inl HN.out.symm)
          rw [← hkn, HO.out]
          omega
        subst e
        subst hkn
        go_wp2
        go_ret
        exact ⟨rfl, HB⟩
end Go.Proofs.Ytggcampdkgfmgaa.L12
