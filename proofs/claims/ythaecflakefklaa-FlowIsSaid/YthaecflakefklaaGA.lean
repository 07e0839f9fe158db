/- Bytes and settings in walks: what several layers use. -/
import Derived.Test.YthaecflakefklaaMS
import Derived.Deep.RegionHeld3
namespace Go.Proofs.Ythaecflakefklaa
open Go.RowKit

theorem info_parts {P : Program} {t : TypeId} {z : Value} {s b : Nat} (h : (P.info? t).map (fun i => (i.zero, i.size, i.bytes)) = some (some z, s, b)) : ∃ i, P.info? t = some i ∧ i.zero = some z ∧ i.size = s ∧ i.bytes = b := by
  cases hq : P.info? t with
  | none => simp [hq] at h
  | some i =>
    simp [hq] at h
    exact ⟨i, rfl, h.1, h.2.1, h.2.2⟩
/-- A call has answered these bytes; nothing that was there has turned. -/
def Ret (w : World) (bs : List UInt8) (e : Ending) (w' : World) : Prop := ∃ A n c, e = .returned (.slice A n c) ∧ Hid (bs.length = n) ∧ Hid (SlB w' w'.heap.size A c bs) ∧ Hid (Below w.heap.size w w')
/-- Bytes are put behind what is the call's own. -/
theorem app_own {ops : Array Oper} {rest : List Oper} {o : Oper} {a : Act} {Q : Exit → Act → World → Prop} (w : World) (hgd : o.guard = none) (s x : Operand) (ho : o.op = .call { callee := .builtin .append, args := #[s, x], argTypes := #[38, 38] })
    (base n c : Nat) (A : Option Addr) (xs : List UInt8) (hs : a.eval s = .slice A n c) (hown : Hid (w.ownsRow base 5 1 (.slice A n c) n (bv xs))) (hb : base ≤ w.heap.size) (A2 : Option Addr) (m c2 : Nat) (ys : List UInt8)
    (hx : a.eval x = .slice A2 m c2) (hS : Hid (SlB w w.heap.size A2 c2 ys)) (hy : ys.length = m) (hm : n + m ≤ 1000000)
    (h : ∀ A' c' w', Hid (w'.ownsRow base 5 1 (.slice A' (n + m) c') (n + m) (bv (xs ++ ys))) → Hid (Kept base [5] w w') → wpList Try.prog ops Q rest (a.put o.dst (.slice A' (n + m) c')) w') : wpList Try.prog ops Q (o :: rest) a w := by
  subst hy
  obtain ⟨i5, hi5, hz5, hz51, hz52⟩ := info_parts Try.info5
  refine wpList_app _ hgd s x 38 ho base 5 i5 _ 1 1 Try.underlying38 hi5 hz5 hz51 hz52 rfl (by decide) A n c (bv xs) hs hown.out w.heap.size A2 ys.length c2 (bv ys) hx (by rw [bv_length, Nat.mul_one]) hS.out.2.2.2 (bv_one _) (by unfold maxLen; omega) (by omega) hb ?_
  intro A3 c3 u2 ho2 hg2
  rw [← bv_append] at ho2
  have hk : Kept base [5] w u2 := (Kept.refl base [5] w).grown hg2 (fun k hk => by obtain ⟨a, cs, b⟩ := own_box hown.out k hk; exact ⟨a, 5, cs, by simp, b⟩)
  exact h A3 c3 u2 (hid ho2) (hid hk)
theorem ret_lit {w u : World} {bs : List UInt8} {n g : Nat} {cs : Array Value} (hc : (bv bs).toArray = cs) (hn : bs.length = n) (hm : n ≤ maxLen) (hg : g = u.heap.size) (hb : Hid (Below w.heap.size w u)) : Ret w bs (.returned (.slice (some ⟨g, 0, none⟩) n n)) (u.alloc (.cells cs 5)) := by
  subst hg
  exact ⟨_, n, n, rfl, hid hn, hid (slb_lit u bs n cs hc hn hm), hid (hb.out.alloc hb.out.size _)⟩
theorem ret_nil {w u : World} (hb : Hid (Below w.heap.size w u)) : Ret w [] (.returned (.slice none 0 0)) u := ⟨none, 0, 0, rfl, hid rfl, hid ⟨Nat.le_refl _, Nat.zero_le _, fun _ => rfl, Lies.nil_⟩, hb⟩
theorem slb_cell {w : World} {B n c : Nat} {A : Option Addr} {bs : List UInt8} (h : SlB w B A c bs) {j : Nat} (hn : bs.length = n) (hj : j < n) : ∃ b o y, A = some ⟨b, o, none⟩ ∧ bs[j]? = some y ∧ w.cell? ⟨b, o + j, none⟩ = some (.int .u8 (y.toNat : Int)) := by
  subst hn
  obtain ⟨b, o, rfl, hb, hc⟩ := h.2.2.2 (by
    intro e
    have : bs = [] := by simpa [bv] using e
    rw [this] at hj
    simp at hj)
  obtain ⟨y, hy⟩ : ∃ y, bs[j]? = some y := ⟨_, List.getElem?_eq_getElem hj⟩
  exact ⟨b, o, y, rfl, hy, hc j _ (by simp [bv, hy])⟩
theorem ret_own {w u : World} {bs : List UInt8} {n c : Nat} {A : Option Addr} (hn : bs.length = n) (ho : Hid (u.ownsRow w.heap.size 5 1 (.slice A n c) n (bv bs))) (hb : Hid (Below w.heap.size w u)) : Ret w bs (.returned (.slice A n c)) u := by
  subst hn
  exact ⟨A, _, c, rfl, hid rfl, hid (own_slb (_n := 0) ho.out), hb⟩
theorem bel_k {w a b : World} (h : Hid (Below w.heap.size w a)) (k : Hid (Kept w.heap.size [5] a b)) : Hid (Below w.heap.size w b) := hid (h.out.trans (k.out.below h.out.size))
section
variable {ops : Array Oper} {rest : List Oper} {o : Oper} {a : Act} {w : World} {Q : Exit → Act → World → Prop}
/-- A new variable of a setting's type takes one. -/
theorem sn26 (hw : Region.wanted o (yielded ops a.tmps) = true) (x y : Operand) (ho : o.op = .store 26 x y) (w0 : World) (cs : Array Value) (hs : cs.size = 24) (hw0 : w = w0.alloc (.cells cs 26)) (hx : a.eval x = .pointer (some ⟨w0.heap.size, 0, none⟩)) (t : Tm) (ht : t.c.length = 19) (hy : a.eval y = .agg t.cs)
    (h : ∀ w', Hid (Box w' w0.heap.size 26 t.cs) → Hid (Below w0.heap.size w0 w') → wpList Try.prog ops Q rest (a.put o.dst undef) w') : wpList Try.prog ops Q (o :: rest) a w := by
  subst hw0
  refine st26 hw x y ho w0.heap.size hx t ht hy cs (Box.new w0 26 cs) hs ?_
  intro w' hb hk
  exact h w' hb (hid (((Below.refl _ w0).alloc (Nat.le_refl _) _).trans (hk.out.below (Nat.le_refl _))))
end
theorem bytes_eq (w : World) (A A2 : Option Addr) (c c2 n : Nat) (xs : List UInt8) (hn : xs.length = n) (hx : Hid (SlB w w.heap.size A c xs)) (hy : Hid (SlB w w.heap.size A2 c2 xs)) (hl : n ≤ maxLen) :
    Calls Try.prog 14 #[.slice A n c, .slice A2 n c2] w fun e w' => e = .returned (.bool true) ∧ Hid (Below w.heap.size w w') := by
  subst hn
  refine (bytes_any w _ _ A A2 c c2 xs xs hx.out.2.2.2 hy.out.2.2.2 hl hl).mono ?_
  rintro e w' ⟨rfl, k, rfl⟩
  exact ⟨by simp, hid (bel_drewN (Below.refl _ _) k)⟩
theorem bytes_two (w : World) (A A2 : Option Addr) (c c2 n n2 : Nat) (xs ys : List UInt8) (hn : xs.length = n) (hn2 : ys.length = n2) (hxy : xs = ys) (hx : Hid (SlB w w.heap.size A c xs)) (hy : Hid (SlB w w.heap.size A2 c2 ys)) (hl : n ≤ maxLen) :
    Calls Try.prog 14 #[.slice A n c, .slice A2 n2 c2] w fun e w' => e = .returned (.bool true) ∧ Hid (Below w.heap.size w w') := by
  subst hxy
  obtain rfl : n = n2 := by omega
  exact bytes_eq w A A2 c c2 n xs hn hx hy hl
theorem bytes_lit (w : World) (A : Option Addr) (c n g : Nat) (xs : List UInt8) (hn : xs.length = n) (hx : Hid (SlB w w.heap.size A c xs)) (cs : Array Value) (hc : (bv xs).toArray = cs) (hg : g = w.heap.size) (hl : n ≤ maxLen) :
    Calls Try.prog 14 #[.slice A n c, .slice (some ⟨g, 0, none⟩) n n] (w.alloc (.cells cs 5)) fun e w' => e = .returned (.bool true) ∧ Hid (Below w.heap.size w w') := by
  subst hg
  refine (bytes_eq _ A _ c n n xs hn (slb_at hx (hid ((Below.refl _ w).alloc (Nat.le_refl _) _))) (hid (slb_lit w xs n cs hc hn hl)) hl).mono ?_
  rintro e w' ⟨rfl, h⟩
  exact ⟨rfl, hid (((Below.refl _ w).alloc (Nat.le_refl _) _).trans (h.out.mono (by simp)))⟩
theorem set_b (w : World) {t t' : Tm} (ht : t.Ok) {op : Int} {on : Bool} (h : setT t op on = t') : Calls Try.prog 17 #[.agg t.cs, .int .i64 op, .bool on] w fun e w' => e = .returned (.agg t'.cs) ∧ Hid (Below w.heap.size w w') := by
  subst h
  exact set_any w t ht op on
section
variable {dst : Option Tmp} {x : Operand} {ty : TypeId} {pos : String} {after : Array Edge} {gd : Option (Nat × Bool)}
theorem ex_ld26 {ev : Operand → Value} {w : World} (h1 : isP (ev x) = true) (h2 : isB w (blkV (ev x)) = true) :
    (execOp ev { dst, op := .load 26 x, type := ty, pos, after, guard := gd }).run Try.prog w = .ok (.value (.agg (cs26 w (blkV (ev x))))) w := by
  obtain ⟨hb, hs⟩ := isB_box h2
  have hx := isP_eq h1
  generalize blkV (ev x) = g at *
  unfold execOp
  simp only [hx, Instr.loadAt, Instr.sureAddr, Sem.run_bind, Sem.run_pure, Result.andThen_ok, run_loadVar_row (P := Try.prog) w g 26 26 _ (0, 0) _ hb Try.underlying26 rfl (by rw [hs]; exact Try.size26)]
end
theorem drw {w u : World} (h : Hid (Below w.heap.size w u)) : Hid (Below w.heap.size w u.drew) := hid h.out.drew
/-- A stream is copied to an empty literal. -/
theorem app_copy {ops : Array Oper} {rest : List Oper} {o : Oper} {a : Act} {Q : Exit → Act → World → Prop} (w : World) (hgd : o.guard = none) (s x : Operand) (ho : o.op = .call { callee := .builtin .append, args := #[s, x], argTypes := #[38, 38] })
    (hs : a.eval s = .slice (some ⟨w.heap.size, 0, none⟩) 0 0) (A : Option Addr) (n c : Nat) (bs : List UInt8) (hx : a.eval x = .slice A n c) (hS : Hid (SlB w w.heap.size A c bs)) (hn : bs.length = n) (hm : n ≤ 1000000)
    (h : ∀ A2 c2 u2, Hid (Below w.heap.size w u2) → Hid (SlB u2 u2.heap.size A2 c2 bs) → wpList Try.prog ops Q rest (a.put o.dst (.slice A2 n c2)) u2) : wpList Try.prog ops Q (o :: rest) a (w.alloc (.cells #[] 5)) := by
  subst hn
  obtain ⟨i5, hi5, hz5, hz51, hz52⟩ := info_parts Try.info5
  refine wpList_app _ hgd s x 38 ho w.heap.size 5 i5 _ 1 1 Try.underlying38 hi5 hz5 hz51 hz52 rfl (by decide) _ 0 0 [] hs (lit_own (Nat.le_refl _) rfl) w.heap.size A bs.length c (bv bs) hx (by rw [bv_length, Nat.mul_one]) (hS.out.2.2.2.alloc (Nat.le_refl _) _) (bv_one _) (by unfold maxLen; omega) (by omega) (by simp) ?_
  intro A2 c2 u2 ho2 hg2
  simp only [Nat.zero_add, List.nil_append] at ho2 ⊢
  exact h A2 c2 u2 (hid (lit_grown rfl hg2)) (hid (own_slb (_n := 0) ho2))
/-- Twenty-four cells from a pointer on. -/
def rng26 (w : World) (v : Value) : Option (List Value) := match v with
  | .pointer (some ⟨g, o, none⟩) => (List.range 24).mapM fun j => w.cell? ⟨g, o + j, none⟩
  | _ => none
def isR (w : World) (v : Value) : Bool := (rng26 w v).isSome
def csR (w : World) (v : Value) : Array Value := ((rng26 w v).getD []).toArray
theorem rng_at {w : World} {v : Value} (h : isR w v = true) : ∃ g o l, v = .pointer (some ⟨g, o, none⟩) ∧ w.rangeAt g o l ∧ l.length = 24 ∧ csR w v = l.toArray := by
  unfold isR at h
  obtain ⟨l, hl⟩ := Option.isSome_iff_exists.1 h
  have hl' := hl
  unfold rng26 at hl
  split at hl
  · rename_i g o
    refine ⟨g, o, l, rfl, ?_, ?_, by simp [csR, hl']⟩
    · intro j v hj
      have hlen := mapM_some_length hl
      have hjl : j < 24 := by
        have := (List.getElem?_eq_some_iff.1 hj).1
        simp at hlen
        omega
      have := mapM_some_get hl j j (by simp [hjl])
      rw [this, hj]
    · have := mapM_some_length hl
      simpa using this
  · cases hl
theorem wp_ldR {dst : Option Tmp} {x : Operand} {ty : TypeId} {pos : String} {after : Array Edge} {gd : Option (Nat × Bool)} {a : Act} {w : World} {K : Act → World → Prop} {Q : Exit → Act → World → Prop} (h : isR w (a.eval x) = true) :
    Oper.wp Try.prog { dst, op := .load 26 x, type := ty, pos, after, guard := gd } a w K Q = K (a.put dst (.agg (csR w (a.eval x)))) w := by
  obtain ⟨g, o, l, hx, hr, hl, hc⟩ := rng_at h
  unfold Oper.wp execOp
  rw [hc]
  simp only [hx, Instr.loadAt, Instr.sureAddr, Sem.run_bind, Sem.run_pure, Result.andThen_ok, run_loadVar_mid (P := Try.prog) w g o 26 l _ hr Try.underlying26 rfl (by rw [hl]; exact Try.size26)]
  rfl
theorem isR_of {w : World} {g o : Nat} {t : Tm} (h : w.rangeAt g o t.cl) (ht : t.c.length = 19) : isR w (.pointer (some ⟨g, o, none⟩)) = true ∧ csR w (.pointer (some ⟨g, o, none⟩)) = t.cs := by
  have e : rng26 w (.pointer (some ⟨g, o, none⟩)) = some t.cl := by
    show ((List.range 24).mapM fun j => w.cell? ⟨g, o + j, none⟩) = some t.cl
    have hl := cl_len ht
    have : ∀ (n : Nat) (l : List Value) (f : Nat → Option Value), l.length = n → (∀ j v, l[j]? = some v → f j = some v) → (List.range n).mapM f = some l := by
      intro n
      induction n with
      | zero => intro l f hl _; have : l = [] := List.eq_nil_of_length_eq_zero hl; subst this; simp
      | succ n ih =>
        intro l f hl hf
        obtain ⟨l', v, rfl⟩ : ∃ l' v, l = l' ++ [v] := by
          rcases List.eq_nil_or_concat l with h | ⟨l', v, h⟩
          · subst h; simp at hl
          · exact ⟨l', v, by simpa using h⟩
        have hl' : l'.length = n := by simpa using hl
        rw [List.range_succ, List.mapM_append, ih l' f hl' (fun j u hj => hf j u (by rw [List.getElem?_append_left ((List.getElem?_eq_some_iff.1 hj).1)]; exact hj))]
        have := hf n v (by rw [List.getElem?_append_right (by omega), hl']; simp)
        simp [this]
    exact this 24 t.cl _ hl h
  exact ⟨by simp [isR, e], by simp [csR, e, Tm.cs]⟩
theorem run_boxT (w : World) (T : TypeId) (cs : Array Value) (hT : (Try.prog.info? T).map (·.size) = some cs.size) : (Instr.box T (.agg cs)).run Try.prog w = .ok (.pointer (some ⟨w.heap.size, 0, none⟩)) (w.alloc (.cells cs T)) := by
  cases hq : Try.prog.info? T with
  | none => simp [hq] at hT
  | some i => simp [hq] at hT; simp [Instr.box, newVar, newRow, Value.cells]
theorem bxT {ops : Array Oper} {rest : List Oper} {o : Oper} {a : Act} {w : World} {Q : Exit → Act → World → Prop} (hw : Region.wanted o (yielded ops a.tmps) = true) (T : TypeId) (x : Operand) (ho : o.op = .box T x) (cs : Array Value) (hx : a.eval x = .agg cs) (hT : (Try.prog.info? T).map (·.size) = some cs.size)
    (h : wpList Try.prog ops Q rest (a.put o.dst (.pointer (some ⟨w.heap.size, 0, none⟩))) (w.alloc (.cells cs T))) : wpList Try.prog ops Q (o :: rest) a w :=
  BigFrame.wpList_want hw fun _ hK => by
    unfold Oper.wp execOp
    simp only [ho, hx, Sem.run_bind, run_boxT w T cs hT, Result.andThen_ok]
    exact hK _ _ h
theorem front_at {t : Tm} (ht : t.c.length = 19) (a b c : Value) : ((t.cl ++ [a, b, c]).toArray.size = 27) ∧ (∀ (j : Nat) (v : Value), t.cl[j]? = some v → (t.cl ++ [a, b, c]).toArray[j]? = some v) ∧ (t.cl ++ [a, b, c]).toArray[24]? = some a ∧ (t.cl ++ [a, b, c]).toArray[25]? = some b ∧ (t.cl ++ [a, b, c]).toArray[26]? = some c := by
  have hl := cl_len ht
  refine ⟨by simp [hl], fun j v hj => ?_, ?_, ?_, ?_⟩
  · have := (List.getElem?_eq_some_iff.1 hj).1
    rw [List.getElem?_toArray, List.getElem?_append_left this, hj]
  · rw [List.getElem?_toArray, List.getElem?_append_right (by omega), hl]; rfl
  · rw [List.getElem?_toArray, List.getElem?_append_right (by omega), hl]; rfl
  · rw [List.getElem?_toArray, List.getElem?_append_right (by omega), hl]; rfl
theorem front_R {W : World} {g : Nat} {T : TypeId} {cs : Array Value} {t : Tm} (ht : t.c.length = 19) (hb : Box W g T cs) (hc : ∀ (j : Nat) (v : Value), t.cl[j]? = some v → cs[j]? = some v) : isR W (.pointer (some ⟨g, 0, none⟩)) = true ∧ csR W (.pointer (some ⟨g, 0, none⟩)) = t.cs :=
  isR_of (fun j v hj => by rw [Nat.zero_add, hb.cell j]; exact hc j v hj) ht
theorem isB_new (w : World) (cs : Array Value) (hs : cs.size = 24) : isB (w.alloc (.cells cs 26)) w.heap.size = true := by
  unfold isB
  rw [heap_alloc_new]
  simp [hs]
theorem bel_new {w u : World} {g : Nat} (cs cs' : Array Value) (hg : g = u.heap.size) (h : Hid (Below w.heap.size w u)) : Hid (Below w.heap.size w ((u.alloc (.cells cs' 26)).drew.setRow g cs)) ∧ Hid (Box ((u.alloc (.cells cs' 26)).drew.setRow g cs) g 26 cs) ∧ Hid (Below u.heap.size u ((u.alloc (.cells cs' 26)).drew.setRow g cs)) := by
  subst hg
  have h1 : Below u.heap.size u ((u.alloc (.cells cs' 26)).drew.setRow u.heap.size cs) := (((Below.refl _ u).alloc (Nat.le_refl _) _).drew).trans ((Turn.setRow _ u.heap.size cs).below (Nat.le_refl _))
  exact ⟨bel_t h h1, hid (setRow_heap _ _ cs' cs 26 _ (heap_alloc_new u _)), hid h1⟩
theorem bel_al {u W : World} {o : Obj} (h : Below u.heap.size u W) : Below u.heap.size u (W.alloc o) := h.alloc h.size o
theorem bel_dr {u W : World} (h : Below u.heap.size u W) : Below u.heap.size u W.drew := h.drew
theorem box_al {W : World} {g : Nat} {t : TypeId} {cs : Array Value} {o : Obj} (h : Box W g t cs) : Box (W.alloc o) g t cs := box_below h ((Below.refl _ W).alloc (Nat.le_refl _) o)
theorem box_dr {W : World} {g : Nat} {t : TypeId} {cs : Array Value} (h : Box W g t cs) : Box W.drew g t cs := h
theorem box_nw {w : World} {g : Nat} {cs : Array Value} {t : TypeId} (hg : g = w.heap.size) : Box (w.alloc (.cells cs t)) g t cs := by
  subst hg
  exact Box.new w t cs
theorem isB_mk {W : World} {g : Nat} {cs : Array Value} (h : Box W g 26 cs) (hs : cs.size = 24) : isB W g = true := by
  unfold Box at h
  unfold isB
  rw [h]
  simp [hs]
theorem isB_kept {W W' : World} {g B : Nat} (h : isB W g = true) (hb : Kept B [5] W W') : isB W' g = true := isB_mk (hb.box (isB_box h).1 (by decide)) (isB_box h).2
theorem isB_below {W W' : World} {g : Nat} (h : isB W g = true) (hb : Below W.heap.size W W') : isB W' g = true := isB_mk (box_below (isB_box h).1 hb) (isB_box h).2
theorem cs26_of {W : World} {g : Nat} {cs : Array Value} (h : Box W g 26 cs) : cs26 W g = cs := by
  unfold Box at h
  unfold cs26
  rw [h]
theorem own_lit {W : World} {g base : Nat} (h : Box W g 5 #[]) (hb : base ≤ g) : W.ownsRow base 5 1 (.slice (some ⟨g, 0, none⟩) 0 0) 0 [] := by
  have := h.lt
  unfold Box at h
  refine ⟨by simp, Or.inr ⟨g, 0, #[], rfl, hb, by simpa using h, by simp, by simp, by simp, by simp⟩⟩
theorem Box.kept {W W' : World} {g B : Nat} {t : TypeId} {cs : Array Value} (h : Box W g t cs) (hb : Kept B [5] W W') (ht : t ∉ [5]) : Box W' g t cs := hb.box h ht
/-- In a region that draws its order: bytes are copied to an empty literal. -/
theorem step_copy {ops : Array Oper} {o : Oper} {a : Act} {K : Act → World → Prop} {Q : Exit → Act → World → Prop} {E : Prop} {W : World} (u v : World) (hgd : o.guard = none) (s x : Operand) (ho : o.op = .call { callee := .builtin .append, args := #[s, x], argTypes := #[38, 38] })
    (g : Nat) (hs : a.eval s = .slice (some ⟨g, 0, none⟩) 0 0) (hbox : Box W g 5 #[]) (hg : u.heap.size ≤ g) (hbel : Below u.heap.size u W) (hv : Below v.heap.size v W) (A : Option Addr) (n c : Nat) (bs : List UInt8) (hx : a.eval x = .slice A n c) (hS : Hid (SlB v v.heap.size A c bs)) (hn : Hid (bs.length = n)) (hm : n ≤ 1000000)
    (h : ∀ A2 c2 u2, Below u.heap.size u u2 → Hid (u2.ownsRow u.heap.size 5 1 (.slice A2 n c2) n (bv bs)) → K (a.put o.dst (.slice A2 n c2)) u2) :
    if Region.wanted o (yielded ops a.tmps) = true then Oper.wp Try.prog o a W K Q else E := by
  obtain rfl := hn.out
  obtain ⟨i5, hi5, hz5, hz51, hz52⟩ := info_parts Try.info5
  have how := own_lit hbox hg
  refine step_app _ hgd s x 38 ho u.heap.size 5 i5 _ 1 1 Try.underlying38 hi5 hz5 hz51 hz52 rfl (by decide) _ 0 0 [] hs how v.heap.size A bs.length c (bv bs) hx (by rw [bv_length, Nat.mul_one]) (hS.out.2.2.2.below hv) (bv_one _) (by unfold maxLen; omega) (by omega) hbel.size ?_
  intro A2 c2 u2 ho2 hg2
  simp only [Nat.zero_add, List.nil_append] at ho2 ⊢
  have hk : Kept u.heap.size [5] W u2 := (Kept.refl _ _ W).grown hg2 (fun k hk => by obtain ⟨a, cs, b⟩ := own_box how k hk; exact ⟨a, 5, cs, by simp, b⟩)
  exact h A2 c2 u2 (hbel.trans (hk.below hbel.size)) (hid ho2)
/-- In a region that draws its order: bytes are put behind what is the call's own. -/
theorem step_more {ops : Array Oper} {o : Oper} {a : Act} {K : Act → World → Prop} {Q : Exit → Act → World → Prop} {E : Prop} {W : World} (u v x0 : World) (hgd : o.guard = none) (s x : Operand) (ho : o.op = .call { callee := .builtin .append, args := #[s, x], argTypes := #[38, 38] })
    (A1 : Option Addr) (n1 c1 : Nat) (xs : List UInt8) (hs : a.eval s = .slice A1 n1 c1) (hown : Hid (v.ownsRow u.heap.size 5 1 (.slice A1 n1 c1) n1 (bv xs))) (hv : Below v.heap.size v W) (hbel : Below u.heap.size u W) (hx0 : Below x0.heap.size x0 W) (A : Option Addr) (n c : Nat) (bs : List UInt8) (hx : a.eval x = .slice A n c) (hS : Hid (SlB x0 x0.heap.size A c bs)) (hn : Hid (bs.length = n)) (hn1 : Hid (xs.length = n1)) (hm : n1 + n ≤ 1000000)
    (h : ∀ A2 c2 u2, Below u.heap.size u u2 → Hid (SlB u2 u2.heap.size A2 c2 (xs ++ bs)) → K (a.put o.dst (.slice A2 (n1 + n) c2)) u2) :
    if Region.wanted o (yielded ops a.tmps) = true then Oper.wp Try.prog o a W K Q else E := by
  obtain rfl := hn.out
  obtain rfl := hn1.out
  obtain ⟨i5, hi5, hz5, hz51, hz52⟩ := info_parts Try.info5
  have how := own_keep hown.out hv
  refine step_app _ hgd s x 38 ho u.heap.size 5 i5 _ 1 1 Try.underlying38 hi5 hz5 hz51 hz52 rfl (by decide) A1 _ c1 (bv xs) hs how x0.heap.size A bs.length c (bv bs) hx (by rw [bv_length, Nat.mul_one]) (hS.out.2.2.2.below hx0) (bv_one _) (by unfold maxLen; omega) (by omega) hbel.size ?_
  intro A2 c2 u2 ho2 hg2
  rw [← bv_append] at ho2
  have hk : Kept u.heap.size [5] W u2 := (Kept.refl _ _ W).grown hg2 (fun k hk => by obtain ⟨a, cs, b⟩ := own_box how k hk; exact ⟨a, 5, cs, by simp, b⟩)
  rw [← List.length_append] at ho2
  exact h A2 c2 u2 (hbel.trans (hk.below hbel.size)) (hid (own_slb (_n := 0) ho2))
theorem run_front {w : World} {B : Nat} {A : Option Addr} {n c k : Nat} {bs : List UInt8} (hS : SlB w B A c bs) (hn : bs.length = n) (hk : k ≤ n) (W : World) : (Instr.sliceAt 38 (.slice A n c) none (some (.int .i64 (k : Int))) none).run Try.prog W = .ok (.slice A k c) W := by
  have hc : A = none → c = 0 := hS.2.2.1
  have hl := hS.1
  have hk2 : (k : Int) ≤ (c : Int) := by omega
  rcases A with _ | ad
  · obtain rfl := hc rfl
    obtain rfl : k = 0 := by omega
    simp [Instr.sliceAt, Instr.slice, go_sem]
  · simp [Instr.sliceAt, Instr.slice, go_sem, hk2]
theorem run_back {w : World} {B : Nat} {A : Option Addr} {n c k : Nat} {bs : List UInt8} (hS : SlB w B A c bs) (hn : bs.length = n) (hk : k ≤ n) : ∃ A2 c2, (∀ W : World, (Instr.sliceAt 38 (.slice A n c) (some (.int .i64 (k : Int))) none none).run Try.prog W = .ok (.slice A2 (n - k) c2) W) ∧ Hid (SlB w B A2 c2 (bs.drop k)) := by
  have hc : A = none → c = 0 := hS.2.2.1
  have hl := hS.1
  have hk2 : (k : Int) ≤ (c : Int) := by omega
  rcases A with _ | ad
  · obtain rfl := hc rfl
    obtain rfl : n = 0 := by omega
    obtain rfl : k = 0 := by omega
    refine ⟨none, 0, fun W => ?_, hid ?_⟩
    · simp [Instr.sliceAt, Instr.slice, go_sem]
    · have : bs = [] := List.eq_nil_of_length_eq_zero hn
      subst this
      exact hS
  · refine ⟨some (if c = k then ad else ad.add k), c - k, fun W => ?_, hid (hS.drop k (by omega))⟩
    simp [Instr.sliceAt, Instr.slice, go_sem, hk]
    split <;> rfl
end Go.Proofs.Ythaecflakefklaa
