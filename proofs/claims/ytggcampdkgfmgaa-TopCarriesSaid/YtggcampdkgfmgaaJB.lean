import Derived.Test.YtggcampdkgfmgaaJA
import Derived.Deep.RegionHeld3
import Derived.BigQuiet
import Derived.Deep.QuietTactic
import Derived.Lib.SliceRun
import Derived.Lib.SlBytesConst
namespace Go.Proofs.Ytggcampdkgfmgaa
open Go.RowKit

theorem info_parts {P : Program} {t : TypeId} {z : Value} {s b : Nat} (h : (P.info? t).map (fun i => (i.zero, i.size, i.bytes)) = some (some z, s, b)) : ∃ i, P.info? t = some i ∧ i.zero = some z ∧ i.size = s ∧ i.bytes = b := by
  cases hq : P.info? t with
  | none => simp [hq] at h
  | some i =>
    simp [hq] at h
    exact ⟨i, rfl, h.1, h.2.1, h.2.2⟩
/-- A call has answered these bytes; nothing that was there has turned. -/
def Ret (w : World) (bs : List UInt8) (e : Ending) (w' : World) : Prop := ∃ A n c, e = .returned (.slice A n c) ∧ Hid (bs.length = n) ∧ Hid (SlB w' w'.heap.size A c bs) ∧ Hid (Below w.heap.size w w')
/-- Bytes are put behind what is the call's own. -/
theorem app_own {ops : Array Oper} {rest : List Oper} {o : Oper} {a : Act} {Q : Exit → Act → World → Prop} (w : World) (hgd : o.guard = none) (s x : Operand) (ho : o.op = .call { callee := .builtin .append, args := #[s, x], argTypes := #[27, 27] })
    (base n c : Nat) (A : Option Addr) (xs : List UInt8) (hs : a.eval s = .slice A n c) (hown : Hid (w.ownsRow base 5 1 (.slice A n c) n (bv xs))) (hb : base ≤ w.heap.size) (A2 : Option Addr) (m c2 : Nat) (ys : List UInt8)
    (hx : a.eval x = .slice A2 m c2) (hS : Hid (SlB w w.heap.size A2 c2 ys)) (hy : ys.length = m) (hm : n + m ≤ 1000000)
    (h : ∀ A' c' w', Hid (w'.ownsRow base 5 1 (.slice A' (n + m) c') (n + m) (bv (xs ++ ys))) → Hid (Kept base [5] w w') → wpList Try.prog ops Q rest (a.put o.dst (.slice A' (n + m) c')) w') : wpList Try.prog ops Q (o :: rest) a w := by
  subst hy
  obtain ⟨i5, hi5, hz5, hz51, hz52⟩ := info_parts Try.info5
  refine wpList_app _ hgd s x 27 ho base 5 i5 _ 1 1 Try.underlying27 hi5 hz5 hz51 hz52 rfl (by decide) A n c (bv xs) hs hown.out w.heap.size A2 ys.length c2 (bv ys) hx (by rw [bv_length, Nat.mul_one]) hS.out.2.2.2 (bv_one _) (by unfold maxLen; omega) (by omega) hb ?_
  intro A3 c3 u2 ho2 hg2
  rw [← bv_append] at ho2
  have hk : Kept base [5] w u2 := (Kept.refl base [5] w).grown hg2 (fun k hk => by obtain ⟨a, cs, b⟩ := own_box hown.out k hk; exact ⟨a, 5, cs, by simp, b⟩)
  exact h A3 c3 u2 (hid ho2) (hid hk)
theorem ret_lit {w u : World} {bs : List UInt8} {n g : Nat} {cs : Array Value} (hc : (bv bs).toArray = cs) (hn : bs.length = n) (hm : n ≤ maxLen) (hg : g = u.heap.size) (hb : Hid (Below w.heap.size w u)) : Ret w bs (.returned (.slice (some ⟨g, 0, none⟩) n n)) (u.alloc (.cells cs 5)) := by
  subst hg
  exact ⟨_, n, n, rfl, hid hn, hid (slb_lit u bs n cs hc hn hm), hid (hb.out.alloc hb.out.size _)⟩
theorem ret_nil {w u : World} (hb : Hid (Below w.heap.size w u)) : Ret w [] (.returned (.slice none 0 0)) u := ⟨none, 0, 0, rfl, hid rfl, hid ⟨Nat.le_refl _, Nat.zero_le _, fun _ => rfl, Lies.nil_⟩, hb⟩
theorem slb_cell {w : World} {B n c : Nat} {A : Option Addr} {bs : List UInt8} (h : SlB w B A c bs) {j : Nat} (hn : bs.length = n) (hj : j < n) : ∃ b o y, A = some ⟨b, o, none⟩ ∧ bs[j]? = some y ∧ w.cell? ⟨b, o + j, none⟩ = some (.int .u8 (y.toNat : Int)) := by
  subst hn
  obtain ⟨b, o, rfl, hb, hc⟩ := h.2.2.2 (by
    intro e
    have : bs = [] := by simpa [bv] using e
    rw [this] at hj
    simp at hj)
  obtain ⟨y, hy⟩ : ∃ y, bs[j]? = some y := ⟨_, List.getElem?_eq_getElem hj⟩
  exact ⟨b, o, y, rfl, hy, hc j _ (by simp [bv, hy])⟩
theorem ret_own {w u : World} {bs : List UInt8} {n c : Nat} {A : Option Addr} (hn : bs.length = n) (ho : Hid (u.ownsRow w.heap.size 5 1 (.slice A n c) n (bv bs))) (hb : Hid (Below w.heap.size w u)) : Ret w bs (.returned (.slice A n c)) u := by
  subst hn
  exact ⟨A, _, c, rfl, hid rfl, hid (own_slb (_n := 0) ho.out), hb⟩
theorem bel_k {w a b : World} (h : Hid (Below w.heap.size w a)) (k : Hid (Kept w.heap.size [5] a b)) : Hid (Below w.heap.size w b) := hid (h.out.trans (k.out.below h.out.size))
section
variable {ops : Array Oper} {rest : List Oper} {o : Oper} {a : Act} {w : World} {Q : Exit → Act → World → Prop}
/-- A new variable of a setting's type takes one. -/
theorem sn26 (hw : Region.wanted o (yielded ops a.tmps) = true) (x y : Operand) (ho : o.op = .store 26 x y) (w0 : World) (cs : Array Value) (hs : cs.size = 24) (hw0 : w = w0.alloc (.cells cs 26)) (hx : a.eval x = .pointer (some ⟨w0.heap.size, 0, none⟩)) (t : Tm) (ht : t.c.length = 19) (hy : a.eval y = .agg t.cs)
    (h : ∀ w', Hid (Box w' w0.heap.size 26 t.cs) → Hid (Below w0.heap.size w0 w') → wpList Try.prog ops Q rest (a.put o.dst undef) w') : wpList Try.prog ops Q (o :: rest) a w := by
  subst hw0
  refine st26 hw x y ho w0.heap.size hx t ht hy cs (Box.new w0 26 cs) hs ?_
  intro w' hb hk
  exact h w' hb (hid (((Below.refl _ w0).alloc (Nat.le_refl _) _).trans (hk.out.below (Nat.le_refl _))))
end
theorem bytes_eq (w : World) (A A2 : Option Addr) (c c2 n : Nat) (xs : List UInt8) (hn : xs.length = n) (hx : Hid (SlB w w.heap.size A c xs)) (hy : Hid (SlB w w.heap.size A2 c2 xs)) (hl : n ≤ maxLen) :
    Calls Try.prog 9 #[.slice A n c, .slice A2 n c2] w fun e w' => e = .returned (.bool true) ∧ Hid (Below w.heap.size w w') := by
  subst hn
  refine (bytes_any w _ _ A A2 c c2 xs xs hx.out.2.2.2 hy.out.2.2.2 hl hl).mono ?_
  rintro e w' ⟨rfl, k, rfl⟩
  exact ⟨by simp, hid (bel_drewN (Below.refl _ _) k)⟩
theorem bytes_two (w : World) (A A2 : Option Addr) (c c2 n n2 : Nat) (xs ys : List UInt8) (hn : xs.length = n) (hn2 : ys.length = n2) (hxy : xs = ys) (hx : Hid (SlB w w.heap.size A c xs)) (hy : Hid (SlB w w.heap.size A2 c2 ys)) (hl : n ≤ maxLen) :
    Calls Try.prog 9 #[.slice A n c, .slice A2 n2 c2] w fun e w' => e = .returned (.bool true) ∧ Hid (Below w.heap.size w w') := by
  subst hxy
  obtain rfl : n = n2 := by omega
  exact bytes_eq w A A2 c c2 n xs hn hx hy hl
theorem bytes_lit (w : World) (A : Option Addr) (c n g : Nat) (xs : List UInt8) (hn : xs.length = n) (hx : Hid (SlB w w.heap.size A c xs)) (cs : Array Value) (hc : (bv xs).toArray = cs) (hg : g = w.heap.size) (hl : n ≤ maxLen) :
    Calls Try.prog 9 #[.slice A n c, .slice (some ⟨g, 0, none⟩) n n] (w.alloc (.cells cs 5)) fun e w' => e = .returned (.bool true) ∧ Hid (Below w.heap.size w w') := by
  subst hg
  refine (bytes_eq _ A _ c n n xs hn (slb_at hx (hid ((Below.refl _ w).alloc (Nat.le_refl _) _))) (hid (slb_lit w xs n cs hc hn hl)) hl).mono ?_
  rintro e w' ⟨rfl, h⟩
  exact ⟨rfl, hid (((Below.refl _ w).alloc (Nat.le_refl _) _).trans (h.out.mono (by simp)))⟩
section
variable {dst : Option Tmp} {x : Operand} {ty : TypeId} {pos : String} {after : Array Edge} {gd : Option (Nat × Bool)}
theorem ex_ld26 {ev : Operand → Value} {w : World} (h1 : isP (ev x) = true) (h2 : isB w (blkV (ev x)) = true) :
    (execOp ev { dst, op := .load 26 x, type := ty, pos, after, guard := gd }).run Try.prog w = .ok (.value (.agg (cs26 w (blkV (ev x))))) w := by
  obtain ⟨hb, hs⟩ := isB_box h2
  have hx := isP_eq h1
  generalize blkV (ev x) = g at *
  unfold execOp
  simp only [hx, Instr.loadAt, Instr.sureAddr, Sem.run_bind, Sem.run_pure, Result.andThen_ok, run_loadVar_row (P := Try.prog) w g 26 26 _ (0, 0) _ hb Try.underlying26 rfl (by rw [hs]; exact Try.size26)]
end
theorem drw {w u : World} (h : Hid (Below w.heap.size w u)) : Hid (Below w.heap.size w u.drew) := hid h.out.drew
/-- A stream is copied to an empty literal. -/
theorem app_copy {ops : Array Oper} {rest : List Oper} {o : Oper} {a : Act} {Q : Exit → Act → World → Prop} (w : World) (hgd : o.guard = none) (s x : Operand) (ho : o.op = .call { callee := .builtin .append, args := #[s, x], argTypes := #[27, 27] })
    (hs : a.eval s = .slice (some ⟨w.heap.size, 0, none⟩) 0 0) (A : Option Addr) (n c : Nat) (bs : List UInt8) (hx : a.eval x = .slice A n c) (hS : Hid (SlB w w.heap.size A c bs)) (hn : bs.length = n) (hm : n ≤ 1000000)
    (h : ∀ A2 c2 u2, Hid (Below w.heap.size w u2) → Hid (SlB u2 u2.heap.size A2 c2 bs) → wpList Try.prog ops Q rest (a.put o.dst (.slice A2 n c2)) u2) : wpList Try.prog ops Q (o :: rest) a (w.alloc (.cells #[] 5)) := by
  subst hn
  obtain ⟨i5, hi5, hz5, hz51, hz52⟩ := info_parts Try.info5
  refine wpList_app _ hgd s x 27 ho w.heap.size 5 i5 _ 1 1 Try.underlying27 hi5 hz5 hz51 hz52 rfl (by decide) _ 0 0 [] hs (lit_own (Nat.le_refl _) rfl) w.heap.size A bs.length c (bv bs) hx (by rw [bv_length, Nat.mul_one]) (hS.out.2.2.2.alloc (Nat.le_refl _) _) (bv_one _) (by unfold maxLen; omega) (by omega) (by simp) ?_
  intro A2 c2 u2 ho2 hg2
  simp only [Nat.zero_add, List.nil_append] at ho2 ⊢
  exact h A2 c2 u2 (hid (lit_grown rfl hg2)) (hid (own_slb (_n := 0) ho2))
/-- Twenty-four cells from a pointer on. -/
def rng26 (w : World) (v : Value) : Option (List Value) := match v with
  | .pointer (some ⟨g, o, none⟩) => (List.range 24).mapM fun j => w.cell? ⟨g, o + j, none⟩
  | _ => none
def isR (w : World) (v : Value) : Bool := (rng26 w v).isSome
def csR (w : World) (v : Value) : Array Value := ((rng26 w v).getD []).toArray
theorem rng_at {w : World} {v : Value} (h : isR w v = true) : ∃ g o l, v = .pointer (some ⟨g, o, none⟩) ∧ w.rangeAt g o l ∧ l.length = 24 ∧ csR w v = l.toArray := by
  unfold isR at h
  obtain ⟨l, hl⟩ := Option.isSome_iff_exists.1 h
  have hl' := hl
  unfold rng26 at hl
  split at hl
  · rename_i g o
    refine ⟨g, o, l, rfl, ?_, ?_, by simp [csR, hl']⟩
    · intro j v hj
      have hlen := mapM_some_length hl
      have hjl : j < 24 := by
        have := (List.getElem?_eq_some_iff.1 hj).1
        simp at hlen
        omega
      have := mapM_some_get hl j j (by simp [hjl])
      rw [this, hj]
    · have := mapM_some_length hl
      simpa using this
  · cases hl
theorem wp_ldR {dst : Option Tmp} {x : Operand} {ty : TypeId} {pos : String} {after : Array Edge} {gd : Option (Nat × Bool)} {a : Act} {w : World} {K : Act → World → Prop} {Q : Exit → Act → World → Prop} (h : isR w (a.eval x) = true) :
    Oper.wp Try.prog { dst, op := .load 26 x, type := ty, pos, after, guard := gd } a w K Q = K (a.put dst (.agg (csR w (a.eval x)))) w := by
  obtain ⟨g, o, l, hx, hr, hl, hc⟩ := rng_at h
  unfold Oper.wp execOp
  rw [hc]
  simp only [hx, Instr.loadAt, Instr.sureAddr, Sem.run_bind, Sem.run_pure, Result.andThen_ok, run_loadVar_mid (P := Try.prog) w g o 26 l _ hr Try.underlying26 rfl (by rw [hl]; exact Try.size26)]
  rfl
theorem isR_of {w : World} {g o : Nat} {t : Tm} (h : w.rangeAt g o t.cl) (ht : t.c.length = 19) : isR w (.pointer (some ⟨g, o, none⟩)) = true ∧ csR w (.pointer (some ⟨g, o, none⟩)) = t.cs := by
  have e : rng26 w (.pointer (some ⟨g, o, none⟩)) = some t.cl := by
    show ((List.range 24).mapM fun j => w.cell? ⟨g, o + j, none⟩) = some t.cl
    have hl := cl_len ht
    have : ∀ (n : Nat) (l : List Value) (f : Nat → Option Value), l.length = n → (∀ j v, l[j]? = some v → f j = some v) → (List.range n).mapM f = some l := by
      intro n
      induction n with
      | zero => intro l f hl _; have : l = [] := List.eq_nil_of_length_eq_zero hl; subst this; simp
      | succ n ih =>
        intro l f hl hf
        obtain ⟨l', v, rfl⟩ : ∃ l' v, l = l' ++ [v] := by
          rcases List.eq_nil_or_concat l with h | ⟨l', v, h⟩
          · subst h; simp at hl
          · exact ⟨l', v, by simpa using h⟩
        have hl' : l'.length = n := by simpa using hl
        rw [List.range_succ, List.mapM_append, ih l' f hl' (fun j u hj => hf j u (by rw [List.getElem?_append_left ((List.getElem?_eq_some_iff.1 hj).1)]; exact hj))]
        have := hf n v (by rw [List.getElem?_append_right (by omega), hl']; simp)
        simp [this]
    exact this 24 t.cl _ hl h
  exact ⟨by simp [isR, e], by simp [csR, e, Tm.cs]⟩
theorem run_boxT (w : World) (T : TypeId) (cs : Array Value) (hT : (Try.prog.info? T).map (·.size) = some cs.size) : (Instr.box T (.agg cs)).run Try.prog w = .ok (.pointer (some ⟨w.heap.size, 0, none⟩)) (w.alloc (.cells cs T)) := by
  cases hq : Try.prog.info? T with
  | none => simp [hq] at hT
  | some i => simp [hq] at hT; simp [Instr.box, newVar, newRow, Value.cells]
theorem bxT {ops : Array Oper} {rest : List Oper} {o : Oper} {a : Act} {w : World} {Q : Exit → Act → World → Prop} (hw : Region.wanted o (yielded ops a.tmps) = true) (T : TypeId) (x : Operand) (ho : o.op = .box T x) (cs : Array Value) (hx : a.eval x = .agg cs) (hT : (Try.prog.info? T).map (·.size) = some cs.size)
    (h : wpList Try.prog ops Q rest (a.put o.dst (.pointer (some ⟨w.heap.size, 0, none⟩))) (w.alloc (.cells cs T))) : wpList Try.prog ops Q (o :: rest) a w :=
  BigFrame.wpList_want hw fun _ hK => by
    unfold Oper.wp execOp
    simp only [ho, hx, Sem.run_bind, run_boxT w T cs hT, Result.andThen_ok]
    exact hK _ _ h
theorem front_at {t : Tm} (ht : t.c.length = 19) (a b c : Value) : ((t.cl ++ [a, b, c]).toArray.size = 27) ∧ (∀ (j : Nat) (v : Value), t.cl[j]? = some v → (t.cl ++ [a, b, c]).toArray[j]? = some v) ∧ (t.cl ++ [a, b, c]).toArray[24]? = some a ∧ (t.cl ++ [a, b, c]).toArray[25]? = some b ∧ (t.cl ++ [a, b, c]).toArray[26]? = some c := by
  have hl := cl_len ht
  refine ⟨by simp [hl], fun j v hj => ?_, ?_, ?_, ?_⟩
  · have := (List.getElem?_eq_some_iff.1 hj).1
    rw [List.getElem?_toArray, List.getElem?_append_left this, hj]
  · rw [List.getElem?_toArray, List.getElem?_append_right (by omega), hl]; rfl
  · rw [List.getElem?_toArray, List.getElem?_append_right (by omega), hl]; rfl
  · rw [List.getElem?_toArray, List.getElem?_append_right (by omega), hl]; rfl
theorem front_R {W : World} {g : Nat} {T : TypeId} {cs : Array Value} {t : Tm} (ht : t.c.length = 19) (hb : Box W g T cs) (hc : ∀ (j : Nat) (v : Value), t.cl[j]? = some v → cs[j]? = some v) : isR W (.pointer (some ⟨g, 0, none⟩)) = true ∧ csR W (.pointer (some ⟨g, 0, none⟩)) = t.cs :=
  isR_of (fun j v hj => by rw [Nat.zero_add, hb.cell j]; exact hc j v hj) ht
theorem isB_new (w : World) (cs : Array Value) (hs : cs.size = 24) : isB (w.alloc (.cells cs 26)) w.heap.size = true := by
  unfold isB
  rw [heap_alloc_new]
  simp [hs]
theorem bel_new {w u : World} {g : Nat} (cs cs' : Array Value) (hg : g = u.heap.size) (h : Hid (Below w.heap.size w u)) : Hid (Below w.heap.size w ((u.alloc (.cells cs' 26)).drew.setRow g cs)) ∧ Hid (Box ((u.alloc (.cells cs' 26)).drew.setRow g cs) g 26 cs) ∧ Hid (Below u.heap.size u ((u.alloc (.cells cs' 26)).drew.setRow g cs)) := by
  subst hg
  have h1 : Below u.heap.size u ((u.alloc (.cells cs' 26)).drew.setRow u.heap.size cs) := (((Below.refl _ u).alloc (Nat.le_refl _) _).drew).trans ((Turn.setRow _ u.heap.size cs).below (Nat.le_refl _))
  exact ⟨bel_t h h1, hid (setRow_heap _ _ cs' cs 26 _ (heap_alloc_new u _)), hid h1⟩
theorem bel_al {u W : World} {o : Obj} (h : Below u.heap.size u W) : Below u.heap.size u (W.alloc o) := h.alloc h.size o
theorem bel_dr {u W : World} (h : Below u.heap.size u W) : Below u.heap.size u W.drew := h.drew
theorem box_al {W : World} {g : Nat} {t : TypeId} {cs : Array Value} {o : Obj} (h : Box W g t cs) : Box (W.alloc o) g t cs := box_below h ((Below.refl _ W).alloc (Nat.le_refl _) o)
theorem box_dr {W : World} {g : Nat} {t : TypeId} {cs : Array Value} (h : Box W g t cs) : Box W.drew g t cs := h
theorem box_nw {w : World} {g : Nat} {cs : Array Value} {t : TypeId} (hg : g = w.heap.size) : Box (w.alloc (.cells cs t)) g t cs := by
  subst hg
  exact Box.new w t cs
theorem isB_mk {W : World} {g : Nat} {cs : Array Value} (h : Box W g 26 cs) (hs : cs.size = 24) : isB W g = true := by
  unfold Box at h
  unfold isB
  rw [h]
  simp [hs]
theorem isB_kept {W W' : World} {g B : Nat} (h : isB W g = true) (hb : Kept B [5] W W') : isB W' g = true := isB_mk (hb.box (isB_box h).1 (by decide)) (isB_box h).2
theorem isB_below {W W' : World} {g : Nat} (h : isB W g = true) (hb : Below W.heap.size W W') : isB W' g = true := isB_mk (box_below (isB_box h).1 hb) (isB_box h).2
theorem cs26_of {W : World} {g : Nat} {cs : Array Value} (h : Box W g 26 cs) : cs26 W g = cs := by
  unfold Box at h
  unfold cs26
  rw [h]
theorem own_lit {W : World} {g base : Nat} (h : Box W g 5 #[]) (hb : base ≤ g) : W.ownsRow base 5 1 (.slice (some ⟨g, 0, none⟩) 0 0) 0 [] := by
  have := h.lt
  unfold Box at h
  refine ⟨by simp, Or.inr ⟨g, 0, #[], rfl, hb, by simpa using h, by simp, by simp, by simp, by simp⟩⟩
theorem Box.kept {W W' : World} {g B : Nat} {t : TypeId} {cs : Array Value} (h : Box W g t cs) (hb : Kept B [5] W W') (ht : t ∉ [5]) : Box W' g t cs := hb.box h ht
/-- In a region that draws its order: bytes are copied to an empty literal. -/
theorem step_copy {ops : Array Oper} {o : Oper} {a : Act} {K : Act → World → Prop} {Q : Exit → Act → World → Prop} {E : Prop} {W : World} (u v : World) (hgd : o.guard = none) (s x : Operand) (ho : o.op = .call { callee := .builtin .append, args := #[s, x], argTypes := #[27, 27] })
    (g : Nat) (hs : a.eval s = .slice (some ⟨g, 0, none⟩) 0 0) (hbox : Box W g 5 #[]) (hg : u.heap.size ≤ g) (hbel : Below u.heap.size u W) (hv : Below v.heap.size v W) (A : Option Addr) (n c : Nat) (bs : List UInt8) (hx : a.eval x = .slice A n c) (hS : Hid (SlB v v.heap.size A c bs)) (hn : Hid (bs.length = n)) (hm : n ≤ 1000000)
    (h : ∀ A2 c2 u2, Below u.heap.size u u2 → Hid (u2.ownsRow u.heap.size 5 1 (.slice A2 n c2) n (bv bs)) → K (a.put o.dst (.slice A2 n c2)) u2) :
    if Region.wanted o (yielded ops a.tmps) = true then Oper.wp Try.prog o a W K Q else E := by
  obtain rfl := hn.out
  obtain ⟨i5, hi5, hz5, hz51, hz52⟩ := info_parts Try.info5
  have how := own_lit hbox hg
  refine step_app _ hgd s x 27 ho u.heap.size 5 i5 _ 1 1 Try.underlying27 hi5 hz5 hz51 hz52 rfl (by decide) _ 0 0 [] hs how v.heap.size A bs.length c (bv bs) hx (by rw [bv_length, Nat.mul_one]) (hS.out.2.2.2.below hv) (bv_one _) (by unfold maxLen; omega) (by omega) hbel.size ?_
  intro A2 c2 u2 ho2 hg2
  simp only [Nat.zero_add, List.nil_append] at ho2 ⊢
  have hk : Kept u.heap.size [5] W u2 := (Kept.refl _ _ W).grown hg2 (fun k hk => by obtain ⟨a, cs, b⟩ := own_box how k hk; exact ⟨a, 5, cs, by simp, b⟩)
  exact h A2 c2 u2 (hbel.trans (hk.below hbel.size)) (hid ho2)
/-- In a region that draws its order: bytes are put behind what is the call's own. -/
theorem step_more {ops : Array Oper} {o : Oper} {a : Act} {K : Act → World → Prop} {Q : Exit → Act → World → Prop} {E : Prop} {W : World} (u v x0 : World) (hgd : o.guard = none) (s x : Operand) (ho : o.op = .call { callee := .builtin .append, args := #[s, x], argTypes := #[27, 27] })
    (A1 : Option Addr) (n1 c1 : Nat) (xs : List UInt8) (hs : a.eval s = .slice A1 n1 c1) (hown : Hid (v.ownsRow u.heap.size 5 1 (.slice A1 n1 c1) n1 (bv xs))) (hv : Below v.heap.size v W) (hbel : Below u.heap.size u W) (hx0 : Below x0.heap.size x0 W) (A : Option Addr) (n c : Nat) (bs : List UInt8) (hx : a.eval x = .slice A n c) (hS : Hid (SlB x0 x0.heap.size A c bs)) (hn : Hid (bs.length = n)) (hn1 : Hid (xs.length = n1)) (hm : n1 + n ≤ 1000000)
    (h : ∀ A2 c2 u2, Below u.heap.size u u2 → Hid (SlB u2 u2.heap.size A2 c2 (xs ++ bs)) → K (a.put o.dst (.slice A2 (n1 + n) c2)) u2) :
    if Region.wanted o (yielded ops a.tmps) = true then Oper.wp Try.prog o a W K Q else E := by
  obtain rfl := hn.out
  obtain rfl := hn1.out
  obtain ⟨i5, hi5, hz5, hz51, hz52⟩ := info_parts Try.info5
  have how := own_keep hown.out hv
  refine step_app _ hgd s x 27 ho u.heap.size 5 i5 _ 1 1 Try.underlying27 hi5 hz5 hz51 hz52 rfl (by decide) A1 _ c1 (bv xs) hs how x0.heap.size A bs.length c (bv bs) hx (by rw [bv_length, Nat.mul_one]) (hS.out.2.2.2.below hx0) (bv_one _) (by unfold maxLen; omega) (by omega) hbel.size ?_
  intro A2 c2 u2 ho2 hg2
  rw [← bv_append] at ho2
  have hk : Kept u.heap.size [5] W u2 := (Kept.refl _ _ W).grown hg2 (fun k hk => by obtain ⟨a, cs, b⟩ := own_box how k hk; exact ⟨a, 5, cs, by simp, b⟩)
  rw [← List.length_append] at ho2
  exact h A2 c2 u2 (hbel.trans (hk.below hbel.size)) (hid (own_slb (_n := 0) ho2))
theorem run_front {w : World} {B : Nat} {A : Option Addr} {n c k : Nat} {bs : List UInt8} (hS : SlB w B A c bs) (hn : bs.length = n) (hk : k ≤ n) (W : World) : (Instr.sliceAt 27 (.slice A n c) none (some (.int .i64 (k : Int))) none).run Try.prog W = .ok (.slice A k c) W := by
  have hc : A = none → c = 0 := hS.2.2.1
  have hl := hS.1
  have hk2 : (k : Int) ≤ (c : Int) := by omega
  rcases A with _ | ad
  · obtain rfl := hc rfl
    obtain rfl : k = 0 := by omega
    simp [Instr.sliceAt, Instr.slice, go_sem]
  · simp [Instr.sliceAt, Instr.slice, go_sem, hk2]
theorem run_back {w : World} {B : Nat} {A : Option Addr} {n c k : Nat} {bs : List UInt8} (hS : SlB w B A c bs) (hn : bs.length = n) (hk : k ≤ n) : ∃ A2 c2, (∀ W : World, (Instr.sliceAt 27 (.slice A n c) (some (.int .i64 (k : Int))) none none).run Try.prog W = .ok (.slice A2 (n - k) c2) W) ∧ Hid (SlB w B A2 c2 (bs.drop k)) := by
  have hc : A = none → c = 0 := hS.2.2.1
  have hl := hS.1
  have hk2 : (k : Int) ≤ (c : Int) := by omega
  rcases A with _ | ad
  · obtain rfl := hc rfl
    obtain rfl : n = 0 := by omega
    obtain rfl : k = 0 := by omega
    refine ⟨none, 0, fun W => ?_, hid ?_⟩
    · simp [Instr.sliceAt, Instr.slice, go_sem]
    · have : bs = [] := List.eq_nil_of_length_eq_zero hn
      subst this
      exact hS
  · refine ⟨some (if c = k then ad else ad.add k), c - k, fun W => ?_, hid (hS.drop k (by omega))⟩
    simp [Instr.sliceAt, Instr.slice, go_sem, hk]
    split <;> rfl
end Go.Proofs.Ytggcampdkgfmgaa
namespace Go.Proofs.Ytggcampdkgfmgaa
open Go.RowKit

def ctlB (c : UInt8) : Bool := decide (c.toNat < 32) || decide (c.toNat = 127)
def contB (c : UInt8) : Bool := decide (128 ≤ c.toNat) && decide (c.toNat ≤ 191)
theorem u8_ne {c d : UInt8} (h : c ≠ d) : (((c.toNat : Int)) == (d.toNat : Int)) = false := by
  apply beq_eq_false_iff_ne.2
  intro e
  exact h (UInt8.toNat_inj.1 (by omega))
/-- A call has answered these bytes in memory of its own. -/
def Own (w : World) (bs : List UInt8) (e : Ending) (w' : World) : Prop := ∃ A n c, e = .returned (.slice A n c) ∧ Hid (bs.length = n) ∧ Hid (w'.ownsRow w.heap.size 5 1 (.slice A n c) n (bv bs)) ∧ Hid (Below w.heap.size w w')
theorem own_ret {w w' : World} {bs : List UInt8} {e : Ending} (h : Own w bs e w') : Ret w bs e w' := by
  obtain ⟨A, n, c, rfl, hn, ho, hb⟩ := h
  exact ret_own hn.out ho hb
/-- Bytes are copied to an empty literal: a row of the call's own. -/
theorem app_copyo {ops : Array Oper} {rest : List Oper} {o : Oper} {a : Act} {Q : Exit → Act → World → Prop} (w : World) (hgd : o.guard = none) (s x : Operand) (ho : o.op = .call { callee := .builtin .append, args := #[s, x], argTypes := #[27, 27] })
    (hs : a.eval s = .slice (some ⟨w.heap.size, 0, none⟩) 0 0) (A : Option Addr) (n c : Nat) (bs : List UInt8) (hx : a.eval x = .slice A n c) (hS : Hid (SlB w w.heap.size A c bs)) (hn : bs.length = n) (hm : n ≤ 1000000)
    (h : ∀ A2 c2 u2, Hid (Below w.heap.size w u2) → Hid (u2.ownsRow w.heap.size 5 1 (.slice A2 n c2) n (bv bs)) → wpList Try.prog ops Q rest (a.put o.dst (.slice A2 n c2)) u2) : wpList Try.prog ops Q (o :: rest) a (w.alloc (.cells #[] 5)) := by
  subst hn
  obtain ⟨i5, hi5, hz5, hz51, hz52⟩ := info_parts Try.info5
  refine wpList_app _ hgd s x 27 ho w.heap.size 5 i5 _ 1 1 Try.underlying27 hi5 hz5 hz51 hz52 rfl (by decide) _ 0 0 [] hs (lit_own (Nat.le_refl _) rfl) w.heap.size A bs.length c (bv bs) hx (by rw [bv_length, Nat.mul_one]) (hS.out.2.2.2.alloc (Nat.le_refl _) _) (bv_one _) (by unfold maxLen; omega) (by omega) (by simp) ?_
  intro A2 c2 u2 ho2 hg2
  simp only [Nat.zero_add, List.nil_append] at ho2 ⊢
  exact h A2 c2 u2 (hid (lit_grown rfl hg2)) (hid ho2)
theorem own_bel {w u : World} {bs : List UInt8} {fn : FuncId} {args : Array Value} (hb : Hid (Below w.heap.size w u)) {v : World} (h : Calls Try.prog fn args v (Own u bs)) : Calls Try.prog fn args v (Own w bs) := by
  refine h.mono ?_
  rintro e w' ⟨A, m, c, rfl, h1, ho, hb2⟩
  exact ⟨A, m, c, rfl, h1, hid (own_mono ho.out hb.out.size), bel_t hb hb2.out⟩
theorem old26 (w : World) (t : Tm) : Hid (Below w.heap.size w (w.alloc (.cells t.cs 26))) := hid ((Below.refl _ w).alloc (Nat.le_refl _) _)
theorem box_k {a b : World} {g : Nat} {cs : Array Value} {B : Nat} (h : Hid (Box a g 26 cs)) (k : Hid (Kept B [5] a b)) : Hid (Box b g 26 cs) := hid (k.out.box h.out (by decide))
theorem slb_own {w : World} {base n c : Nat} {A : Option Addr} {bs : List UInt8} (hn : Hid (bs.length = n)) (h : Hid (w.ownsRow base 5 1 (.slice A n c) n (bv bs))) : Hid (SlB w w.heap.size A c bs) := by
  obtain rfl := hn.out
  exact hid (own_slb (_n := 0) h.out)
theorem ret_i64 {x y : Int} (h : x = y) : Ending.returned (.int .i64 x) = .returned (.int .i64 y) := by rw [h]
theorem slb_up {u W : World} {A : Option Addr} {c : Nat} {bs : List UInt8} (h : Hid (SlB u u.heap.size A c bs)) (hW : Below u.heap.size u W) : Hid (SlB W W.heap.size A c bs) := slb_at h (hid hW)
theorem own_some {w : World} {base n c : Nat} {A : Option Addr} {bs : List UInt8} (hn : Hid (bs.length = n)) (ho : Hid (w.ownsRow base 5 1 (.slice A n c) n (bv bs))) (hpos : 0 < n) : ∃ p, A = some p := by
  obtain ⟨b, o, y, rfl, _⟩ := slb_cell (slb_own hn ho).out hn.out hpos
  exact ⟨_, rfl⟩
/-- A call has answered these bytes; all that was there in u is as it was. -/
def RetG (u W : World) (bs : List UInt8) (e : Ending) (w' : World) : Prop := ∃ A n c, e = .returned (.slice A n c) ∧ Hid (bs.length = n) ∧ Hid (SlB w' w'.heap.size A c bs) ∧ Below u.heap.size u w' ∧ Below W.heap.size W w'
theorem ret_grow {u W : World} (hW : Below u.heap.size u W) {fn : FuncId} {args : Array Value} {bs x : List UInt8} (hx : Hid (bs = x)) (h : Calls Try.prog fn args W (Ret W bs)) : Calls Try.prog fn args W (RetG u W x) := by
  obtain rfl := hx.out
  refine h.mono ?_
  rintro e w' ⟨A, n, c, rfl, hn, hS, hb⟩
  exact ⟨A, n, c, rfl, hn, hS, hW.trans (hb.out.mono hW.size), hb.out⟩
theorem own_grow {u W : World} (hW : Below u.heap.size u W) {fn : FuncId} {args : Array Value} {bs x : List UInt8} (hx : Hid (bs = x)) (h : Calls Try.prog fn args W (Own W bs)) : Calls Try.prog fn args W (RetG u W x) :=
  ret_grow hW hx (h.mono fun _ _ => own_ret)
theorem bytes_grow (u W : World) (hW : Below u.heap.size u W) (A A2 : Option Addr) (c c2 n n2 : Nat) (xs ys : List UInt8) (hn : Hid (xs.length = n)) (hn2 : Hid (ys.length = n2)) (hxy : Hid (xs = ys)) (hx : Hid (SlB W W.heap.size A c xs)) (hy : Hid (SlB W W.heap.size A2 c2 ys)) (hl : n ≤ maxLen) :
    Calls Try.prog 9 #[.slice A n c, .slice A2 n2 c2] W fun e w' => e = .returned (.bool true) ∧ Below u.heap.size u w' ∧ Below W.heap.size W w' := by
  refine (bytes_two W A A2 c c2 n n2 xs ys hn.out hn2.out hxy.out hx hy hl).mono ?_
  rintro e w' ⟨rfl, h⟩
  exact ⟨rfl, hW.trans (h.out.mono hW.size), h.out⟩
theorem run_append_full (W : World) (p : Addr) (n m c2 : Nat) (A2 : Option Addr) (xs ys : List UInt8) (ty : TypeId) (hS : SlB W W.heap.size (some p) n xs) (hn : xs.length = n) (hS2 : SlB W W.heap.size A2 c2 ys) (hm : ys.length = m) (hb : n + m ≤ 10000000) :
    ∃ A3 c3 w', (Builtin.append_ #[27, 27] ty #[.slice (some p) n n, .slice A2 m c2]).run Try.prog W = .ok (.slice A3 (n + m) c3) w' ∧ SlB w' w'.heap.size A3 c3 (xs ++ ys) ∧ Below W.heap.size W w' := by
  obtain ⟨i5, hi5, hz5, hz51, hz52⟩ := info_parts Try.info5
  by_cases h0 : m = 0
  · subst h0
    have hy : ys = [] := List.eq_nil_of_length_eq_zero hm
    subst hy
    refine ⟨some p, n, W, ?_, by simpa using hS, Below.refl _ _⟩
    cases A2 <;> simp [Builtin.append_, run_underlying Try.underlying27, sizeOf, typeInfo, hi5, Builtin.lenOf, Builtin.firstCells, loadCells, loadCellsFrom, storeCells]
  · have hne : bv ys ≠ [] := by
      intro e
      have := congrArg List.length e
      rw [bv_length, hm] at this
      exact h0 this
    obtain ⟨b2, o2, rfl, _, hc2⟩ := hS2.2.2.2 hne
    have holds : ∀ j u, (bv xs)[j]? = some u → W.cell? (p.add j) = some u := fun j u hj => by
      obtain ⟨b, o, he, _, hc⟩ := hS.2.2.2 (by intro e; rw [e] at hj; simp at hj)
      cases he
      rw [Addr.add_lit]
      exact hc j u hj
    have hr := run_append_grow (P := Try.prog) W 27 ty 5 i5 (.int .u8 0) Try.underlying27 hi5 hz5 p n n (bv xs) (by rw [bv_length, hz51, Nat.mul_one, hn]) holds ⟨b2, o2, none⟩ m c2 (bv ys) (by rw [bv_length, hz51, Nat.mul_one, hm])
      (fun j u hj => by rw [Addr.add_lit]; exact hc2 j u hj) (by omega) (by omega) (growslice_fits (by omega) (by rw [hz52]; omega))
    have hge := grownCap_ge W (n + m) n 5
    have hcm : grownCap W (n + m) n 5 ≤ maxLen := grownCap_le_maxLen W (n + m) n 5 (by unfold maxLen; omega)
    generalize grownCap W (n + m) n 5 = cap at hr hge hcm
    refine ⟨_, _, _, hr, ⟨by rw [List.length_append, hn, hm]; exact hge, hcm, (fun e => by cases e), fun _ => ⟨W.heap.size, 0, rfl, by simp, fun j u hj => ?_⟩⟩, ((Below.refl W.heap.size W).drew).alloc (Nat.le_refl _) _⟩
    rw [bv_append] at hj
    have hjl := (List.getElem?_eq_some_iff.1 hj).1
    have h1 := World.cell?_alloc_mark W.drew ((bv xs).toArray ++ (bv ys).toArray ++ Builtin.zeroCells (Value.int IntKind.u8 0).cells (cap - (n + m))) 5 (0, 0) j
    rw [show W.drew.heap.size = W.heap.size from rfl] at h1
    rw [Nat.zero_add, h1]
    rw [Array.getElem?_append_left (by simpa using hjl), ← hj]
    simp
theorem step_full {ops : Array Oper} {o : Oper} {a : Act} {K : Act → World → Prop} {Q : Exit → Act → World → Prop} {E : Prop} {W : World} (hgd : o.guard = none) (s x : Operand) (ho : o.op = .call { callee := .builtin .append, args := #[s, x], argTypes := #[27, 27] })
    (p : Addr) (n : Nat) (xs : List UInt8) (hs : a.eval s = .slice (some p) n n) (A2 : Option Addr) (m c2 : Nat) (ys : List UInt8) (hx : a.eval x = .slice A2 m c2) (hS : Hid (SlB W W.heap.size (some p) n xs)) (hS2 : Hid (SlB W W.heap.size A2 c2 ys)) (hn : Hid (xs.length = n)) (hm : Hid (ys.length = m)) (hb : n + m ≤ 10000000)
    (h : ∀ A3 c3 u', Below W.heap.size W u' → Hid (SlB u' u'.heap.size A3 c3 (xs ++ ys)) → K (a.put o.dst (.slice A3 (n + m) c3)) u') :
    if Region.wanted o (yielded ops a.tmps) = true then Oper.wp Try.prog o a W K Q else E := by
  have hw : Region.wanted o (yielded ops a.tmps) = true := by simp [Region.wanted, hgd]
  rw [if_pos hw]
  obtain ⟨A3, c3, w', hrun, h2, h3⟩ := run_append_full W p n m c2 A2 xs ys o.type hS.out hn.out hS2.out hm.out hb
  unfold Oper.wp execOp
  simp only [ho, resolve, invoke, builtin, Sem.run_bind, Sem.run_pure, Result.andThen_ok, List.map_toArray, List.map_cons, List.map_nil, hs, hx, hrun]
  exact h A3 c3 w' h3 (hid h2)
theorem run_mid {w : World} {B : Nat} {A : Option Addr} {n c lo hi : Nat} {bs : List UInt8} (hS : SlB w B A c bs) (hn : bs.length = n) (hlo : lo ≤ hi) (hhi : hi ≤ n) : ∃ A2 c2, (∀ W : World, (Instr.sliceAt 27 (.slice A n c) (some (.int .i64 (lo : Int))) (some (.int .i64 (hi : Int))) none).run Try.prog W = .ok (.slice A2 (hi - lo) c2) W) ∧ Hid (SlB w B A2 c2 ((bs.take hi).drop lo)) := by
  have hc : A = none → c = 0 := hS.2.2.1
  have hl := hS.1
  have hk2 : (hi : Int) ≤ (c : Int) := by omega
  rcases A with _ | ad
  · obtain rfl := hc rfl
    obtain rfl : n = 0 := by omega
    obtain rfl : hi = 0 := by omega
    obtain rfl : lo = 0 := by omega
    refine ⟨none, 0, fun W => ?_, hid ?_⟩
    · simp [Instr.sliceAt, Instr.slice, go_sem]
    · have : bs = [] := List.eq_nil_of_length_eq_zero hn
      subst this
      exact hS
  · refine ⟨some (if c = lo then ad else ad.add lo), c - lo, fun W => ?_, hid ((hS.take hi).drop lo (by rw [List.length_take]; omega))⟩
    simp [Instr.sliceAt, Instr.slice, go_sem, hk2, hlo]
    try (split <;> rfl)
/-- A call has answered these bytes in a slice with no room behind them. -/
def Full (w : World) (bs : List UInt8) (e : Ending) (w' : World) : Prop := ∃ p n, e = .returned (.slice (some p) n n) ∧ Hid (bs.length = n) ∧ Hid (SlB w' w'.heap.size (some p) n bs) ∧ Hid (Below w.heap.size w w')
theorem full_bel {w u v : World} {bs : List UInt8} {fn : FuncId} {args : Array Value} (hb : Hid (Below w.heap.size w u)) (h : Calls Try.prog fn args v (Full u bs)) : Calls Try.prog fn args v (Full w bs) := by
  refine h.mono ?_
  rintro e w' ⟨p, n, rfl, h1, hs, hb2⟩
  exact ⟨p, n, rfl, h1, hs, bel_t hb hb2.out⟩
/-- A call has answered these bytes with no room behind them; all that was there in u is as it was. -/
def FullG (u W : World) (bs : List UInt8) (e : Ending) (w' : World) : Prop := ∃ p n, e = .returned (.slice (some p) n n) ∧ Hid (bs.length = n) ∧ Hid (SlB w' w'.heap.size (some p) n bs) ∧ Below u.heap.size u w' ∧ Below W.heap.size W w'
theorem full_growF {u W : World} (hW : Below u.heap.size u W) {fn : FuncId} {args : Array Value} {bs x : List UInt8} (hx : Hid (bs = x)) (h : Calls Try.prog fn args W (Full W bs)) : Calls Try.prog fn args W (FullG u W x) := by
  obtain rfl := hx.out
  refine h.mono ?_
  rintro e w' ⟨p, n, rfl, hn, hS, hb⟩
  exact ⟨p, n, rfl, hn, hS, hW.trans (hb.out.mono hW.size), hb.out⟩
theorem full_grow {u W : World} (hW : Below u.heap.size u W) {fn : FuncId} {args : Array Value} {bs x : List UInt8} (hx : Hid (bs = x)) (h : Calls Try.prog fn args W (Full W bs)) : Calls Try.prog fn args W (RetG u W x) :=
  ret_grow hW hx (h.mono fun _ _ ⟨p, n, he, hn, hS, hb⟩ => ⟨some p, n, n, he, hn, hS, hb⟩)
theorem slb_litm (w : World) (bs : List UInt8) (n : Nat) (cs : Array Value) (fr : Nat × Nat) (hc : (bv bs).toArray = cs) (hn : bs.length = n) (hm : n ≤ maxLen) : SlB (w.alloc (.cells cs 5 fr)) (w.alloc (.cells cs 5 fr)).heap.size (some ⟨w.heap.size, 0, none⟩) n bs := by
  subst hc hn
  refine ⟨Nat.le_refl _, hm, by simp, ?_⟩
  have := lit_lies w (bv bs).toArray 5 fr w.heap.size rfl
  rw [World.size_alloc]
  simpa using this
theorem str_back (w : World) (B : Nat) (A : Option Addr) (c : Nat) (tx : List UInt8) (h : Lies w B A (bv tx)) :
    (convert 27 9 (.slice A tx.length c)).run Try.prog w = .ok (.string ⟨tx.toArray⟩) w := by
  by_cases hn : tx = []
  · subst hn
    refine (run_convert_bytes_string w 27 9 5 A 0 c Try.underlying27 Try.underlying5 Try.underlying9).trans ?_
    cases A with
    | none => simp [Conv.bytesToString]; rfl
    | some a => simp [Conv.bytesToString, loadCells, loadCellsFrom]; rfl
  · obtain ⟨b, o, rfl, _, hc⟩ := h (by simpa [bv] using hn)
    exact run_convert_bytes_back w 27 9 5 ⟨b, o, none⟩ c tx Try.underlying27 Try.underlying5 Try.underlying9 fun j hj => by
      rw [Addr.add_lit]
      exact hc j _ (by simp [bv, hj])
theorem set_has {t : Tm} (ht : t.Ok) (op : Int) (on : Bool) (hg : flagB op = true) : hasN (setT t op on).f op = on := by
  show hasN (setN t.f op on) op = on
  rw [setN_has ht.f, if_pos ⟨hg, rfl⟩]
section
variable {dst : Option Tmp} {x y : Operand} {ty r : TypeId} {pos : String} {after : Array Edge} {gd : Option (Nat × Bool)} {a : Act}
@[simp] theorem isP_v (g : Nat) : isP (.pointer (some ⟨g, 0, none⟩)) = true := rfl
@[simp] theorem blkV_v (g : Nat) : blkV (.pointer (some ⟨g, 0, none⟩)) = g := rfl
@[simp] theorem aggV_v (cs : Array Value) : aggV (.agg cs) = cs := rfl
theorem quiet_val {P : Program} {u0 : World} {o : Oper} {K : Act → Prop} (v : Value) (h : ∀ z : Gr u0, (execOp a.eval o).run P (grw z) = .ok (.value v) (grw z)) :
    Oper.quiet P o a (fun w' => ∃ z : Gr u0, w' = grw z) K = K (a.put o.dst v) := by
  apply propext
  unfold Oper.quiet Oper.quietAt
  constructor
  · rintro ⟨v', h1, h2⟩
    have h3 := h1 (grw (⟨u0, Below.refl _ _⟩ : Gr u0)) ⟨_, rfl⟩
    rw [h] at h3
    obtain ⟨_, rfl⟩ := h3
    exact h2
  · intro hk
    refine ⟨v, ?_, hk⟩
    rintro w ⟨z, rfl⟩
    rw [h z]
    exact ⟨rfl, rfl⟩
theorem wq_ld26 {u0 : World} {K : Act → Prop} (h1 : isP (a.eval x) = true) (h2 : isB u0 (blkV (a.eval x)) = true) :
    Oper.quiet Try.prog { dst, op := .load 26 x, type := ty, pos, after, guard := gd } a (fun w' => ∃ z : Gr u0, w' = grw z) K = K (a.put dst (.agg (cs26 u0 (blkV (a.eval x))))) := by
  obtain ⟨hb, hs⟩ := isB_box h2
  have hx := isP_eq h1
  refine quiet_val _ fun z => ?_
  generalize blkV (a.eval x) = g at *
  unfold execOp
  simp only [hx, Instr.loadAt, Instr.sureAddr, Sem.run_bind, Sem.run_pure, Result.andThen_ok, run_loadVar_row (P := Try.prog) (grw z) g 26 26 _ (0, 0) _ (gr_box z hb) Try.underlying26 rfl (by rw [hs]; exact Try.size26)]
end
end Go.Proofs.Ytggcampdkgfmgaa
namespace Go.Proofs.Ytggcampdkgfmgaa
open Go.ChangeShapes Go.WideShapes Go.ChangeAt Go.RowKit Go.Deep

theorem u16_of {x : Int} (h : (Lit.int .u16 x).wf = true) : 0 ≤ x ∧ x ≤ 65535 := bounds_u16 h
/-- A setting's cells and more. -/
def tmV (t : Tm) (r : List Value) : Array Value := (t.cl ++ r).toArray
theorem tmV_size {t : Tm} (ht : t.Ok) (r : List Value) : (tmV t r).size = 24 + r.length := by simp [tmV, cl_len ht.len]
theorem tmV_front {t : Tm} (r : List Value) (j : Nat) (v : Value) (h : t.cl[j]? = some v) : (tmV t r)[j]? = some v := by
  have := (List.getElem?_eq_some_iff.1 h).1
  rw [tmV, List.getElem?_toArray, List.getElem?_append_left this, h]
theorem tmV_back {t : Tm} (ht : t.Ok) {r : List Value} {j : Nat} {v : Value} (h : r[j]? = some v) : (tmV t r)[24 + j]? = some v := by
  rw [tmV, List.getElem?_toArray, List.getElem?_append_right (by rw [cl_len ht.len]; omega), cl_len ht.len, Nat.add_sub_cancel_left, h]
theorem cells_app {l cl r : List Value} (hl : cl.length = 24) (hlen : l.length = 24 + r.length) (h0 : (l.drop 0).take 24 = cl) (h : ∀ j, j < r.length → l[24 + j]? = r[j]?) : l = cl ++ r := by
  apply List.ext_getElem?
  intro j
  by_cases h1 : j < 24
  · rw [List.getElem?_append_left (by omega), ← h0, List.drop_zero, List.getElem?_take, if_pos h1]
  · obtain ⟨d, rfl⟩ : ∃ d, j = 24 + d := ⟨j - 24, by omega⟩
    rw [List.getElem?_append_right (by omega), hl, Nat.add_sub_cancel_left]
    by_cases h2 : d < r.length
    · exact h d h2
    · rw [List.getElem?_eq_none (by omega), List.getElem?_eq_none (by omega)]
section
variable {H : Type} {enc : TypeId × Value → H} {w : World} {base : Nat} {spare : Nat → Bool} {held : Bool}
theorem int_open {t : TypeId} (ht : Try.prog.underlying t = some (.int .i64)) {v : Value} {d : DataW H} {p : List MemPlace} (h : DataW.Trod enc Try.prog w base spare held t v d p) (hv : ∃ z, v = .int .i64 z) : ∃ a, v = .int .i64 a ∧ i64ok a := by
  obtain ⟨fuel, hf⟩ := h
  obtain ⟨z, rfl⟩ := hv
  obtain ⟨k0, e0, _, hw⟩ := DataW.trod_int ht hf
  simp only [Value.cells, List.cons.injEq, and_true] at e0
  injection e0 with _ e0
  subst e0
  exact ⟨_, rfl, i64_of hw⟩
end
theorem bytes5 : Try.prog.bytesOf 5 = 1 := by kernel_rfl
section
variable {H : Type} {enc : TypeId × Value → H} {w : World} {base : Nat} {spare : Nat → Bool} {held : Bool}
theorem bytes_weight {fuel n c : Nat} {A : Option Addr} {x : DataW H × List MemPlace} (h : DataW.trod enc Try.prog w base spare held fuel 27 [.slice A n c] = some x)
    (hw : ∀ k ∈ x.1.weights Try.prog 27, k ≤ reachBytes) : n ≤ reachBytes := by
  rcases open_ints Try.underlying27 Try.underlying5 cells5 h with ⟨he, _⟩ | ⟨a, len, cap, zs, he, _, hl, hm, hz, rfl, _, _⟩
  · simp only [List.cons.injEq, and_true] at he
    injection he with _ e _
    rw [e]; exact Nat.zero_le _
  · simp only [List.cons.injEq, and_true] at he
    injection he with _ e _
    subst e
    have hzl : n ≤ zs.length := by rw [hz]; split <;> omega
    have := hw _ (by
      simp only [DataW.weights, Try.underlying27]
      exact List.mem_cons_self)
    rw [bytes5] at this
    simp only [lits, List.length_map, List.length_take, List.length_drop, Nat.min_eq_left hzl] at this
    omega
end
theorem tmV_part {t : Tm} (ht : t.Ok) {r : List Value} {j : Nat} {v : Value} (h : r[j]? = some v) : (((tmV t r).toList.drop (24 + j)).take 1) = [v] := by
  have hl := cl_len ht.len
  have h1 : (tmV t r).toList = t.cl ++ r := by simp [tmV]
  obtain ⟨hj, rfl⟩ := List.getElem?_eq_some_iff.1 h
  rw [h1, List.drop_append, hl, List.drop_eq_nil_of_le (by omega), Nat.add_sub_cancel_left, List.nil_append, List.drop_eq_getElem_cons hj]
  rfl
end Go.Proofs.Ytggcampdkgfmgaa
namespace Go.Proofs.Ytggcampdkgfmgaa
open Go.RowKit

def charB (op : Int) : Bool := decide (1 ≤ op) && decide (op ≤ 18)
/-- The character that means something. -/
def chV (t : Tm) (op : Int) : UInt8 := if charB op = true ∧ t.c.getD op.toNat 0 ≠ 255 then t.c.getD op.toNat 0 else 0
def chB (t : Tm) (op : Int) : Bool := charB op && decide (t.c.getD op.toNat 0 ≠ 255)
theorem char_no {t : Tm} {op : Int} (h : charB op = false) : chV t op = 0 ∧ chB t op = false := by simp [chV, chB, h]
theorem char_off {t : Tm} {op : Int} (h : t.c.getD op.toNat 0 = 255) : chV t op = 0 ∧ chB t op = false := by
  unfold chV chB
  rw [if_neg (fun k => k.2 h), decide_eq_false (fun k => k h), Bool.and_false]
  exact ⟨rfl, rfl⟩
theorem char_on {t : Tm} {op : Int} (h : charB op = true) (h2 : t.c.getD op.toNat 0 ≠ 255) : chV t op = t.c.getD op.toNat 0 ∧ chB t op = true := by
  unfold chV chB
  rw [if_pos ⟨h, h2⟩, decide_eq_true h2, h]
  exact ⟨rfl, rfl⟩
theorem u8_255 (x : UInt8) : (((x.toNat : Int) == 255) : Bool) = decide (x = 255) := by
  by_cases hx : x = 255
  · subst hx; rfl
  · have : x.toNat ≠ 255 := fun e => hx (UInt8.toNat_inj.1 (by simpa using e))
    simp [hx]
    omega
theorem cs_char2 {t : Tm} (h : t.c.length = 19) (k : Nat) (hk : k < 19) : t.cs[k]? = some (.int .u8 ((t.c.getD k 0).toNat : Int)) := by
  rw [cs_char h k hk]
  simp [List.getD, h, hk]
theorem u8_eq (x y : UInt8) : (((x.toNat : Int) == (y.toNat : Int)) : Bool) = decide (x = y) := by
  by_cases hx : x = y
  · subst hx; simp
  · have : x.toNat ≠ y.toNat := fun e => hx (UInt8.toNat_inj.1 e)
    simp [hx]
    omega
theorem u8_eq2 (x y : UInt8) : (((y.toNat : Int) == (x.toNat : Int)) : Bool) = decide (x = y) := by
  rw [u8_eq]
  exact decide_eq_decide.2 ⟨Eq.symm, Eq.symm⟩
end Go.Proofs.Ytggcampdkgfmgaa
namespace Go.Proofs.Ytggcampdkgfmgaa
open Go.RowKit

/-- A slice of slices of bytes: what its cells hold. -/
def LisV (w : World) (B : Nat) (A : Option Addr) (ls : List (List UInt8)) : Prop :=
  ls ≠ [] → ∃ b o, A = some ⟨b, o, none⟩ ∧ b < B ∧ ∀ k (h : k < ls.length), ∃ A' c', w.cell? ⟨b, o + k, none⟩ = some (.slice A' ls[k].length c') ∧ SlB w B A' c' ls[k]
theorem SlB.more {w : World} {B B' : Nat} {A : Option Addr} {c : Nat} {bs : List UInt8} (h : SlB w B A c bs) (hB : B ≤ B') : SlB w B' A c bs := ⟨h.1, h.2.1, h.2.2.1, h.2.2.2.more hB⟩
theorem LisV.below {w w' : World} {B : Nat} {A : Option Addr} {ls : List (List UInt8)} (h : LisV w B A ls) (hb : Below B w w') : LisV w' B A ls := fun hn => by
  obtain ⟨b, o, e, hlt, hc⟩ := h hn
  exact ⟨b, o, e, hlt, fun k hk => by obtain ⟨A', c', h1, h2⟩ := hc k hk; exact ⟨A', c', (hb.cell (p := ⟨b, o + k, none⟩) hlt).trans h1, h2.below hb⟩⟩
theorem LisV.more {w : World} {B B' : Nat} {A : Option Addr} {ls : List (List UInt8)} (h : LisV w B A ls) (hB : B ≤ B') : LisV w B' A ls := fun hn => by
  obtain ⟨b, o, e, hlt, hc⟩ := h hn
  exact ⟨b, o, e, by omega, fun k hk => by obtain ⟨A', c', h1, h2⟩ := hc k hk; exact ⟨A', c', h1, h2.more hB⟩⟩

end Go.Proofs.Ytggcampdkgfmgaa
namespace Go.Proofs.Ytggcampdkgfmgaa
open Go.RowKit

theorem zeros_size (n : Nat) : (Builtin.zeroCells (Value.int .u8 0).cells n).size = n := by
  simp [Builtin.zeroCells, Value.cells]

set_option maxHeartbeats 1000000 in
set_option maxRecDepth 100000 in
theorem grow_nil (w : World) (n : Nat) (hn : n ≤ 1000000) :
    Calls Try.prog 45 #[.slice none 0 0, .int .i64 n] w fun e w' => ∃ A c, e = .returned (.slice A 0 c) ∧ w'.ownsRow w.heap.size 5 1 (.slice A 0 c) 0 [] ∧ Below w.heap.size w w' := by
  obtain ⟨i0, hi0, hz0, hz1, hz2⟩ := info_parts Try.info5
  by_cases h0 : n = 0
  · subst h0
    go_enter Try.func45, Try.ntmps45
    go_wp2
    go_ret
    exact ⟨none, 0, rfl, World.ownsRow_nil _ _ _ _, Below.refl _ _⟩
  · have hpos : (0 : Int) < n := by omega
    have hneg : ¬ ((n : Int) < 0) := by omega
    have happ := Lib.run_append_nil_zeros (P := Try.prog) w 27 3 27 5 i0 (.int .u8 0) .i64 .i64 Try.underlying27 Try.underlying3 hi0 hz0 n (by omega) (by omega) (by omega) (by rw [hz2]; omega)
    have hgc : (0 : Int) ≤ grownCap w n 0 5 := by omega
    have hge := grownCap_ge w n 0 5
    have hle := grownCap_le_maxLen w n 0 5 (by unfold maxLen; omega)
    obtain ⟨cap, hcap⟩ : ∃ cap, grownCap w n 0 5 = cap := ⟨_, rfl⟩
    rw [hcap] at happ hge hle
    have HC := hid hcap
    clear hcap hgc
    have hgc : (0 : Int) ≤ cap := by omega
    obtain ⟨w1, hw1⟩ : ∃ w1, w.drew.alloc (.cells (Builtin.zeroCells (Value.int .u8 0).cells n ++ Builtin.zeroCells (Value.int .u8 0).cells (cap - n)) 5) = w1 := ⟨_, rfl⟩
    rw [hw1] at happ
    have HW := hid hw1
    have HA := hid happ
    have HLE := hid hle
    clear hw1 happ hle
    go_enter Try.func45, Try.ntmps45
    go_wp2_with (at_builtin; refine Lib.wpList_append_run _ rfl (.tmp 20) (.tmp 21) 27 3 rfl _ _ rfl rfl _ _ HA.out ?_)
    go_ret
    refine ⟨_, _, rfl, ?_, ?_⟩
    · rw [← HW.out]
      refine ⟨rfl, .inr ⟨w.heap.size, cap, _, rfl, Nat.le_refl _, heap_alloc_new w.drew _, Nat.zero_le _, HLE.out, ?_, rfl⟩⟩
      rw [Array.size_append, zeros_size, zeros_size]
      omega
    · rw [← HW.out]
      exact (bel_drewN (Below.refl _ _) 1).alloc (Nat.le_refl _) _
end Go.Proofs.Ytggcampdkgfmgaa
namespace Go.Proofs.Ytggcampdkgfmgaa
open Go.RowKit

theorem flat_snoc (ls : List (List UInt8)) (k : Nat) (h : k < ls.length) : (ls.take (k + 1)).flatten = (ls.take k).flatten ++ ls[k] := by
  rw [take_snoc _ _ h, List.flatten_append, List.flatten_cons, List.flatten_nil, List.append_nil]
theorem flat_le (ls : List (List UInt8)) (k : Nat) : (ls.take k).flatten.length ≤ ls.flatten.length := by
  conv => rhs; rw [← List.take_append_drop k ls, List.flatten_append, List.length_append]
  omega

set_option maxHeartbeats 2000000 in
set_option maxRecDepth 100000 in
theorem concat_any (w : World) (B : Nat) (A : Option Addr) (c : Nat) (ls : List (List UInt8)) (hl : LisV w B A ls) (hB : B ≤ w.heap.size) (hn : ls.length ≤ 1000) (ht : ls.flatten.length ≤ 1000000) :
    Calls Try.prog 26 #[.slice A ls.length c] w fun e w' => ∃ A' c', e = .returned (.slice A' ls.flatten.length c') ∧ w'.ownsRow w.heap.size 5 1 (.slice A' ls.flatten.length c') ls.flatten.length (bv ls.flatten) ∧ Below w.heap.size w w' := by
  obtain ⟨i0, hi0, hz0, hz1, hz2⟩ := info_parts Try.info5
  have HL := hid hl
  clear hl
  have HF : Hid (∀ k, (ls.take k).flatten.length ≤ ls.flatten.length) := flat_le ls
  obtain ⟨T, HT⟩ : ∃ T, Hid (ls.flatten.length = T) := ⟨_, hid rfl⟩
  rw [HT.out] at ht HF ⊢
  go_enter Try.func26, Try.ntmps26
  go_wp2
  go_loop [11, 3] (fun i s => ∃ k : Nat, k ≤ ls.length ∧ i = .int .i64 k ∧ s = .int .i64 (ls.take k).flatten.length) (fun i _ => ls.length - (intOf i).toNat)
  case atStart => exact ⟨0, Nat.zero_le _, rfl, rfl⟩
  case round =>
    obtain ⟨k, hk, rfl, rfl⟩ := hrel
    by_cases hlt : k < ls.length
    · obtain ⟨b, o, rfl, hbw, hcells⟩ := HL.out (by intro e; rw [e] at hlt; simp at hlt)
      obtain ⟨A', c', hc, hs⟩ := hcells k hlt
      have HS := hid (flat_snoc ls k hlt)
      have hF1 := HF.out (k + 1)
      have hle : (ls.take (k + 1)).flatten.length = (ls.take k).flatten.length + ls[k].length := by rw [HS.out, List.length_append]
      rw [hle] at hF1
      obtain ⟨x, Hx⟩ : ∃ x, Hid ((ls.take k).flatten.length = x) := ⟨_, hid rfl⟩
      obtain ⟨y, Hy⟩ : ∃ y, Hid (ls[k].length = y) := ⟨_, hid rfl⟩
      obtain ⟨z, Hz⟩ : ∃ z, Hid ((ls.take (k + 1)).flatten.length = z) := ⟨_, hid rfl⟩
      rw [Hz.out, Hx.out, Hy.out] at hle
      rw [Hx.out, Hy.out] at hF1
      rw [Hy.out] at hc
      rw [Hx.out]
      have hneg : ¬ ((x : Int) + y < 0) := by omega
      clear hcells hs
      go_wp2
      go_roundw
      case rel => exact ⟨k + 1, by omega, by go_num, by rw [Hz.out, hle]; go_num⟩
      case measure => simp [intOf]; omega
    · have hd : ls.take k = ls := List.take_of_length_le (by omega)
      rw [hd, HT.out]
      go_wp2_with (first
        | (go_at_call 45
           ((with_reducible refine (grow_nil _ T ht).mono ?_); rintro e w1 ⟨A1, c1, rfl, ho1, hb1⟩)
           have HO1 := hid ho1
           have HB1 := hid hb1
           have hz1w : w.heap.size ≤ w1.heap.size := hb1.size
           clear ho1 hb1))
      go_loopw [27, 6] (fun i s W2 => ∃ (k m : Nat) (A' : Option Addr) (c' : Nat), k ≤ ls.length ∧ i = .int .i64 k ∧ s = .slice A' m c' ∧ Hid ((ls.take k).flatten.length = m) ∧ W2.ownsRow w.heap.size 5 1 (.slice A' m c') m (bv (ls.take k).flatten) ∧ Below w.heap.size w W2) (fun i _ _ => ls.length - (intOf i).toNat)
      case atStart => exact ⟨0, 0, A1, c1, Nat.zero_le _, rfl, rfl, rfl, HO1.out, HB1.out⟩
      case round =>
        obtain ⟨k2, m, A', c', hk2, rfl, rfl, Hm, hro, hbw⟩ := hrel
        have HRO := hid hro
        have HBW := hid hbw
        have hszr : w.heap.size ≤ wr.heap.size := hbw.size
        clear hro hbw
        by_cases hlt2 : k2 < ls.length
        · obtain ⟨b, o, rfl, hbB, hcells⟩ := HL.out (by intro e; rw [e] at hlt2; simp at hlt2)
          obtain ⟨A2, c2, hc, hs⟩ := hcells k2 hlt2
          have hcc := (HBW.out.cell (p := ⟨b, o + k2, none⟩) (by show b < _; omega)).trans hc
          have HS2 := hid ((hs.more hB).below HBW.out)
          have HS := hid (flat_snoc ls k2 hlt2)
          have hF1 := HF.out (k2 + 1)
          have hle : (ls.take (k2 + 1)).flatten.length = (ls.take k2).flatten.length + ls[k2].length := by rw [HS.out, List.length_append]
          rw [hle, Hm.out] at hF1
          rw [Hm.out] at hle
          have HLE := hid hle
          obtain ⟨p, Hp⟩ : ∃ p, Hid (ls[k2] = p) := ⟨_, hid rfl⟩
          rw [Hp.out] at hcc hF1 HS2 HLE HS
          clear hcells hs hc hle
          go_wp2_with (at_builtin; refine wpList_app _ rfl (.tmp 31) (.tmp 32) 27 rfl w.heap.size 5 i0 _ 1 1 Try.underlying27 hi0 hz0 hz1 hz2 rfl (by omega) A' m c' (bv (ls.take k2).flatten) rfl HRO.out w.heap.size A2 p.length c2 (bv p) rfl ?c0 ?c1 ?c2 ?b1 ?b2 ?b3 ?grow)
          case c0 => simp [bv_length]
          case c1 => exact HS2.out.2.2.2
          case c2 => exact bv_one _
          case b1 => unfold maxLen; omega
          case b2 => omega
          case b3 => omega
          case grow =>
            intro A3 c3 w3 ho3 hg3
            have HO3 := hid ho3
            have HB3 := hid (app_bel HBW.out HRO.out hg3)
            clear ho3 hg3
            go_wp2
            go_roundw
            case rel =>
              refine ⟨k2 + 1, m + p.length, A3, c3, by omega, by go_num, rfl, HLE.out, ?_, HB3.out⟩
              rw [HS.out, bv_append]
              exact HO3.out
            case measure => simp [intOf]; omega
        · have hd2 : ls.take k2 = ls := List.take_of_length_le (by omega)
          rw [hd2] at HRO Hm
          have hmT : m = T := Hm.out.symm.trans HT.out
          subst hmT
          go_wp2
          go_ret
          exact ⟨A', c', rfl, HRO.out, HBW.out⟩
end Go.Proofs.Ytggcampdkgfmgaa
namespace Go.Proofs.Ytggcampdkgfmgaa
open Go.RowKit

/-! Layer 11's maths: how a byte is shown, the column behind it, what takes characters off the screen. No function of the program stands here. -/
/-- Is a byte shown as ^ and a sign, where e says whether such signs are asked? -/
def hatB (e : Bool) (c : UInt8) : Bool := e && (decide (c.toNat < 32) && decide (c.toNat ≠ 9) && decide (c.toNat ≠ 10) || decide (c.toNat = 127))
def showB (e : Bool) (c : UInt8) : List UInt8 := if hatB e c then [94, c ^^^ 64] else [c]
def lineB (e : Bool) (l : List UInt8) : List UInt8 := (l.map (showB e)).flatten
theorem showB_off (c : UInt8) : showB false c = [c] := by simp [showB, hatB]
theorem showB_len (e : Bool) (c : UInt8) : 1 ≤ (showB e c).length ∧ (showB e c).length ≤ 2 := by
  unfold showB
  split <;> simp
theorem lineB_nil (e : Bool) : lineB e [] = [] := rfl
theorem lineB_snoc (e : Bool) (l : List UInt8) (c : UInt8) : lineB e (l ++ [c]) = lineB e l ++ showB e c := by simp [lineB]
theorem lineB_off (l : List UInt8) : lineB false l = l := by
  induction l with
  | nil => rfl
  | cons c l ih => simp only [lineB, List.map_cons, List.flatten_cons, showB_off]; simp only [lineB] at ih; rw [ih]; rfl
theorem lineB_len (e : Bool) (l : List UInt8) : l.length ≤ (lineB e l).length ∧ (lineB e l).length ≤ 2 * l.length := by
  induction l with
  | nil => exact ⟨Nat.le_refl _, Nat.le_refl _⟩
  | cons c l ih =>
    have h := showB_len e c
    simp only [lineB, List.map_cons, List.flatten_cons, List.length_append, List.length_cons] at ih ⊢
    omega
theorem lineB_take (e : Bool) (l : List UInt8) (k : Nat) (h : k < l.length) : lineB e (l.take (k + 1)) = lineB e (l.take k) ++ showB e l[k] := by
  rw [List.take_succ_eq_append_getElem h, lineB_snoc]
/-- The two ways in which the sign is written. -/
theorem sign_all : ∀ n : Nat, n < 256 → hatB true (UInt8.ofNat n) = true → ((UInt8.ofNat n) ^^^ 64).toNat = (if n = 127 then 63 else n + 64) := by decide +kernel
theorem sign_b (c : UInt8) (h : hatB true c = true) : (c ^^^ 64).toNat = (if c.toNat = 127 then 63 else c.toNat + 64) := by
  have := sign_all c.toNat c.toNat_lt (by simpa using h)
  simpa using this
/-- What is shown with signs has none but 9 and 10 of those below 32, and no 127. -/
def Shown (c : UInt8) : Prop := (c.toNat < 32 → c.toNat = 9 ∨ c.toNat = 10) ∧ c.toNat ≠ 127
theorem showB_shown (c : UInt8) : ∀ d ∈ showB true c, Shown d := by
  intro d hd
  unfold showB at hd
  split at hd
  · rename_i h
    simp only [List.mem_cons, List.not_mem_nil, or_false] at hd
    rcases hd with rfl | rfl
    · exact ⟨by decide, by decide⟩
    · have hs := sign_b c h
      have hc : c.toNat < 32 ∨ c.toNat = 127 := by
        simp [hatB] at h
        omega
      unfold Shown
      rw [hs]
      split <;> omega
  · rename_i h
    simp only [List.mem_singleton] at hd
    subst hd
    simp [hatB] at h
    unfold Shown
    omega
theorem lineB_shown (l : List UInt8) : ∀ d ∈ lineB true l, Shown d := by
  intro d hd
  simp only [lineB, List.mem_flatten, List.mem_map] at hd
  obtain ⟨_, ⟨c, _, rfl⟩, hd⟩ := hd
  exact showB_shown c d hd

/-- The column behind a byte; e: signs are asked; u: the bytes that go on with a character take none. -/
def stepN (e u : Bool) (col : Nat) (c : UInt8) : Nat :=
  if c.toNat = 9 then (col / 8 + 1) * 8 else if hatB e c then col + 2 else if c.toNat < 32 ∨ c.toNat = 127 then col else if u = true ∧ 128 ≤ c.toNat ∧ c.toNat ≤ 191 then col else col + 1
theorem stepN_le (e u : Bool) (col : Nat) (c : UInt8) : col ≤ stepN e u col c ∧ stepN e u col c ≤ col + 8 := by
  unfold stepN
  split
  · omega
  · split
    · omega
    · split
      · omega
      · split <;> omega
theorem stepN_tab (e u : Bool) (col : Nat) : stepN e u col 9 % 8 = 0 ∧ col < stepN e u col 9 := by
  have : stepN e u col 9 = (col / 8 + 1) * 8 := by unfold stepN; rw [if_pos (by decide)]
  rw [this]
  omega
def colsN (e u : Bool) (col : Nat) (l : List UInt8) : Nat := l.foldl (stepN e u) col
theorem colsN_nil (e u : Bool) (col : Nat) : colsN e u col [] = col := rfl
theorem colsN_append (e u : Bool) (col : Nat) (l r : List UInt8) : colsN e u col (l ++ r) = colsN e u (colsN e u col l) r := by simp [colsN]
theorem colsN_snoc (e u : Bool) (col : Nat) (l : List UInt8) (c : UInt8) : colsN e u col (l ++ [c]) = stepN e u (colsN e u col l) c := by simp [colsN]
theorem colsN_take (e u : Bool) (col : Nat) (l : List UInt8) (k : Nat) (h : k < l.length) : colsN e u col (l.take (k + 1)) = stepN e u (colsN e u col (l.take k)) l[k] := by
  rw [List.take_succ_eq_append_getElem h, colsN_snoc]
theorem colsN_le (e u : Bool) (l : List UInt8) : ∀ col, col ≤ colsN e u col l ∧ colsN e u col l ≤ col + 8 * l.length := by
  induction l with
  | nil => intro col; exact ⟨Nat.le_refl _, Nat.le_refl _⟩
  | cons c l ih =>
    intro col
    have h1 := stepN_le e u col c
    have h2 := ih (stepN e u col c)
    simp only [colsN, List.foldl_cons, List.length_cons] at h2 ⊢
    omega
/-- A column from which on nothing is promised counts as 0. -/
def nrm (col : Int) : Nat := if col < 0 ∨ 65535 < col then 0 else col.toNat
theorem nrm_nat {n : Nat} (h : n ≤ 65535) : nrm (n : Int) = n := by
  unfold nrm
  rw [if_neg (by omega)]
  omega
theorem nrm_le (col : Int) : nrm col ≤ 65535 := by
  unfold nrm
  split <;> omega
theorem nrm_near {col : Int} (h : col < 0 ∨ 65535 < col ∨ col < 30000) : nrm col < 30000 := by
  unfold nrm
  split <;> omega
/-- n times the three bytes. -/
def offB : Nat → List UInt8
  | 0 => []
  | n + 1 => offB n ++ [8, 32, 8]
theorem offB_len (n : Nat) : (offB n).length = 3 * n := by
  induction n with
  | zero => rfl
  | succ n ih => simp [offB, ih]; omega
theorem offB_add (n m : Nat) : offB (n + m) = offB n ++ offB m := by
  induction m with
  | zero => simp [offB]
  | succ m ih => show offB (n + m) ++ _ = _; rw [ih]; simp [offB]
def rubB (e u : Bool) (col : Nat) (rest gone : List UInt8) : List UInt8 := offB (colsN e u col (rest ++ gone) - colsN e u col rest)
theorem rubB_len (e u : Bool) (col : Nat) (rest gone : List UInt8) : (rubB e u col rest gone).length ≤ 24 * gone.length := by
  unfold rubB
  rw [offB_len, colsN_append]
  have := (colsN_le e u gone (colsN e u col rest)).2
  omega
/-- In two parts, the later one first, or at once. -/
theorem rubB_parts (e u : Bool) (col : Nat) (l : List UInt8) (a b : Nat) (hab : a ≤ b) (_hb : b ≤ l.length) :
    rubB e u col (l.take b) (l.drop b) ++ rubB e u col (l.take a) ((l.take b).drop a) = rubB e u col (l.take a) (l.drop a) := by
  have h1 : l.take a ++ (l.take b).drop a = l.take b := by
    have : (l.take b).take a = l.take a := by rw [List.take_take, Nat.min_eq_left hab]
    rw [← this]
    exact List.take_append_drop a (l.take b)
  unfold rubB
  rw [List.take_append_drop, List.take_append_drop, h1, ← offB_add]
  congr 1
  have h2 : colsN e u col (l.take a) ≤ colsN e u col (l.take b) := by
    rw [← h1, colsN_append]
    exact (colsN_le e u _ _).1
  have h3 : colsN e u col (l.take b) ≤ colsN e u col l := by
    conv => rhs; rw [← List.take_append_drop b l]
    rw [colsN_append]
    exact (colsN_le e u _ _).1
  omega
theorem colsN_parts (e u : Bool) (col : Nat) (l : List UInt8) (a : Nat) : colsN e u (colsN e u col (l.take a)) (l.drop a) = colsN e u col l := by
  rw [← colsN_append, List.take_append_drop]
/-- The places of the two parts. -/
theorem places (n i k : Nat) : i % (n + 1) ≤ n ∧ i % (n + 1) + k % (n - i % (n + 1) + 1) ≤ n := by
  have h1 : i % (n + 1) < n + 1 := Nat.mod_lt _ (by omega)
  have h2 : k % (n - i % (n + 1) + 1) < n - i % (n + 1) + 1 := Nat.mod_lt _ (by omega)
  omega
end Go.Proofs.Ytggcampdkgfmgaa
