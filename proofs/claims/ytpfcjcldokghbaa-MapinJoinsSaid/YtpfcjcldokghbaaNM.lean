import Derived.Test.YtpfcjcldokghbaaNK
import Derived.Test.YtpfcjcldokghbaaNI
import Derived.Deep.RegionHeld3
namespace Go.Proofs.Ytpfcjcldokghbaa
open Go.RowKit

/-- Twenty-four cells from a pointer on. -/
def rng26 (w : World) (v : Value) : Option (List Value) := match v with
  | .pointer (some ⟨g, o, none⟩) => (List.range 24).mapM fun j => w.cell? ⟨g, o + j, none⟩
  | _ => none
def isR (w : World) (v : Value) : Bool := (rng26 w v).isSome
def csR (w : World) (v : Value) : Array Value := ((rng26 w v).getD []).toArray
theorem rng_at {w : World} {v : Value} (h : isR w v = true) : ∃ g o l, v = .pointer (some ⟨g, o, none⟩) ∧ w.rangeAt g o l ∧ l.length = 24 ∧ csR w v = l.toArray := by
  unfold isR at h
  obtain ⟨l, hl⟩ := Option.isSome_iff_exists.1 h
  have hl' := hl
  unfold rng26 at hl
  split at hl
  · rename_i g o
    refine ⟨g, o, l, rfl, ?_, ?_, by simp [csR, hl']⟩
    · intro j v hj
      have hlen := mapM_some_length hl
      have hjl : j < 24 := by
        have := (List.getElem?_eq_some_iff.1 hj).1
        simp at hlen
        omega
      have := mapM_some_get hl j j (by simp [hjl])
      rw [this, hj]
    · have := mapM_some_length hl
      simpa using this
  · cases hl
theorem wp_ldR {dst : Option Tmp} {x : Operand} {ty : TypeId} {pos : String} {after : Array Edge} {gd : Option (Nat × Bool)} {a : Act} {w : World} {K : Act → World → Prop} {Q : Exit → Act → World → Prop} (h : isR w (a.eval x) = true) :
    Oper.wp Try.prog { dst, op := .load 26 x, type := ty, pos, after, guard := gd } a w K Q = K (a.put dst (.agg (csR w (a.eval x)))) w := by
  obtain ⟨g, o, l, hx, hr, hl, hc⟩ := rng_at h
  unfold Oper.wp execOp
  rw [hc]
  simp only [hx, Instr.loadAt, Instr.sureAddr, Sem.run_bind, Sem.run_pure, Result.andThen_ok, run_loadVar_mid (P := Try.prog) w g o 26 l _ hr Try.underlying26 rfl (by rw [hl]; exact Try.size26)]
  rfl
theorem isR_of {w : World} {g o : Nat} {t : Tm} (h : w.rangeAt g o t.cl) (ht : t.c.length = 19) : isR w (.pointer (some ⟨g, o, none⟩)) = true ∧ csR w (.pointer (some ⟨g, o, none⟩)) = t.cs := by
  have e : rng26 w (.pointer (some ⟨g, o, none⟩)) = some t.cl := by
    show ((List.range 24).mapM fun j => w.cell? ⟨g, o + j, none⟩) = some t.cl
    have hl := cl_len ht
    have : ∀ (n : Nat) (l : List Value) (f : Nat → Option Value), l.length = n → (∀ j v, l[j]? = some v → f j = some v) → (List.range n).mapM f = some l := by
      intro n
      induction n with
      | zero => intro l f hl _; have : l = [] := List.eq_nil_of_length_eq_zero hl; subst this; simp
      | succ n ih =>
        intro l f hl hf
        obtain ⟨l', v, rfl⟩ : ∃ l' v, l = l' ++ [v] := by
          rcases List.eq_nil_or_concat l with h | ⟨l', v, h⟩
          · subst h; simp at hl
          · exact ⟨l', v, by simpa using h⟩
        have hl' : l'.length = n := by simpa using hl
        rw [List.range_succ, List.mapM_append, ih l' f hl' (fun j u hj => hf j u (by rw [List.getElem?_append_left ((List.getElem?_eq_some_iff.1 hj).1)]; exact hj))]
        have := hf n v (by rw [List.getElem?_append_right (by omega), hl']; simp)
        simp [this]
    exact this 24 t.cl _ hl h
  exact ⟨by simp [isR, e], by simp [csR, e, Tm.cs]⟩
theorem run_boxT (w : World) (T : TypeId) (cs : Array Value) (hT : (Try.prog.info? T).map (·.size) = some cs.size) : (Instr.box T (.agg cs)).run Try.prog w = .ok (.pointer (some ⟨w.heap.size, 0, none⟩)) (w.alloc (.cells cs T)) := by
  cases hq : Try.prog.info? T with
  | none => simp [hq] at hT
  | some i => simp [hq] at hT; simp [Instr.box, newVar, newRow, Value.cells]
theorem bxT {ops : Array Oper} {rest : List Oper} {o : Oper} {a : Act} {w : World} {Q : Exit → Act → World → Prop} (hw : Region.wanted o (yielded ops a.tmps) = true) (T : TypeId) (x : Operand) (ho : o.op = .box T x) (cs : Array Value) (hx : a.eval x = .agg cs) (hT : (Try.prog.info? T).map (·.size) = some cs.size)
    (h : wpList Try.prog ops Q rest (a.put o.dst (.pointer (some ⟨w.heap.size, 0, none⟩))) (w.alloc (.cells cs T))) : wpList Try.prog ops Q (o :: rest) a w :=
  BigFrame.wpList_want hw fun _ hK => by
    unfold Oper.wp execOp
    simp only [ho, hx, Sem.run_bind, run_boxT w T cs hT, Result.andThen_ok]
    exact hK _ _ h
theorem front_at {t : Tm} (ht : t.c.length = 19) (a b c : Value) : ((t.cl ++ [a, b, c]).toArray.size = 27) ∧ (∀ (j : Nat) (v : Value), t.cl[j]? = some v → (t.cl ++ [a, b, c]).toArray[j]? = some v) ∧ (t.cl ++ [a, b, c]).toArray[24]? = some a ∧ (t.cl ++ [a, b, c]).toArray[25]? = some b ∧ (t.cl ++ [a, b, c]).toArray[26]? = some c := by
  have hl := cl_len ht
  refine ⟨by simp [hl], fun j v hj => ?_, ?_, ?_, ?_⟩
  · have := (List.getElem?_eq_some_iff.1 hj).1
    rw [List.getElem?_toArray, List.getElem?_append_left this, hj]
  · rw [List.getElem?_toArray, List.getElem?_append_right (by omega), hl]; rfl
  · rw [List.getElem?_toArray, List.getElem?_append_right (by omega), hl]; rfl
  · rw [List.getElem?_toArray, List.getElem?_append_right (by omega), hl]; rfl
theorem front_R {W : World} {g : Nat} {T : TypeId} {cs : Array Value} {t : Tm} (ht : t.c.length = 19) (hb : Box W g T cs) (hc : ∀ (j : Nat) (v : Value), t.cl[j]? = some v → cs[j]? = some v) : isR W (.pointer (some ⟨g, 0, none⟩)) = true ∧ csR W (.pointer (some ⟨g, 0, none⟩)) = t.cs :=
  isR_of (fun j v hj => by rw [Nat.zero_add, hb.cell j]; exact hc j v hj) ht
theorem isB_new (w : World) (cs : Array Value) (hs : cs.size = 24) : isB (w.alloc (.cells cs 26)) w.heap.size = true := by
  unfold isB
  rw [heap_alloc_new]
  simp [hs]
theorem bel_new {w u : World} {g : Nat} (cs cs' : Array Value) (hg : g = u.heap.size) (h : Hid (Below w.heap.size w u)) : Hid (Below w.heap.size w ((u.alloc (.cells cs' 26)).drew.setRow g cs)) ∧ Hid (Box ((u.alloc (.cells cs' 26)).drew.setRow g cs) g 26 cs) ∧ Hid (Below u.heap.size u ((u.alloc (.cells cs' 26)).drew.setRow g cs)) := by
  subst hg
  have h1 : Below u.heap.size u ((u.alloc (.cells cs' 26)).drew.setRow u.heap.size cs) := (((Below.refl _ u).alloc (Nat.le_refl _) _).drew).trans ((Turn.setRow _ u.heap.size cs).below (Nat.le_refl _))
  exact ⟨bel_t h h1, hid (setRow_heap _ _ cs' cs 26 _ (heap_alloc_new u _)), hid h1⟩
theorem bel_al {u W : World} {o : Obj} (h : Below u.heap.size u W) : Below u.heap.size u (W.alloc o) := h.alloc h.size o
theorem bel_dr {u W : World} (h : Below u.heap.size u W) : Below u.heap.size u W.drew := h.drew
theorem box_al {W : World} {g : Nat} {t : TypeId} {cs : Array Value} {o : Obj} (h : Box W g t cs) : Box (W.alloc o) g t cs := box_below h ((Below.refl _ W).alloc (Nat.le_refl _) o)
theorem box_dr {W : World} {g : Nat} {t : TypeId} {cs : Array Value} (h : Box W g t cs) : Box W.drew g t cs := h
theorem box_nw {w : World} {g : Nat} {cs : Array Value} {t : TypeId} (hg : g = w.heap.size) : Box (w.alloc (.cells cs t)) g t cs := by
  subst hg
  exact Box.new w t cs
theorem isB_mk {W : World} {g : Nat} {cs : Array Value} (h : Box W g 26 cs) (hs : cs.size = 24) : isB W g = true := by
  unfold Box at h
  unfold isB
  rw [h]
  simp [hs]
theorem isB_kept {W W' : World} {g B : Nat} (h : isB W g = true) (hb : Kept B [5] W W') : isB W' g = true := isB_mk (hb.box (isB_box h).1 (by decide)) (isB_box h).2
theorem isB_below {W W' : World} {g : Nat} (h : isB W g = true) (hb : Below W.heap.size W W') : isB W' g = true := isB_mk (box_below (isB_box h).1 hb) (isB_box h).2
theorem cs26_of {W : World} {g : Nat} {cs : Array Value} (h : Box W g 26 cs) : cs26 W g = cs := by
  unfold Box at h
  unfold cs26
  rw [h]
theorem own_lit {W : World} {g base : Nat} (h : Box W g 5 #[]) (hb : base ≤ g) : W.ownsRow base 5 1 (.slice (some ⟨g, 0, none⟩) 0 0) 0 [] := by
  have := h.lt
  unfold Box at h
  refine ⟨by simp, Or.inr ⟨g, 0, #[], rfl, hb, by simpa using h, by simp, by simp, by simp, by simp⟩⟩
theorem Try.size42 : (Try.prog.info? 42).map (·.size) = some 27 := by kernel_rfl
theorem Box.kept {W W' : World} {g B : Nat} {t : TypeId} {cs : Array Value} (h : Box W g t cs) (hb : Kept B [5] W W') (ht : t ∉ [5]) : Box W' g t cs := hb.box h ht
/-- In a region that draws its order: bytes are copied to an empty literal. -/
theorem step_copy {ops : Array Oper} {o : Oper} {a : Act} {K : Act → World → Prop} {Q : Exit → Act → World → Prop} {E : Prop} {W : World} (u v : World) (hgd : o.guard = none) (s x : Operand) (ho : o.op = .call { callee := .builtin .append, args := #[s, x], argTypes := #[32, 32] })
    (g : Nat) (hs : a.eval s = .slice (some ⟨g, 0, none⟩) 0 0) (hbox : Box W g 5 #[]) (hg : u.heap.size ≤ g) (hbel : Below u.heap.size u W) (hv : Below v.heap.size v W) (A : Option Addr) (n c : Nat) (bs : List UInt8) (hx : a.eval x = .slice A n c) (hS : Hid (SlB v v.heap.size A c bs)) (hn : Hid (bs.length = n)) (hm : n ≤ 1000000)
    (h : ∀ A2 c2 u2, Below u.heap.size u u2 → Hid (u2.ownsRow u.heap.size 5 1 (.slice A2 n c2) n (bv bs)) → K (a.put o.dst (.slice A2 n c2)) u2) :
    if Region.wanted o (yielded ops a.tmps) = true then Oper.wp Try.prog o a W K Q else E := by
  obtain rfl := hn.out
  obtain ⟨i5, hi5, hz5, hz51, hz52⟩ := info_parts Try.info5
  have how := own_lit hbox hg
  refine step_app _ hgd s x 32 ho u.heap.size 5 i5 _ 1 1 Try.underlying32 hi5 hz5 hz51 hz52 rfl (by decide) _ 0 0 [] hs how v.heap.size A bs.length c (bv bs) hx (by rw [bv_length, Nat.mul_one]) (hS.out.2.2.2.below hv) (bv_one _) (by unfold maxLen; omega) (by omega) hbel.size ?_
  intro A2 c2 u2 ho2 hg2
  simp only [Nat.zero_add, List.nil_append] at ho2 ⊢
  have hk : Kept u.heap.size [5] W u2 := (Kept.refl _ _ W).grown hg2 (fun k hk => by obtain ⟨a, cs, b⟩ := own_box how k hk; exact ⟨a, 5, cs, by simp, b⟩)
  exact h A2 c2 u2 (hbel.trans (hk.below hbel.size)) (hid ho2)
/-- In a region that draws its order: bytes are put behind what is the call's own. -/
theorem step_more {ops : Array Oper} {o : Oper} {a : Act} {K : Act → World → Prop} {Q : Exit → Act → World → Prop} {E : Prop} {W : World} (u v x0 : World) (hgd : o.guard = none) (s x : Operand) (ho : o.op = .call { callee := .builtin .append, args := #[s, x], argTypes := #[32, 32] })
    (A1 : Option Addr) (n1 c1 : Nat) (xs : List UInt8) (hs : a.eval s = .slice A1 n1 c1) (hown : Hid (v.ownsRow u.heap.size 5 1 (.slice A1 n1 c1) n1 (bv xs))) (hv : Below v.heap.size v W) (hbel : Below u.heap.size u W) (hx0 : Below x0.heap.size x0 W) (A : Option Addr) (n c : Nat) (bs : List UInt8) (hx : a.eval x = .slice A n c) (hS : Hid (SlB x0 x0.heap.size A c bs)) (hn : Hid (bs.length = n)) (hn1 : Hid (xs.length = n1)) (hm : n1 + n ≤ 1000000)
    (h : ∀ A2 c2 u2, Below u.heap.size u u2 → Hid (SlB u2 u2.heap.size A2 c2 (xs ++ bs)) → K (a.put o.dst (.slice A2 (n1 + n) c2)) u2) :
    if Region.wanted o (yielded ops a.tmps) = true then Oper.wp Try.prog o a W K Q else E := by
  obtain rfl := hn.out
  obtain rfl := hn1.out
  obtain ⟨i5, hi5, hz5, hz51, hz52⟩ := info_parts Try.info5
  have how := own_keep hown.out hv
  refine step_app _ hgd s x 32 ho u.heap.size 5 i5 _ 1 1 Try.underlying32 hi5 hz5 hz51 hz52 rfl (by decide) A1 _ c1 (bv xs) hs how x0.heap.size A bs.length c (bv bs) hx (by rw [bv_length, Nat.mul_one]) (hS.out.2.2.2.below hx0) (bv_one _) (by unfold maxLen; omega) (by omega) hbel.size ?_
  intro A2 c2 u2 ho2 hg2
  rw [← bv_append] at ho2
  have hk : Kept u.heap.size [5] W u2 := (Kept.refl _ _ W).grown hg2 (fun k hk => by obtain ⟨a, cs, b⟩ := own_box how k hk; exact ⟨a, 5, cs, by simp, b⟩)
  rw [← List.length_append] at ho2
  exact h A2 c2 u2 (hbel.trans (hk.below hbel.size)) (hid (own_slb (_n := 0) ho2))
/-- Bytes are read in any world that has grown. -/
theorem map_grow (u W : World) (hb : Below u.heap.size u W) (t : Tm) (ht : t.Ok) (A : Option Addr) (n c : Nat) (bs l : List UInt8) (hS : Hid (SlB u u.heap.size A c bs)) (hn : Hid (bs.length = n)) (hm : n ≤ 20000) (hl : Hid (mapB t bs = l)) :
    Calls Try.prog 15 #[.agg t.cs, .slice A n c] W fun e w' => ∃ A2 n2 c2, e = .returned (.slice A2 n2 c2) ∧ Hid (l.length = n2) ∧ n2 ≤ 40000 ∧ Hid (SlB w' w'.heap.size A2 c2 l) ∧ Below u.heap.size u w' ∧ Below W.heap.size W w' := by
  refine (map_any W t ht A n c bs (slb_at hS (hid hb)) hn.out hm).mono ?_
  rintro e w' ⟨A2, n2, c2, rfl, h1, h2, h3⟩
  have h4 := map_len t bs
  have h5 := hn.out
  rw [hl.out] at h1 h2 h4
  exact ⟨A2, n2, c2, rfl, h1, by have := h1.out; omega, h2, hb.trans (h3.out.mono hb.size), h3.out⟩
theorem map_cut (t : Tm) (bs : List UInt8) (k : Nat) : mapB t (bs.take k) ++ mapB t (bs.drop k) = mapB t bs := by
  unfold mapB
  rw [← List.flatMap_append, List.take_append_drop]
theorem map_same {t u : Tm} (h : ∀ p, p = 31 ∨ p = 33 ∨ p = 34 ∨ p = 35 ∨ p = 36 ∨ p = 37 ∨ p = 59 → hasN u.f p = hasN t.f p) (bs : List UInt8) : mapB u bs = mapB t bs := by
  unfold mapB
  congr 1
  funext c
  have e1 : stripB u c = stripB t c := by rw [stripB, stripB, s2, s2, s1, s1, h 33 (by omega), h 37 (by omega), h 59 (by omega)]
  have e2 : ∀ d, turnB u d = turnB t d := fun d => by simp only [turnB, h 34 (by omega), h 35 (by omega), h 36 (by omega)]
  have e3 : ∀ d, markB u d = markB t d := fun d => by simp only [markB, h 31 (by omega), h 33 (by omega)]
  simp only [mapR1, e1, e2, e3]
theorem map_other {t : Tm} (ht : t.Ok) {op : Int} (on : Bool) (h1 : ¬ (31 ≤ op ∧ op ≤ 37)) (h2 : ¬ op = 59) (bs : List UInt8) : mapB (setT t op on) bs = mapB t bs := by
  refine map_same (fun p hp => ?_) bs
  show hasN (setN t.f op on) p = hasN t.f p
  rw [setN_has ht.f, if_neg]
  rintro ⟨_, rfl⟩
  omega
theorem run_front {w : World} {B : Nat} {A : Option Addr} {n c k : Nat} {bs : List UInt8} (hS : SlB w B A c bs) (hn : bs.length = n) (hk : k ≤ n) (W : World) : (Instr.sliceAt 32 (.slice A n c) none (some (.int .i64 (k : Int))) none).run Try.prog W = .ok (.slice A k c) W := by
  have hc : A = none → c = 0 := hS.2.2.1
  have hl := hS.1
  have hk2 : (k : Int) ≤ (c : Int) := by omega
  rcases A with _ | ad
  · obtain rfl := hc rfl
    obtain rfl : k = 0 := by omega
    simp [Instr.sliceAt, Instr.slice, go_sem]
  · simp [Instr.sliceAt, Instr.slice, go_sem, hk2]
theorem run_back {w : World} {B : Nat} {A : Option Addr} {n c k : Nat} {bs : List UInt8} (hS : SlB w B A c bs) (hn : bs.length = n) (hk : k ≤ n) : ∃ A2 c2, (∀ W : World, (Instr.sliceAt 32 (.slice A n c) (some (.int .i64 (k : Int))) none none).run Try.prog W = .ok (.slice A2 (n - k) c2) W) ∧ Hid (SlB w B A2 c2 (bs.drop k)) := by
  have hc : A = none → c = 0 := hS.2.2.1
  have hl := hS.1
  have hk2 : (k : Int) ≤ (c : Int) := by omega
  rcases A with _ | ad
  · obtain rfl := hc rfl
    obtain rfl : n = 0 := by omega
    obtain rfl : k = 0 := by omega
    refine ⟨none, 0, fun W => ?_, hid ?_⟩
    · simp [Instr.sliceAt, Instr.slice, go_sem]
    · have : bs = [] := List.eq_nil_of_length_eq_zero hn
      subst this
      exact hS
  · refine ⟨some (if c = k then ad else ad.add k), c - k, fun W => ?_, hid (hS.drop k (by omega))⟩
    simp [Instr.sliceAt, Instr.slice, go_sem, hk]
    split <;> rfl
/-- The place where bytes are cut. -/
theorem cut_k (x n : Nat) (hx : x ≤ 65535) (hn : n ≤ 10000) : ∃ k : Nat, Hid (k ≤ n) ∧ (x : Int).tmod ((n : Int) + 1) = (k : Int) := by
  have h2 : (x : Int).tmod ((n : Int) + 1) = ((x % (n + 1) : Nat) : Int) := by
    rw [Int.tmod_eq_emod_of_nonneg (by omega)]
    push_cast
    rfl
  exact ⟨x % (n + 1), hid (by have := Nat.mod_lt x (show n + 1 > 0 by omega); omega), h2⟩
theorem cut_at {t : Tm} (ht : t.Ok) (A : Option Addr) (n c x : Nat) (op : Int) : ((cutV t A n c x op).size = 27) ∧ (∀ (j : Nat) (v : Value), t.cl[j]? = some v → (cutV t A n c x op)[j]? = some v) ∧ (cutV t A n c x op)[24]? = some (.slice A n c) ∧ (cutV t A n c x op)[25]? = some (.int .u16 (x : Int)) ∧ (cutV t A n c x op)[26]? = some (.int .i64 op) := front_at ht.len _ _ _
attribute [local go_sem ↓] wp_st26 wp_ldR ex_ld26 Go.wp_at_zero Go.wp_at_succ
attribute [local go_sem] isP_v blkV_v aggV_v
set_option maxRecDepth 100000 in
set_option maxHeartbeats 8000000 in
theorem joins_walk (w : World) (t : Tm) (ht : t.Ok) (A : Option Addr) (c n : Nat) (bs : List UInt8) (x : Nat) (op : Int) (hb : Hid (SlB w w.heap.size A c bs)) (hn : bs.length = n) (hx : x ≤ 65535) (_ho : i64ok op) :
    Calls Try.prog 6 #[.agg (cutV t A n c x op)] w fun e w' => e = .returned (.bool true) ∧ Hid (Below w.heap.size w w') := by
  have hl := ht.len
  obtain ⟨f0, f1, f2, f3, f4⟩ := cut_at ht A n c x op
  have hsz : Hid ((Try.prog.info? 42).map (·.size) = some (cutV t A n c x op).size) := hid (by rw [f0]; exact Try.size42)
  have HB0 : Hid (Box (w.alloc (.cells (cutV t A n c x op) 42)) w.heap.size 42 (cutV t A n c x op)) := hid (Box.new w 42 _)
  have HK0 : Hid (Below w.heap.size w (w.alloc (.cells (cutV t A n c x op) 42))) := hid ((Below.refl _ w).alloc (Nat.le_refl _) _)
  have F1 := hid f1
  have F2 := hid f2
  have F3 := hid f3
  have F4 := hid f4
  clear f0 f1 f2 f3 f4
  go_enter Try.func6, Try.ntmps6
  go_wp2_with (first
    | (refine bxT (by rfl) 42 _ (by rfl) _ (by rfl) hsz.out ?_)
    | (go_at_call 7
       (with_reducible refine (call_alive _).mono ?_)
       rintro e u1 ⟨rfl, K1⟩
       have HB1 := hid (box_below HB0.out K1.out)
       have HK1 := bel_t HK0 K1.out
       clear K1 HB0 HK0))
  obtain ⟨r1, r2⟩ := front_R (W := u1.drew) (g := w.heap.size) hl HB1.out F1.out
  obtain ⟨r3, r4⟩ := front_R (W := (u1.alloc (.cells #[.int .u8 0, .int .u8 0, .int .u8 0, .int .u8 0, .int .u8 0, .int .u8 0, .int .u8 0, .int .u8 0, .int .u8 0, .int .u8 0, .int .u8 0, .int .u8 0, .int .u8 0, .int .u8 0, .int .u8 0, .int .u8 0, .int .u8 0, .int .u8 0, .int .u8 0, .int .u64 0, .int .u32 0, .int .u32 0, .int .i64 0, .int .i64 0] 26)).drew) (g := w.heap.size) hl (box_below HB1.out (bel_dr (bel_al (Below.refl _ _)))) F1.out
  obtain ⟨r31, r41⟩ := front_R (W := u1.drew.alloc (.cells #[.int .u8 0, .int .u8 0, .int .u8 0, .int .u8 0, .int .u8 0, .int .u8 0, .int .u8 0, .int .u8 0, .int .u8 0, .int .u8 0, .int .u8 0, .int .u8 0, .int .u8 0, .int .u8 0, .int .u8 0, .int .u8 0, .int .u8 0, .int .u8 0, .int .u8 0, .int .u64 0, .int .u32 0, .int .u32 0, .int .i64 0, .int .i64 0] 26)) (g := w.heap.size) hl (box_below HB1.out (bel_al (bel_dr (Below.refl _ _)))) F1.out
  have r5 := isB_new u1 #[.int .u8 0, .int .u8 0, .int .u8 0, .int .u8 0, .int .u8 0, .int .u8 0, .int .u8 0, .int .u8 0, .int .u8 0, .int .u8 0, .int .u8 0, .int .u8 0, .int .u8 0, .int .u8 0, .int .u8 0, .int .u8 0, .int .u8 0, .int .u8 0, .int .u8 0, .int .u64 0, .int .u32 0, .int .u32 0, .int .i64 0, .int .i64 0] rfl
  have r51 := isB_new u1.drew #[.int .u8 0, .int .u8 0, .int .u8 0, .int .u8 0, .int .u8 0, .int .u8 0, .int .u8 0, .int .u8 0, .int .u8 0, .int .u8 0, .int .u8 0, .int .u8 0, .int .u8 0, .int .u8 0, .int .u8 0, .int .u8 0, .int .u8 0, .int .u8 0, .int .u8 0, .int .u64 0, .int .u32 0, .int .u32 0, .int .i64 0, .int .i64 0] rfl
  have r52 : isB (u1.alloc (.cells #[.int .u8 0, .int .u8 0, .int .u8 0, .int .u8 0, .int .u8 0, .int .u8 0, .int .u8 0, .int .u8 0, .int .u8 0, .int .u8 0, .int .u8 0, .int .u8 0, .int .u8 0, .int .u8 0, .int .u8 0, .int .u8 0, .int .u8 0, .int .u8 0, .int .u8 0, .int .u64 0, .int .u32 0, .int .u32 0, .int .i64 0, .int .i64 0] 26)).drew u1.heap.size = true := r5
  have r53 : isB (u1.drew.alloc (.cells #[.int .u8 0, .int .u8 0, .int .u8 0, .int .u8 0, .int .u8 0, .int .u8 0, .int .u8 0, .int .u8 0, .int .u8 0, .int .u8 0, .int .u8 0, .int .u8 0, .int .u8 0, .int .u8 0, .int .u8 0, .int .u8 0, .int .u8 0, .int .u8 0, .int .u8 0, .int .u64 0, .int .u32 0, .int .u32 0, .int .i64 0, .int .i64 0] 26)) u1.heap.size = true := r51
  have c24 : u1.cell? ⟨w.heap.size, 24, none⟩ = some (.slice A n c) := (HB1.out.cell 24).trans F2.out
  have c25 : u1.cell? ⟨w.heap.size, 25, none⟩ = some (.int .u16 (x : Int)) := (HB1.out.cell 25).trans F3.out
  have c26 : u1.cell? ⟨w.heap.size, 26, none⟩ = some (.int .i64 op) := (HB1.out.cell 26).trans F4.out
  have d24 : ∀ o, (u1.alloc o).cell? ⟨w.heap.size, 24, none⟩ = some (.slice A n c) := fun o => cellOld o c24
  have d25 : ∀ o, (u1.alloc o).cell? ⟨w.heap.size, 25, none⟩ = some (.int .u16 (x : Int)) := fun o => cellOld o c25
  have d26 : ∀ o, (u1.alloc o).cell? ⟨w.heap.size, 26, none⟩ = some (.int .i64 op) := fun o => cellOld o c26
  have hne : w.heap.size ≠ u1.heap.size := by have := HB1.out.lt; omega
  have e24 : ∀ o cs, ((u1.alloc o).drew.setRow u1.heap.size cs).cell? ⟨w.heap.size, 24, none⟩ = some (.slice A n c) := fun o cs => (cell_setRow_other _ _ _ _ hne).trans (d24 o)
  have e25 : ∀ o cs, ((u1.alloc o).drew.setRow u1.heap.size cs).cell? ⟨w.heap.size, 25, none⟩ = some (.int .u16 (x : Int)) := fun o cs => (cell_setRow_other _ _ _ _ hne).trans (d25 o)
  have e26 : ∀ o cs, ((u1.alloc o).drew.setRow u1.heap.size cs).cell? ⟨w.heap.size, 26, none⟩ = some (.int .i64 op) := fun o cs => (cell_setRow_other _ _ _ _ hne).trans (d26 o)
  obtain ⟨r6, r7⟩ := okS_cs hl
  go_region
  all_goals
    obtain ⟨HK3, HG3, HL3⟩ := bel_new (g := u1.heap.size) t.cs #[.int .u8 0, .int .u8 0, .int .u8 0, .int .u8 0, .int .u8 0, .int .u8 0, .int .u8 0, .int .u8 0, .int .u8 0, .int .u8 0, .int .u8 0, .int .u8 0, .int .u8 0, .int .u8 0, .int .u8 0, .int .u8 0, .int .u8 0, .int .u8 0, .int .u8 0, .int .u64 0, .int .u32 0, .int .u32 0, .int .i64 0, .int .i64 0] rfl HK1
    generalize hW : World.setRow _ _ _ = u3 at HK3 HG3 HL3 ⊢
    clear hW r1 r2 r3 r4 r31 r41 r5 r51 r52 r53 c24 c25 c26 d24 d25 d26 e24 e25 e26 hne HB1 HL3 HK1
    generalize u1.heap.size = g3 at HG3 ⊢
    clear F1 F2 F3 F4 r6 r7 hsz
    have hs := cs_size hl
    have L3 := slb_at hb HK3
    by_cases h1 : 10000 < n
    · have k1 : (10000 : Int) < (n : Int) := by omega
      go_wp2
      go_ret
      exact ⟨rfl, HK3⟩
    · have k1 : ¬ (10000 : Int) < (n : Int) := by omega
      obtain ⟨k, hkn, hk⟩ := cut_k x n hx (by omega)
      obtain ⟨l, hl1⟩ : ∃ l, Hid (mapB t bs = l) := ⟨_, hid rfl⟩
      go_wp2_with (first
        | (refine ld26 (by rfl) _ (by rfl) _ (by rfl) t.cs HG3.out hs ?_)
        | (go_at_call 15
           (with_reducible refine (map_grow u3 _ (Below.refl _ _) t ht A n c bs l L3 (hid hn) (by omega) hl1).mono ?_)
           rintro e u4 ⟨A4, n4, c4, rfl, hn4, hm4, L4, k4, _⟩
           have K4 := bel_t HK3 k4
           have G4 := hid (box_below HG3.out k4)
           have L34 := slb_at L3 (hid k4)
           clear k4 HK3 HG3 L3))
      have hf := run_front L34.out hn hkn.out
      obtain ⟨A5, c5, hr, L5⟩ := run_back L34.out hn hkn.out
      have LF : Hid (SlB u4 u4.heap.size A c (bs.take k)) := hid (L34.out.take k)
      have hfl : Hid ((bs.take k).length = k) := hid (by rw [List.length_take]; have := hkn.out; omega)
      have hbl : Hid ((bs.drop k).length = n - k) := hid (by rw [List.length_drop]; omega)
      obtain ⟨x1, hx1⟩ : ∃ z, Hid (mapB t (bs.take k) = z) := ⟨_, hid rfl⟩
      obtain ⟨x2, hx2⟩ : ∃ z, Hid (mapB t (bs.drop k) = z) := ⟨_, hid rfl⟩
      have h12 : Hid (l = x1 ++ x2) := hid (by rw [← hx1.out, ← hx2.out, map_cut, hl1.out])
      have hkk := hkn.out
      have bz : ∀ W, Below u4.heap.size u4 W → isB W g3 = true ∧ cs26 W g3 = t.cs := fun W h => ⟨isB_mk (box_below G4.out h) hs, cs26_of (box_below G4.out h)⟩
      go_region_held3 (fun u => isB u g3 = true ∧ cs26 u g3 = t.cs) (exact bz _ (by repeat (first | exact Below.refl _ _ | exact b9 | exact b8 | exact b7 | exact b6 | with_reducible apply bel_dr | with_reducible apply bel_al))) ((first
        | (go_at_call 15
           (first
             | ((with_reducible refine (map_grow u4 _ ?b1 t ht A k c (bs.take k) x1 LF hfl (by omega) hx1).mono ?_)
                case b1 => repeat (first | exact Below.refl _ _ | with_reducible apply bel_dr | with_reducible apply bel_al)
                rintro e u6 ⟨A6, n6, c6, rfl, hn6, hm6, L6, b6, d6⟩
                first | have z6 := box_below (box_nw (cs := #[]) (t := 5) rfl) d6 | have z6 := box_below (box_dr (box_nw (cs := #[]) (t := 5) rfl)) d6 | skip)
             | ((with_reducible refine (map_grow u4 _ ?b2 t ht A5 (n - k) c5 (bs.drop k) x2 L5 hbl (by omega) hx2).mono ?_)
                case b2 => repeat (first | exact b7 | with_reducible apply bel_dr | with_reducible apply bel_al)
                rintro e u8 ⟨A8, n8, c8, rfl, hn8, hm8, L8, b8, d8⟩)))
        | (refine step_copy u4 u6 rfl (.tmp 32) (.tmp 37) rfl _ rfl ?c1 ?c2 ?c3 ?c4 A6 n6 c6 x1 rfl L6 hn6 (by omega) ?_
           case c1 => first | exact z6 | exact box_nw rfl | exact box_dr (box_nw rfl)
           case c2 => first | exact Nat.le_refl _ | exact b6.size
           case c3 => repeat (first | exact b6 | with_reducible apply bel_dr | with_reducible apply bel_al)
           case c4 => repeat (first | exact Below.refl _ _ | with_reducible apply bel_dr | with_reducible apply bel_al)
           intro A7 c7 u7 b7 o7)
        | (refine step_more u4 u7 u8 rfl (.tmp 38) (.tmp 43) rfl A7 n6 c7 x1 rfl o7 ?e1 ?e2 ?e3 A8 n8 c8 x2 rfl L8 hn8 hn6 (by omega) ?_
           case e1 => repeat (first | exact d8 | with_reducible apply bel_dr | with_reducible apply bel_al)
           case e2 => repeat (first | exact b8 | with_reducible apply bel_dr | with_reducible apply bel_al)
           case e3 => repeat (first | exact Below.refl _ _ | with_reducible apply bel_dr | with_reducible apply bel_al)
           intro A9 c9 u9 b9 L9)))
      all_goals
        have K9 := bel_t K4 b9
        have G9 := hid (box_below G4.out b9)
        have L49 := slb_at L4 (hid b9)
        have L39 := slb_at L34 (hid b9)
        have hlen : Hid ((x1 ++ x2).length = n6 + n8) := hid (by rw [List.length_append, hn6.out, hn8.out])
        clear bz hf hr hx1 hx2 LF L5 hfl hbl hk hkn L34 G4 K4 L4
        by_cases q31 : (31 : Int) ≤ op
        · by_cases q37 : op ≤ (37 : Int)
          · go_wp2_with (first
                | (go_at_call 12
                   (with_reducible refine (bytes_two _ A4 A9 c4 c9 n4 (n6 + n8) l (x1 ++ x2) hn4.out hlen.out h12.out L49 L9 (by have := hn4.out; unfold maxLen; omega)).mono ?_)
                   rintro e u10 ⟨rfl, d10⟩
                   have K10 := bel_t K9 d10.out
                   have G10 := hid (box_below G9.out d10.out)
                   have L410 := slb_at L49 d10
                   have L310 := slb_at L39 d10
                   clear d10 K9 G9 L49 L39))
            go_ret
            exact ⟨rfl, K10⟩

          · by_cases q59 : op = 59
            · have e59 : (op == 59) = true := by simpa using q59
              go_wp2_with (first
                  | (go_at_call 12
                     (with_reducible refine (bytes_two _ A4 A9 c4 c9 n4 (n6 + n8) l (x1 ++ x2) hn4.out hlen.out h12.out L49 L9 (by have := hn4.out; unfold maxLen; omega)).mono ?_)
                     rintro e u10 ⟨rfl, d10⟩
                     have K10 := bel_t K9 d10.out
                     have G10 := hid (box_below G9.out d10.out)
                     have L410 := slb_at L49 d10
                     have L310 := slb_at L39 d10
                     clear d10 K9 G9 L49 L39))
              go_ret
              exact ⟨rfl, K10⟩

            · have e59 : (op == 59) = false := by simpa using q59
              have hno := map_other ht (!(hasN t.f op)) (by omega) q59 bs
              rw [hl1.out] at hno
              have HNO : Hid (mapB (setT t op (!(hasN t.f op))) bs = l) := hid hno
              clear hno
              obtain ⟨v, hv⟩ : ∃ v, hasN t.f op = v := ⟨_, rfl⟩
              rw [hv] at HNO
              obtain ⟨t', ht'⟩ : ∃ t', setT t op (!v) = t' := ⟨_, rfl⟩
              rw [ht'] at HNO
              have hto : t'.Ok := by rw [← ht']; exact setT_ok ht _ _
              go_wp2_with (first
                  | (go_at_call 12
                     (with_reducible refine (bytes_two _ A4 A9 c4 c9 n4 (n6 + n8) l (x1 ++ x2) hn4.out hlen.out h12.out L49 L9 (by have := hn4.out; unfold maxLen; omega)).mono ?_)
                     rintro e u10 ⟨rfl, d10⟩
                     have K10 := bel_t K9 d10.out
                     have G10 := hid (box_below G9.out d10.out)
                     have L410 := slb_at L49 d10
                     have L310 := slb_at L39 d10
                     clear d10 K9 G9 L49 L39))
              have L4d : Hid (SlB u10.drew u10.drew.heap.size A4 c4 l) := L410
              have L3d : Hid (SlB u10.drew u10.drew.heap.size A c bs) := L310
              have K10d := drw K10
              have S10 := box_isB (w := u10.drew) G10.out ht.len
              have G10d : Hid (Box u10.drew g3 26 t.cs) := G10
              clear L410 L310 K10
              go_region_held3 (fun u => isB u g3 = true ∧ cs26 u g3 = t.cs) (first | exact S10 | exact S11 | exact S12 | exact S13 | exact S14) ((first
                | (go_at_call 18
                   (with_reducible refine (has_b _ ht hv).mono ?_)
                   rintro e u11 ⟨rfl, k⟩
                   have G11 := hid (box_below G10d.out k.out)
                   have K11 := bel_t K10d k.out
                   have S11 := box_isB G11.out ht.len
                   have L411 := slb_at L4d k
                   have L311 := slb_at L3d k
                   clear k)
                | (go_at_call 17
                   (with_reducible refine (set_b _ ht ht').mono ?_)
                   rintro e u12 ⟨rfl, k⟩
                   have G12 := hid (box_below G11.out k.out)
                   have K12 := bel_t K11 k.out
                   have S12 := box_isB G12.out ht.len
                   have L412 := slb_at L411 k
                   have L312 := slb_at L311 k
                   clear k)
                | (go_at_call 15
                   (with_reducible refine (map_grow u12 _ (Below.refl _ _) t' hto A n c bs l L312 (hid hn) (by omega) HNO).mono ?_)
                   rintro e u13 ⟨A13, n13, c13, rfl, hn13, hm13, L13, k13, _⟩
                   have G13 := hid (box_below G12.out k13)
                   have K13 := bel_t K12 k13
                   have S13 := box_isB G13.out ht.len
                   have L413 := slb_at L412 (hid k13)
                   clear k13)
                | (go_at_call 12
                   (with_reducible refine (bytes_two _ A4 A13 c4 c13 n4 n13 l l hn4.out hn13.out (Eq.refl l) L413 L13 (by have := hn4.out; unfold maxLen; omega)).mono ?_)
                   rintro e u14 ⟨rfl, k⟩
                   have G14 := hid (box_below G13.out k.out)
                   have K14 := bel_t K13 k.out
                   have S14 := box_isB G14.out ht.len
                   clear k)))
              go_wp2
              go_ret
              exact ⟨rfl, K14⟩

        · by_cases q59 : op = 59
          · exfalso
            omega
          · have e59 : (op == 59) = false := by simpa using q59
            have hno := map_other ht (!(hasN t.f op)) (by omega) q59 bs
            rw [hl1.out] at hno
            have HNO : Hid (mapB (setT t op (!(hasN t.f op))) bs = l) := hid hno
            clear hno
            obtain ⟨v, hv⟩ : ∃ v, hasN t.f op = v := ⟨_, rfl⟩
            rw [hv] at HNO
            obtain ⟨t', ht'⟩ : ∃ t', setT t op (!v) = t' := ⟨_, rfl⟩
            rw [ht'] at HNO
            have hto : t'.Ok := by rw [← ht']; exact setT_ok ht _ _
            go_wp2_with (first
                | (go_at_call 12
                   (with_reducible refine (bytes_two _ A4 A9 c4 c9 n4 (n6 + n8) l (x1 ++ x2) hn4.out hlen.out h12.out L49 L9 (by have := hn4.out; unfold maxLen; omega)).mono ?_)
                   rintro e u10 ⟨rfl, d10⟩
                   have K10 := bel_t K9 d10.out
                   have G10 := hid (box_below G9.out d10.out)
                   have L410 := slb_at L49 d10
                   have L310 := slb_at L39 d10
                   clear d10 K9 G9 L49 L39))
            have L4d : Hid (SlB u10.drew u10.drew.heap.size A4 c4 l) := L410
            have L3d : Hid (SlB u10.drew u10.drew.heap.size A c bs) := L310
            have K10d := drw K10
            have S10 := box_isB (w := u10.drew) G10.out ht.len
            have G10d : Hid (Box u10.drew g3 26 t.cs) := G10
            clear L410 L310 K10
            go_region_held3 (fun u => isB u g3 = true ∧ cs26 u g3 = t.cs) (first | exact S10 | exact S11 | exact S12 | exact S13 | exact S14) ((first
              | (go_at_call 18
                 (with_reducible refine (has_b _ ht hv).mono ?_)
                 rintro e u11 ⟨rfl, k⟩
                 have G11 := hid (box_below G10d.out k.out)
                 have K11 := bel_t K10d k.out
                 have S11 := box_isB G11.out ht.len
                 have L411 := slb_at L4d k
                 have L311 := slb_at L3d k
                 clear k)
              | (go_at_call 17
                 (with_reducible refine (set_b _ ht ht').mono ?_)
                 rintro e u12 ⟨rfl, k⟩
                 have G12 := hid (box_below G11.out k.out)
                 have K12 := bel_t K11 k.out
                 have S12 := box_isB G12.out ht.len
                 have L412 := slb_at L411 k
                 have L312 := slb_at L311 k
                 clear k)
              | (go_at_call 15
                 (with_reducible refine (map_grow u12 _ (Below.refl _ _) t' hto A n c bs l L312 (hid hn) (by omega) HNO).mono ?_)
                 rintro e u13 ⟨A13, n13, c13, rfl, hn13, hm13, L13, k13, _⟩
                 have G13 := hid (box_below G12.out k13)
                 have K13 := bel_t K12 k13
                 have S13 := box_isB G13.out ht.len
                 have L413 := slb_at L412 (hid k13)
                 clear k13)
              | (go_at_call 12
                 (with_reducible refine (bytes_two _ A4 A13 c4 c13 n4 n13 l l hn4.out hn13.out (Eq.refl l) L413 L13 (by have := hn4.out; unfold maxLen; omega)).mono ?_)
                 rintro e u14 ⟨rfl, k⟩
                 have G14 := hid (box_below G13.out k.out)
                 have K14 := bel_t K13 k.out
                 have S14 := box_isB G14.out ht.len
                 clear k)))
            go_wp2
            go_ret
            exact ⟨rfl, K14⟩
end Go.Proofs.Ytpfcjcldokghbaa
