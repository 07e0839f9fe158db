import Derived.Test.YtgkcappcjlfloaaNE
import Derived.Maps.AppendAt
import Derived.Deep.RegionLaw
import Derived.Deep.RegionHeld3
namespace Go.Proofs.Ytgkcappcjlfloaa
open Go.RowKit Go.Shelf

attribute [local go_sem] Oper.semAt_some

section
variable {dst : Option Tmp} {x : Operand} {ty : TypeId} {pos : String} {after : Array Edge} {gd : Option (Nat × Bool)}
theorem ex_ld26 {ev : Operand → Value} {w : World} (h1 : isP (ev x) = true) (h2 : isB w (blkV (ev x)) = true) :
    (execOp ev { dst, op := .load 26 x, type := ty, pos, after, guard := gd }).run Try.prog w = .ok (.value (.agg (cs26 w (blkV (ev x))))) w := by
  obtain ⟨hb, hs⟩ := isB_box h2
  have hx := isP_eq h1
  generalize blkV (ev x) = g at *
  unfold execOp
  simp only [hx, Instr.loadAt, Instr.sureAddr, Sem.run_bind, Sem.run_pure, Result.andThen_ok, run_loadVar_row (P := Try.prog) w g 26 26 _ (0, 0) _ hb Try.underlying26 rfl (by rw [hs]; exact Try.size26)]
theorem ex_bx26 {ev : Operand → Value} {w : World} (h1 : okS (ev x) = true) :
    (execOp ev { dst, op := .box 26 x, type := ty, pos, after, guard := gd }).run Try.prog w = .ok (.value (.pointer (some ⟨w.heap.size, 0, none⟩))) (w.alloc (.cells (aggV (ev x)) 26)) := by
  unfold okS at h1
  simp only [Bool.and_eq_true, decide_eq_true_eq] at h1
  have hx := isA_eq h1.1.1
  have hs := h1.1.2
  clear h1
  generalize aggV (ev x) = z at *
  unfold execOp
  simp only [hx, Sem.run_bind, run_box26 w z hs, Result.andThen_ok, Sem.run_pure]
theorem wpIn_ld26 {F : Fence} {n : Nat} {a : Act} {w : World} {K : Act → World → Prop} {Q : Exit → Act → World → Prop} (h1 : isP (a.eval x) = true) (h2 : isB w (blkV (a.eval x)) = true) :
    Oper.wpIn F n Try.prog { dst, op := .load 26 x, type := ty, pos, after, guard := gd } a w K Q = K (a.put dst (.agg (cs26 w (blkV (a.eval x))))) w := by
  unfold Oper.wpIn
  rw [Oper.semAt_plain F _ _ (by intro c hc; cases hc), ex_ld26 h1 h2, Oper.uponIn_value]
  simp [Oper.about]
theorem wpIn_at2 {F : Fence} {n : Nat} {a : Act} {w : World} {K : Act → World → Prop} {Q : Exit → Act → World → Prop} {o0 o1 o3 o4 o5 o6 : Oper} {hp : 2 < (#[o0, o1, { dst, op := .load 26 x, type := ty, pos, after, guard := gd }, o3, o4, o5, o6] : Array Oper).size} (h1 : isP (a.eval x) = true) (h2 : isB w (blkV (a.eval x)) = true) :
    Oper.wpIn F n Try.prog ((#[o0, o1, { dst, op := .load 26 x, type := ty, pos, after, guard := gd }, o3, o4, o5, o6] : Array Oper)[2]'hp) a w K Q = K (a.put dst (.agg (cs26 w (blkV (a.eval x))))) w := wpIn_ld26 h1 h2
end
/-- The first characters as modes. -/
def chL (t : Tm) (k : Nat) : List UInt8 := (List.range k).flatMap fun i => enc5 (i + 1) (t.c.getD (i + 1) 0).toNat
theorem chL_len (t : Tm) (k : Nat) : (chL t k).length = 5 * k := by
  unfold chL
  induction k with
  | zero => rfl
  | succ k ih => rw [List.range_succ, List.flatMap_append, List.length_append, ih]; simp [enc5_len]; omega
theorem chL_step (t : Tm) (k : Nat) : chL t (k + 1) = chL t k ++ enc5 (k + 1) (t.c.getD (k + 1) 0).toNat := by
  unfold chL
  rw [List.range_succ, List.flatMap_append]
  simp
/-- Flags as modes. -/
def flE (t : Tm) (x : Fl) : List UInt8 := enc5 x.1.toNat (if hasN t.f x.1 then 1 else 0)
def flL (t : Tm) (l : List Fl) : List UInt8 := l.flatMap (flE t)
theorem flL_len (t : Tm) (l : List Fl) : (flL t l).length = 5 * l.length := by
  unfold flL
  induction l with
  | nil => rfl
  | cons x l ih => rw [List.flatMap_cons, List.length_append, ih]; simp [flE, enc5_len]; omega
theorem flL_step (t : Tm) (l : List Fl) (x : Fl) : flL t (l ++ [x]) = flL t l ++ flE t x := by
  unfold flL
  rw [List.flatMap_append]
  simp
/-- A setting as a stream. -/
def encE (t : Tm) : List UInt8 := chL t 18 ++ flL t flagsF ++ enc5 128 t.i ++ enc5 129 t.o ++ [0]
/-- What a world holds while a setting is told. -/
structure Em (w W : World) (t : Tm) (A : Option Addr) (n c : Nat) (xs : List UInt8) : Prop where
  own : W.ownsRow w.heap.size 5 1 (.slice A n c) n (bv xs)
  box : Box W w.heap.size 26 t.cs
  var : Box W (w.heap.size + 1) 38 #[.slice A n c]
  bel : Below w.heap.size w W
theorem Em.grow {w wr wr' : World} {t : Tm} {A : Option Addr} {n c : Nat} {xs : List UInt8} (h : Em w wr t A n c xs) (hb : Below wr.heap.size wr wr') : Em w wr' t A n c xs :=
  ⟨own_keep h.own hb, box_below h.box hb, box_below h.var hb, h.bel.trans (hb.mono h.bel.size)⟩
theorem Em.drew {w wr : World} {t : Tm} {A : Option Addr} {n c : Nat} {xs : List UInt8} (h : Em w wr t A n c xs) : Em w wr.drew t A n c xs := h.grow (Below.refl _ wr).drew
/-- Behind a call of put and the store of what it answers. -/
theorem Em.put {w wr W : World} {t : Tm} {A A' : Option Addr} {n c n' c' : Nat} {xs ys : List UInt8} (h : Em w wr t A n c xs) (ho : Hid (W.ownsRow w.heap.size 5 1 (.slice A' n' c') n' (bv ys))) (hk : Hid (Kept w.heap.size [5] wr W)) : Em w (W.setCell ⟨w.heap.size + 1, 0, none⟩ (.slice A' n' c')) t A' n' c' ys := by
  have hv := hk.out.box h.var (by decide)
  have hst := (Kept.refl w.heap.size [38] W).store hv (Nat.le_succ _) (by decide) (.slice A' n' c') (i := 0)
  have hwr := h.bel.trans (hk.out.below h.bel.size)
  refine ⟨hst.own ho.out (by decide), hst.box (hk.out.box h.box (by decide)) (by decide), ?_, hwr.trans (hst.below hwr.size)⟩
  exact (show Boxed W (w.heap.size + 1) 38 (.slice A n c) from hv).set _
theorem keeps_kept {B : Nat} {T : List TypeId} {W W' : World} (h : Kept B T W W') : KeepsOthers W W' :=
  ⟨h.size, fun k o hk ho => (h.block k (Array.getElem?_eq_some_iff.1 hk).1 (.inr fun cs t fr e => by rw [hk] at e; cases e; cases ho)).trans hk⟩
theorem keeps_below {W W' : World} (h : Below W.heap.size W W') : KeepsOthers W W' := ⟨h.size, fun k _o hk _ => (h.block k (Array.getElem?_eq_some_iff.1 hk).1).trans hk⟩
theorem span_set {w W : World} {v : Value} (h : Box W (w.heap.size + 1) 38 #[v]) (u : Value) : Span W (W.setCell ⟨w.heap.size + 1, 0, none⟩ u) := fun b cs hb => by
  have hne : b ≠ w.heap.size + 1 := by
    rintro rfl
    rw [show W.heap[w.heap.size + 1]? = _ from h] at hb
    injection hb with hb
    injection hb with _ hb
    cases hb
  rw [heap_setCell_other _ _ _ _ hne]
  exact hb
theorem u32_v {v : Nat} (h : v < 4294967296) : IntKind.u32.wrap (v : Int) = (v : Int) := by
  show (v : Int) % 4294967296 = _
  omega
theorem put_z (w : World) (base : Nat) (A : Option Addr) (n c : Nat) (xs : List UInt8) (op v : Nat) (hop : op ≤ 255) (hv : v < 4294967296) (hown : Hid (w.ownsRow base 5 1 (.slice A n c) n (bv xs))) (hb : base ≤ w.heap.size) (hm : n ≤ 100000) {O X : Int} (hO : O = (op : Int)) (hX : X = (v : Int)) :
    Calls Try.prog 38 #[.slice A n c, .int .i64 O, .int .u32 X] w fun e w' => ∃ A' n' c', e = .returned (.slice A' n' c') ∧ Hid (n' = n + 5) ∧ Hid (w'.ownsRow base 5 1 (.slice A' n' c') n' (bv (xs ++ enc5 op v))) ∧ Hid (Kept base [5] w w') := by
  subst hX hO
  refine (put_any w base A n c xs op v hop hv hown hb hm).mono ?_
  rintro e w' ⟨A', c', h1, h2, h3⟩
  exact ⟨A', n + 5, c', h1, hid rfl, h2, h3⟩
theorem flagArg_b (w : World) (t : Tm) (ht : t.Ok) {op : Int} {b : Bool} (hb : hasN t.f op = b) {X : Int} (hX : (if b = true then 1 else 0) = X) : Calls Try.prog 40 #[.agg t.cs, .int .i64 op] w fun e w' => e = .returned (.int .u32 X) ∧ Hid (Below w.heap.size w w') := by
  subst hb hX
  exact flagArg_any w t ht op
theorem app_lit2 {ops : Array Oper} {rest : List Oper} {o : Oper} {a : Act} {Q : Exit → Act → World → Prop} (w : World) (hgd : o.guard = none) (s x : Operand) (ho : o.op = .call { callee := .builtin .append, args := #[s, x], argTypes := #[38, 38] })
    (base n c : Nat) (A : Option Addr) (xs : List UInt8) (hs : a.eval s = .slice A n c) (hown : Hid (w.ownsRow base 5 1 (.slice A n c) n (bv xs))) (hb : base ≤ w.heap.size) (ys : List UInt8) (m : Nat) (cs : Array Value) (hc : bv ys = cs.toList) (hy : ys.length = m)
    (g : Nat) (hg : g = w.heap.size) (hx : a.eval x = .slice (some ⟨g, 0, none⟩) m m) (hm : n + m ≤ 1000000)
    (h : ∀ A' c' w', Hid (w'.ownsRow base 5 1 (.slice A' (n + m) c') (n + m) (bv (xs ++ ys))) → Hid (Kept base [5] w w') → wpList Try.prog ops Q rest (a.put o.dst (.slice A' (n + m) c')) w') : wpList Try.prog ops Q (o :: rest) a (w.alloc (.cells cs 5)) := by
  subst hg
  exact app_lit w hgd s x ho base n c A xs hs hown hb ys m cs hc hy hx hm h
theorem box_own {β : Type} (g : Nat) (T : TypeId) (cs : Array Value) : Own (fun (_ : β) W => Box W g T cs) := fun _ X _ row hs hg hr =>
  (hg.block g (Box.lt hs) (fun e => by obtain ⟨o, ho, hc⟩ := hr g e.symm; rw [show X.heap[g]? = _ from hs] at ho; cases ho; cases hc)).trans hs
theorem slice_v {W : World} {base n : Nat} {v : Value} {xs : List Value} (h : W.ownsRow base 5 1 v n xs) : ∃ A c, v = .slice A n c := by
  obtain ⟨_, ⟨rfl, h0⟩ | ⟨g, cap, cur, rfl, _⟩⟩ := h
  · subst h0
    exact ⟨none, 0, rfl⟩
  · exact ⟨_, _, rfl⟩
theorem em_round {w W u1 u2 : World} {t : Tm} {A A' : Option Addr} {n c n' c' op v : Nat} {XS : List UInt8} {pre : List Fl} {hx : flagB (op : Int) = true} (HX : Hid (chL t 18 ++ flL t pre = XS)) (HN : Hid (90 + 5 * pre.length = n)) (hv : (if hasN t.f (op : Int) then 1 else 0) = v) (HE1 : Hid (Em w u1 t A n c XS)) (k1 : Hid (Below W.drew.heap.size W.drew u1)) (hn' : Hid (n' = n + 5))
    (ho2 : Hid (u2.ownsRow w.heap.size 5 1 (.slice A' n' c') n' (bv (XS ++ enc5 op v)))) (hk2 : Hid (Kept w.heap.size [5] u1 u2)) {a : Act} :
    ownPostK Span (fun (pre : List Fl) (W : World) => ((∃ v, Boxed W (w.heap.size + 1) 38 v ∧ W.ownsRow w.heap.size 5 1 v (90 + 5 * pre.length) (bv (chL t 18 ++ flL t pre)) ∧ True) ∧ Box W w.heap.size 26 t.cs) ∧ Below w.heap.size w W) (fun (_ : Code) (_ : List Fl) (_ : World) => False) (pre ++ [⟨(op : Int), hx⟩]) W .normal a (u2.setCell ⟨w.heap.size + 1, 0, none⟩ (.slice A' n' c')) := by
  have H := HE1.out.put ho2 hk2
  have hv2 := hk2.out.box HE1.out.var (by decide)
  have e1 : 90 + 5 * (pre ++ [(⟨(op : Int), hx⟩ : Fl)]).length = n' := by rw [hn'.out, ← HN.out]; simp; omega
  have e2 : chL t 18 ++ flL t (pre ++ [(⟨(op : Int), hx⟩ : Fl)]) = XS ++ enc5 op v := by
    rw [flL_step, ← List.append_assoc, HX.out]
    unfold flE
    rw [hv]
    rfl
  refine ⟨((KeepsOthers.drew W).trans (keeps_below k1.out)).trans ((keeps_kept hk2.out).trans (KeepsOthers.setCell _ _ _)), span_t (span_t (show Span W u1 from span_below (W := W.drew) k1.out) (span_kept hk2.out (by decide))) (span_set (w := w) hv2 _), ⟨⟨_, H.var, ?_, trivial⟩, H.box⟩, H.bel⟩
  rw [e1, e2]
  exact H.own
attribute [local go_sem ↓] ex_ld26 wpIn_ld26 wpIn_at2
attribute [local go_sem] isP_v blkV_v aggV_v
set_option maxRecDepth 100000 in
set_option maxHeartbeats 4000000 in
theorem encode_in (w : World) (t : Tm) (ht : t.Ok) :
    CallsIn Fence.wide 3 Try.prog 25 #[.agg t.cs] w fun e W' => ∃ A n c, e = .returned (.slice A n c) ∧ (encE t).length = n ∧ W'.ownsRow w.heap.size 5 1 (.slice A n c) n (bv (encE t)) ∧ Below w.heap.size w W' := by
  have h25 : Fence.wide.fn 25 := trivial
  have h39 : Fence.wide.fn 39 := trivial
  have hro : Fence.wide.round = none := rfl
  have h1 : 1 ≤ 3 := by omega
  have hs := cs_size ht.len
  refine callsIn_of_wp_marks Try.func25 rfl h25 ?_ hro
  simp only [Try.ntmps25, List.size_toArray, List.length_cons, List.length_nil, Nat.reduceAdd, Nat.reduceSub, Array.replicate_succ, Array.replicate_zero, List.push_toArray, List.append_toArray, List.nil_append, List.cons_append]
  refine wpIn_wide.2 ?_
  go_wp2_with (refine bx26 (by rfl) _ (by rfl) _ (by rfl) hs ?_; intro _)
  have H0 : Hid (Em w ((w.alloc (.cells t.cs 26)).alloc (.cells #[.slice none 0 0] 38)) t none 0 0 (chL t 0)) := hid ⟨⟨rfl, Or.inl ⟨rfl, rfl⟩⟩, box_below (Box.new w 26 _) ((Below.refl _ _).alloc (Nat.le_refl _) _), (by have h := Box.new (w.alloc (.cells t.cs 26)) 38 #[.slice none 0 0]; rwa [World.size_alloc] at h), ((Below.refl _ w).alloc (Nat.le_refl _) _).alloc (by simp) _⟩
  go_loopw [4] (fun i wr => ∃ (k : Nat) (A : Option Addr) (n c : Nat), k ≤ 18 ∧ i = .int .i64 ((k + 1 : Nat) : Int) ∧ Hid (n = 5 * k) ∧ Hid (Em w wr t A n c (chL t k))) (fun i _ => 200 - (intOf i).toNat)
  case atStart => exact ⟨0, none, 0, 0, by omega, rfl, hid rfl, H0⟩
  case round =>
    clear H0
    obtain ⟨k, A, n, c, hk, rfl, hn, HE⟩ := hrel
    have hnk := hn.out
    by_cases hlt : k < 18
    · obtain ⟨p, hp⟩ : ∃ p, p = k + 1 := ⟨_, rfl⟩
      have k1 : (p : Int) ≤ 18 ∧ (p : Int) < 19 ∧ (0 : Int) ≤ (p : Int) := by omega
      have ck : wr.cell? ⟨w.heap.size, p, none⟩ = some (.int .u8 ((t.c.getD p 0).toNat : Int)) := (HE.out.box.cell p).trans (cs_char2 ht.len p (by omega))
      have cb : wr.cell? ⟨w.heap.size + 1, 0, none⟩ = some (.slice A n c) := HE.out.var.cell 0
      have hst : Hid (chL t (k + 1) = chL t k ++ enc5 p (t.c.getD p 0).toNat) := hid (by rw [hp]; exact chL_step t k)
      rw [← hp]
      have hl := (t.c.getD p 0).toNat_lt
      obtain ⟨v, hvv⟩ : ∃ v, (t.c.getD p 0).toNat = v := ⟨_, rfl⟩
      rw [hvv] at ck hl hst
      have hl2 : (v : Int) < 256 := by omega
      have HEd := hid HE.out.drew
      have HP := hid hp
      have HK := hid (show k < 18 ∧ n = 5 * k from ⟨hlt, hnk⟩)
      have hw32 := u32_v (v := v) (by omega)
      have hn9 : n ≤ 100000 := by omega
      clear hp hlt hk hnk
      have cb1 : wr.drew.cell? ⟨w.heap.size + 1, 0, none⟩ = some (.slice A n c) := cb
      have ck1 : wr.drew.cell? ⟨w.heap.size, p, none⟩ = some (.int .u8 (v : Int)) := ck
      go_wp2
      refine wp_region_noPanic ?_
      go_region_law (first
        | (go_simp
           go_at_call 38
           (with_reducible refine (put_any _ w.heap.size A n c (chL t k) p v (by omega) (by omega) (hid HEd.out.own) HEd.out.bel.size hn9).mono ?_)
           rintro e u2 ⟨A', c', rfl, ho2, hk2⟩
           have hv2 := hk2.out.box HEd.out.var (by decide)
           have cb2 : u2.cell? ⟨w.heap.size + 1, 0, none⟩ = some (.slice A n c) := hv2.cell 0
           have fb2 : u2.frozen? ⟨w.heap.size + 1, 0, none⟩ = false := hv2.frozen 0))
      all_goals refine NoPanic.normal ?_
      all_goals
        have HE2 := HEd.out.put ho2 hk2
        clear hk2 ho2 hv2 cb2 fb2 ck1 cb1 ck cb
        go_wp2
        go_roundw
        case rel =>
          refine ⟨k + 1, A', n + 5, c', by have := HK.out; omega, ?_, hid (by have := HK.out; omega), ?_⟩
          · have := HP.out
            subst this
            go_num
          · rw [hst.out]
            exact hid HE2
        case measure => have := k1; simp only [intOf]; omega
    · obtain rfl : k = 18 := by omega
      rw [show ((18 + 1 : Nat) : Int) = 19 from rfl]
      obtain rfl : n = 90 := by omega
      go_wp2
      refine (wpIn_wide (n := 3)).1 ?_
      refine wpIn_rangeFunc_ownF hro h1 (gf := 39) (lb := #[]) rfl h39 (enters_of Try.func39 (by kernel_rfl) rfl)
        (flags_stops Fence.wide 2 h39 hro (by omega) _) span_t (fun W l o o' hl => span_b (w := wr) W l o o' hl) (Below.refl _ _) (fun _ => rfl)
        (fun pre W => ((∃ v, Boxed W (w.heap.size + 1) 38 v ∧ W.ownsRow w.heap.size 5 1 v (90 + 5 * pre.length) (bv (chL t 18 ++ flL t pre)) ∧ True) ∧ Box W w.heap.size 26 t.cs) ∧ Below w.heap.size w W)
        (fun _ _ _ => False)
        (OwnFrom.and (OwnFrom.and (Own.from (holdsRow_own w.heap.size (w.heap.size + 1) 38 5 1 (fun pre => 90 + 5 * pre.length) (fun pre => bv (chL t 18 ++ flL t pre)) (fun _ _ => True)) _) (Own.from (box_own _ _ _) _)) (ownFrom_below (Nat.le_refl _) HE.out.bel.size))
        (fun _ _ _ _ _ hs _ _ => hs)
        ⟨⟨⟨_, HE.out.var, (by have h := HE.out.own; simpa [flL] using h), trivial⟩, HE.out.box⟩, HE.out.bel⟩
        (fun x => { tmps := #[.agg t.cs, .pointer (some ⟨w.heap.size, 0, none⟩), .slice none 0 0, .pointer (some ⟨w.heap.size + 1, 0, none⟩), .int .i64 19, .int .i64 x.1, .int .i64 19, .bool false, u8, u9, u10, u11, u12, u13, u14, u15, u16, u17, .int .i64 x.1, undef, undef, undef, undef, undef, undef, undef, undef, undef, undef, undef, undef, undef, undef, undef, undef, undef], defers := [] }) ?assign ?body ?done ?stop
      case assign =>
        intro l x W K hK
        gi_wp2
        exact hK
      case body =>
        rintro l pre ⟨x, hx⟩ W ⟨⟨⟨v, hv, hrow, _⟩, hbx⟩, hbel⟩ hlt
        have hmx : Try.prog.follows .mixedOrders = true := by kernel_rfl
        have hr := flag_rng hx
        obtain ⟨op, hop⟩ : ∃ op : Nat, x = (op : Int) := ⟨x.toNat, by omega⟩
        subst hop
        obtain ⟨A, c, rfl⟩ := slice_v hrow
        obtain ⟨n, hn⟩ : ∃ n, 90 + 5 * pre.length = n := ⟨_, rfl⟩
        obtain ⟨XS, hXS⟩ : ∃ z, chL t 18 ++ flL t pre = z := ⟨_, rfl⟩
        rw [hn, hXS] at hrow
        rw [hn] at hv
        have HN := hid hn
        have HX := hid hXS
        have hn9 : n ≤ 100000 := by omega
        have HEd : Hid (Em w W.drew t A n c XS) := hid (Em.drew ⟨hrow, hbx, hv, hbel⟩)
        have cb : W.cell? ⟨w.heap.size + 1, 0, none⟩ = some (.slice A n c) := hv.cell
        have cb1 : W.drew.cell? ⟨w.heap.size + 1, 0, none⟩ = some (.slice A n c) := cb
        obtain ⟨s1, s2⟩ := box_isB (w := W) hbx ht.len
        obtain ⟨s3, s4⟩ := box_isB (w := W.drew) HEd.out.box ht.len
        clear hn hXS hrow hbel
        dsimp only
        cases hh : hasN t.f (op : Int)
        · gi_wp2
          gi_region_with_o (first
            | (gi_at_call 40
               refine (CallsIn.inRound l (callsIn_wide.2 (flagArg_b _ t ht hh (X := 0) rfl))).mono ?_
               rintro e u1 ⟨rfl, k1⟩
               have HE1 := hid (HEd.out.grow k1.out)
               have cbu : u1.cell? ⟨w.heap.size + 1, 0, none⟩ = some (.slice A n c) := HE1.out.var.cell 0)
            | (refine ⟨trivial, ?_⟩
               gi_at_call 40
               refine (CallsIn.inRound l (callsIn_wide.2 (flagArg_b _ t ht hh (X := 0) rfl))).mono ?_
               rintro e u1 ⟨rfl, k1⟩
               have HE1 := hid (HEd.out.grow k1.out)
               have cbu : u1.cell? ⟨w.heap.size + 1, 0, none⟩ = some (.slice A n c) := HE1.out.var.cell 0)
            | (gi_at_call 38
               refine (CallsIn.inRound l (callsIn_wide.2 (put_z _ w.heap.size A n c XS op 0 (by omega) (by omega) (hid HE1.out.own) HE1.out.bel.size (by omega) rfl (X := 0) rfl))).mono ?_
               rintro e u2 ⟨A', n', c', rfl, hn', ho2, hk2⟩
               have hv2 := hk2.out.box HE1.out.var (by decide)
               have cb2 : u2.cell? ⟨w.heap.size + 1, 0, none⟩ = some (.slice A n c) := hv2.cell 0
               have fb2 : u2.frozen? ⟨w.heap.size + 1, 0, none⟩ = false := hv2.frozen 0)
            | (refine ⟨trivial, ?_⟩
               gi_at_call 38
               refine (CallsIn.inRound l (callsIn_wide.2 (put_z _ w.heap.size A n c XS op 0 (by omega) (by omega) (hid HE1.out.own) HE1.out.bel.size (by omega) rfl (X := 0) rfl))).mono ?_
               rintro e u2 ⟨A', n', c', rfl, hn', ho2, hk2⟩
               have hv2 := hk2.out.box HE1.out.var (by decide)
               have cb2 : u2.cell? ⟨w.heap.size + 1, 0, none⟩ = some (.slice A n c) := hv2.cell 0
               have fb2 : u2.frozen? ⟨w.heap.size + 1, 0, none⟩ = false := hv2.frozen 0))
          all_goals gi_wp2
          all_goals exact em_round HX HN (by rw [hh]; rfl) (v := 0) HE1 k1 hn' ho2 hk2
        · gi_wp2
          gi_region_with_o (first
            | (gi_at_call 40
               refine (CallsIn.inRound l (callsIn_wide.2 (flagArg_b _ t ht hh (X := 1) rfl))).mono ?_
               rintro e u1 ⟨rfl, k1⟩
               have HE1 := hid (HEd.out.grow k1.out)
               have cbu : u1.cell? ⟨w.heap.size + 1, 0, none⟩ = some (.slice A n c) := HE1.out.var.cell 0)
            | (refine ⟨trivial, ?_⟩
               gi_at_call 40
               refine (CallsIn.inRound l (callsIn_wide.2 (flagArg_b _ t ht hh (X := 1) rfl))).mono ?_
               rintro e u1 ⟨rfl, k1⟩
               have HE1 := hid (HEd.out.grow k1.out)
               have cbu : u1.cell? ⟨w.heap.size + 1, 0, none⟩ = some (.slice A n c) := HE1.out.var.cell 0)
            | (gi_at_call 38
               refine (CallsIn.inRound l (callsIn_wide.2 (put_z _ w.heap.size A n c XS op 1 (by omega) (by omega) (hid HE1.out.own) HE1.out.bel.size (by omega) rfl (X := 1) rfl))).mono ?_
               rintro e u2 ⟨A', n', c', rfl, hn', ho2, hk2⟩
               have hv2 := hk2.out.box HE1.out.var (by decide)
               have cb2 : u2.cell? ⟨w.heap.size + 1, 0, none⟩ = some (.slice A n c) := hv2.cell 0
               have fb2 : u2.frozen? ⟨w.heap.size + 1, 0, none⟩ = false := hv2.frozen 0)
            | (refine ⟨trivial, ?_⟩
               gi_at_call 38
               refine (CallsIn.inRound l (callsIn_wide.2 (put_z _ w.heap.size A n c XS op 1 (by omega) (by omega) (hid HE1.out.own) HE1.out.bel.size (by omega) rfl (X := 1) rfl))).mono ?_
               rintro e u2 ⟨A', n', c', rfl, hn', ho2, hk2⟩
               have hv2 := hk2.out.box HE1.out.var (by decide)
               have cb2 : u2.cell? ⟨w.heap.size + 1, 0, none⟩ = some (.slice A n c) := hv2.cell 0
               have fb2 : u2.frozen? ⟨w.heap.size + 1, 0, none⟩ = false := hv2.frozen 0))
          all_goals gi_wp2
          all_goals exact em_round HX HN (by rw [hh]; rfl) (v := 1) HE1 k1 hn' ho2 hk2
      case done =>
        rintro D ys W hD rfl ⟨⟨⟨v, hv, hrow, _⟩, hB⟩, hbel⟩ hK
        obtain ⟨A, c, rfl⟩ := slice_v hrow
        rw [flagsF_len] at hrow hv
        obtain ⟨n, hn⟩ : ∃ n, n = 90 + 5 * 36 := ⟨_, rfl⟩
        rw [← hn] at hrow hv
        obtain ⟨XS, hXS⟩ : ∃ z, Hid (chL t 18 ++ flL t flagsF = z) := ⟨_, hid rfl⟩
        rw [hXS.out] at hrow
        have HE1 : Hid (Em w W t A n c XS) := hid ⟨hrow, hB, hv, hbel⟩
        have hn1 : n ≤ 1000 := by omega
        have HN := hid hn
        have HEw := hid HE.out.bel
        clear hn hrow hv hB hbel HE
        have cb : W.cell? ⟨w.heap.size + 1, 0, none⟩ = some (.slice A n c) := HE1.out.var.cell 0
        have c20 : W.cell? ⟨w.heap.size, 20, none⟩ = some (.int .u32 (t.i : Int)) := (HE1.out.box.cell 20).trans (cs_i ht.len)
        have hti := ht.i
        have hto := ht.o
        go_wp2_with (first
          | (go_at_call 38
             (first
               | ((with_reducible refine (put_z _ w.heap.size A n c XS 128 t.i (by omega) hti (hid HE1.out.own) HE1.out.bel.size (by omega) (O := 128) rfl rfl).mono ?_)
                  rintro e u2 ⟨A2, n2, c2, rfl, hn2, ho2, hk2⟩
                  have hv2 := hk2.out.box HE1.out.var (by decide)
                  have cb2 : u2.cell? ⟨w.heap.size + 1, 0, none⟩ = some (.slice A n c) := hv2.cell 0
                  have fb2 : u2.frozen? ⟨w.heap.size + 1, 0, none⟩ = false := hv2.frozen 0
                  have c21 : u2.cell? ⟨w.heap.size, 21, none⟩ = some (.int .u32 (t.o : Int)) := ((hk2.out.box HE1.out.box (by decide)).cell 21).trans (cs_o ht.len)
                  have HE2 := hid (HE1.out.put ho2 hk2)
                  have KK2 := hid ((keeps_kept hk2.out).trans (KeepsOthers.setCell u2 ⟨w.heap.size + 1, 0, none⟩ (.slice A2 n2 c2)))
                  clear ho2 hk2 hv2)
               | ((with_reducible refine (put_z _ w.heap.size A2 n2 c2 (XS ++ enc5 128 t.i) 129 t.o (by omega) hto (hid HE2.out.own) HE2.out.bel.size (by have := hn2.out; omega) (O := 129) rfl rfl).mono ?_)
                  rintro e u3 ⟨A3, n3, c3, rfl, hn3, ho3, hk3⟩
                  have hv3 := hk3.out.box HE2.out.var (by decide)
                  have cb3 : u3.cell? ⟨w.heap.size + 1, 0, none⟩ = some (.slice A2 n2 c2) := hv3.cell 0
                  have fb3 : u3.frozen? ⟨w.heap.size + 1, 0, none⟩ = false := hv3.frozen 0
                  have HE3 := hid (HE2.out.put ho3 hk3)
                  have KK3 := hid (KK2.out.trans ((keeps_kept hk3.out).trans (KeepsOthers.setCell u3 ⟨w.heap.size + 1, 0, none⟩ (.slice A3 n3 c3))))
                  clear ho3 hk3 hv3)))
          | (at_builtin
             (refine app_lit2 _ rfl (.tmp 33) (.tmp 34) rfl w.heap.size n3 c3 A3 (XS ++ enc5 128 t.i ++ enc5 129 t.o) rfl (hid HE3.out.own) HE3.out.bel.size [0] 1 _ rfl rfl _ (by simp) rfl (by have := hn2.out; have := hn3.out; omega) ?_)
             intro A4 c4 u4 O4 k4
             have KK4 := hid (KK3.out.trans (keeps_kept k4.out))
             have BB4 := hid (HE3.out.bel.trans (k4.out.below HE3.out.bel.size))))
        refine ⟨by simp, .inl ⟨_, _, rfl, run_takeDeferred (KK4.out.same D _ hK rfl), ?_⟩⟩
        have hDw : w.heap.size ≤ D := Nat.le_trans HEw.out.size hD
        have hlen : (encE t).length = n3 + 1 := by
          have := HN.out
          have := hn2.out
          have := hn3.out
          unfold encE
          simp only [List.length_append, chL_len, flL_len, flagsF_len, enc5_len, List.length_cons, List.length_nil]
          omega
        refine ⟨_, results_tmp rfl _ _ _, A4, n3 + 1, c4, rfl, ?_, ?_, ?_⟩
        · exact hlen
        · have e : encE t = XS ++ enc5 128 t.i ++ enc5 129 t.o ++ [0] := by unfold encE; rw [hXS.out]
          rw [e]
          exact ownsRow_putObj O4.out _ (KK4.out.same D _ hK rfl) rfl
        · exact BB4.out.trans (belowK_b (w := w) (Nat.le_refl _) _ D _ _ hDw (KK4.out.same D _ hK rfl) rfl rfl)
      case stop =>
        rintro D c pre W _ _ h _
        exact h.elim
theorem encode_own (w : World) (t : Tm) (ht : t.Ok) :
    Calls Try.prog 25 #[.agg t.cs] w fun e W' => ∃ A n c, e = .returned (.slice A n c) ∧ (encE t).length = n ∧ W'.ownsRow w.heap.size 5 1 (.slice A n c) n (bv (encE t)) ∧ Below w.heap.size w W' := callsIn_wide.1 (encode_in w t ht)
theorem encode_any (w : World) (t : Tm) (ht : t.Ok) :
    Calls Try.prog 25 #[.agg t.cs] w fun e W' => ∃ A n c, e = .returned (.slice A n c) ∧ (encE t).length = n ∧ Hid (SlB W' W'.heap.size A c (encE t)) ∧ Hid (Below w.heap.size w W') := by
  refine (encode_own w t ht).mono ?_
  rintro e W' ⟨A, n, c, h1, h2, h3, h4⟩
  exact ⟨A, n, c, h1, h2, hid (slb_own h3 h2), hid h4⟩
end Go.Proofs.Ytgkcappcjlfloaa
