import Derived.Test.YtggcampdkgfmgaaGreatJL
import Derived.Deep.DeepCutAuto
namespace Go.Proofs.YtggcampdkgfmgaaGreat
open Go.RowKit

/-! Layer 16: a discipline in memory, through the program's calls. -/
theorem FitN.up {n m : Nat} {D : Ds} (h : FitN n D) (k : n ≤ m) : FitN m D := ⟨h.t, h.line, h.raw, h.out, Nat.le_trans h.ls k, h.used, h.col, h.fr, h.idle⟩
theorem Fit.n {D : Ds} (h : Fit D) : FitN 3300 D := ⟨h.t, h.line, h.raw, h.out, h.ls, h.used, h.col, h.fr, h.idle⟩
theorem bel_via {u W W' : World} (k : Hid (Below W.heap.size W W')) (hW : Below u.heap.size u W) : Below u.heap.size u W' := hW.trans (k.out.mono hW.size)
theorem box_al2 {v W : World} {cs : Array Value} {T : TypeId} (k : Hid (Below (v.alloc (.cells cs T)).heap.size (v.alloc (.cells cs T)) W)) : Box W v.heap.size T cs := box_below (Box.new v T cs) k.out
theorem bel_st {w w2 W : World} (h : Below w.heap.size w W) (k : Below w.heap.size w w2) (i : Nat) (v : Value) : Below w.heap.size w (W.setCell ⟨w2.heap.size, i, none⟩ v) := h.trans ((Turn.setCell W w2.heap.size i v).below k.size)
theorem bel_st0 {w W : World} (h : Below w.heap.size w W) (i : Nat) (v : Value) : Below w.heap.size w (W.setCell ⟨w.heap.size, i, none⟩ v) := bel_st h (Below.refl _ _) i v
theorem ex_ldR {dst : Option Tmp} {x : Operand} {ty : TypeId} {pos : String} {after : Array Edge} {gd : Option (Nat × Bool)} {ev : Operand → Value} {w : World} (h : isR w (ev x) = true) :
    (execOp ev { dst, op := .load 26 x, type := ty, pos, after, guard := gd }).run Tryz.prog w = .ok (.value (.agg (csR w (ev x)))) w := by
  obtain ⟨g, o, l, hx, hr, hl, hc⟩ := rng_at h
  unfold execOp
  rw [hc]
  simp only [hx, Instr.loadAt, Instr.sureAddr, Sem.run_bind, Sem.run_pure, Result.andThen_ok, run_loadVar_mid (P := Tryz.prog) w g o 26 l _ hr Tryz.underlying26 rfl (by rw [hl]; exact Tryz.size26)]
/-- On the way: what the discipline is by now, where its lists lie, and that nothing but its blocks has turned. -/
structure Wy (w0 : World) (p : Nat) (S0 : Nat → Prop) (w : World) (S : Nat → Prop) (D : Ds) (h : Ph) : Prop where
  at_ : DPh w p S D h
  new : ∀ x, S x → S0 x ∨ w0.heap.size ≤ x
  but : ButP S0 w0 w
/-- A list may be the discipline's: its block is one of its own, or new. -/
def Fr (w0 : World) (p : Nat) (S : Nat → Prop) (A : Option Addr) (ne : Prop) : Prop := ne → ∀ a, A = some a → (S a.block ∨ w0.heap.size ≤ a.block) ∧ a.block ≠ p
section
variable {w0 w w' : World} {p : Nat} {S0 S : Nat → Prop} {D D' : Ds} {h : Ph}
theorem Wy.of (H : Hid (DAt w p S D)) : ∃ h, Hid (Wy w p S w S D h) := by
  obtain ⟨h, H⟩ := H.out
  exact ⟨h, hid ⟨H, fun x hx => .inl hx, ButP.refl S w⟩⟩
theorem Wy.left (H : Hid (Wy w0 p S0 w S D h)) : DOut w0 p S0 D w := ⟨S, hid ⟨h, H.out.at_⟩, hid H.out.new, hid H.out.but⟩
theorem Wy.from (K : DOut w0 p S0 D w) : ∃ S h, Hid (Wy w0 p S0 w S D h) := by
  obtain ⟨S, h1, h2, h3⟩ := K
  obtain ⟨h, h1⟩ := h1.out
  exact ⟨S, h, hid ⟨h1, h2.out, h3.out⟩⟩
theorem Wy.dat (H : Hid (Wy w0 p S0 w S D h)) : Hid (DAt w p S D) := hid ⟨h, H.out.at_⟩
theorem Wy.next (H : Hid (Wy w0 p S0 w S D h)) (K : DOut w p S D' w') : ∃ S' h', Hid (Wy w0 p S0 w' S' D' h') := by
  obtain ⟨S', h1, h2, h3⟩ := K
  obtain ⟨h', h1⟩ := h1.out
  refine ⟨S', h', hid ⟨h1, fun x hx => ?_, H.out.but.trans h3.out H.out.new⟩⟩
  rcases h2.out x hx with h | h
  · exact H.out.new x h
  · exact .inr (Nat.le_trans H.out.but.size h)
theorem Wy.bel (H : Hid (Wy w0 p S0 w S D h)) (k : Below w.heap.size w w') : Hid (Wy w0 p S0 w' S D h) := hid ⟨H.out.at_.bel k, H.out.new, H.out.but.bel k⟩
theorem Wy.cellW (H : Hid (Wy w0 p S0 w S D h)) (ht : D.t.Ok) (j : Nat) {v : Value} (hj : (dRest D h)[j]? = some v) (W : World) (k : Below w.heap.size w W) : W.cell? ⟨p, 24 + j, none⟩ = some v :=
  (Box.cell (H.out.at_.bel k).box (24 + j)).trans (tmV_back ht hj)
theorem Wy.tm (H : Hid (Wy w0 p S0 w S D h)) (ht : D.t.Ok) (W : World) (k : Below w.heap.size w W) : isR W (.pointer (some ⟨p, 0, none⟩)) = true ∧ csR W (.pointer (some ⟨p, 0, none⟩)) = D.t.cs :=
  front_R ht.len (H.out.at_.bel k).box (tmV_front _)
theorem Wy.fz (H : Hid (Wy w0 p S0 w S D h)) (i : Nat) : w.frozen? ⟨p, i, none⟩ = false := Box.frozen H.out.at_.box i
theorem Wy.lt (H : Hid (Wy w0 p S0 w S D h)) : p < w.heap.size := Box.lt H.out.at_.box
theorem Wy.lineS (H : Hid (Wy w0 p S0 w S D h)) : Hid (SlB w w.heap.size h.lA h.lc D.line) := hid H.out.at_.line
theorem Wy.rawS (H : Hid (Wy w0 p S0 w S D h)) : Hid (SlB w w.heap.size h.rA h.rc D.raw) := hid H.out.at_.raw
theorem Wy.outS (H : Hid (Wy w0 p S0 w S D h)) : Hid (SlB w w.heap.size h.oA h.oc D.out) := hid H.out.at_.out
theorem tmV_set {t : Tm} (ht : t.Ok) (r : List Value) (j : Nat) (v : Value) : (tmV t r).setIfInBounds (24 + j) v = tmV t (r.set j v) := by
  unfold tmV
  rw [List.setIfInBounds_toArray, List.set_append_right (24 + j) v (by rw [cl_len ht.len]; omega), cl_len ht.len, Nat.add_sub_cancel_left]
/-- A store to one of the discipline's cells. -/
theorem Wy.re (H : Hid (Wy w0 p S0 w S D h)) (ht : D.t.Ok) (j : Nat) (v : Value) {h' : Ph} {S' : Nat → Prop} (hT : D'.t = D.t) (hR : (dRest D h).set j v = dRest D' h') (hS : ∀ x, S x → S' x) (hS2 : ∀ x, S' x → S x ∨ (w0.heap.size ≤ x ∧ x < w.heap.size))
    (l1 : SlB w w.heap.size h'.lA h'.lc D'.line) (l2 : InS S' p h'.lA (D'.line ≠ [])) (r1 : SlB w w.heap.size h'.rA h'.rc D'.raw) (r2 : InS S' p h'.rA (D'.raw ≠ [])) (o1 : SlB w w.heap.size h'.oA h'.oc D'.out) (o2 : InS S' p h'.oA (D'.out ≠ []))
    (n1 : L13.LnV w w.heap.size h'.nA h'.nc h'.qs) (n2 : L13.lnR h'.qs = D'.ls) (n3 : InS S' p h'.nA (h'.qs ≠ [])) (n4 : ∀ r ∈ h'.qs, InS S' p r.A (r.bs ≠ [])) : Hid (Wy w0 p S0 (w.setCell ⟨p, 24 + j, none⟩ v) S' D' h') := by
  have hz : (w.setCell ⟨p, 24 + j, none⟩ v).heap.size = w.heap.size := by simp [World.setCell]
  have k : ButP (fun x => x = p) w (w.setCell ⟨p, 24 + j, none⟩ v) := (ButP.refl (fun x => x = p) w).store (.inl rfl) v
  have hb := H.out.at_.box.store (24 + j) v
  rw [tmV_set ht, hR, ← hT] at hb
  refine hid ⟨H.out.at_.re k hb hS (fun x hx => ?_) l1 l2 r1 r2 o1 o2 n1 n2 n3 n4, fun x hx => ?_, H.out.but.store ?_ v⟩
  · rw [hz]
    rcases hS2 x hx with h1 | h1
    · exact H.out.at_.top x h1
    · exact h1.2
  · rcases hS2 x hx with h1 | h1
    · exact H.out.new x h1
    · exact .inr h1.1
  · exact H.out.new p H.out.at_.sp
theorem Wy.keep1 (H : Hid (Wy w0 p S0 w S D h)) (ht : D.t.Ok) (j : Nat) (v : Value) (hT : D'.t = D.t) (hR : (dRest D h).set j v = dRest D' h) (hl : D'.line = D.line) (hr : D'.raw = D.raw) (ho : D'.out = D.out) (hn : D'.ls = D.ls) : Hid (Wy w0 p S0 (w.setCell ⟨p, 24 + j, none⟩ v) S D' h) := by
  have K := H.out.at_
  exact Wy.re H ht j v hT hR (fun _ h => h) (fun _ h => .inl h) (by rw [hl]; exact K.line) (by rw [hl]; exact K.sl) (by rw [hr]; exact K.raw) (by rw [hr]; exact K.sr) (by rw [ho]; exact K.out) (by rw [ho]; exact K.so) K.lsv (K.lsq.trans hn.symm) K.row K.txt
theorem Wy.nx_ (H : Hid (Wy w0 p S0 w S D h)) (ht : D.t.Ok) (b : Bool) : Hid (Wy w0 p S0 (w.setCell ⟨p, 25, none⟩ (.bool b)) S { D with nx := b } h) := Wy.keep1 H ht 1 _ rfl rfl rfl rfl rfl rfl
theorem Wy.s_ (H : Hid (Wy w0 p S0 w S D h)) (ht : D.t.Ok) (b : Bool) : Hid (Wy w0 p S0 (w.setCell ⟨p, 28, none⟩ (.bool b)) S { D with s := b } h) := Wy.keep1 H ht 4 _ rfl rfl rfl rfl rfl rfl
theorem Wy.h_ (H : Hid (Wy w0 p S0 w S D h)) (ht : D.t.Ok) (b : Bool) : Hid (Wy w0 p S0 (w.setCell ⟨p, 29, none⟩ (.bool b)) S { D with h := b } h) := Wy.keep1 H ht 5 _ rfl rfl rfl rfl rfl rfl
theorem Wy.flow_ (H : Hid (Wy w0 p S0 w S D h)) (ht : D.t.Ok) (a b : Bool) : Hid (Wy w0 p S0 ((w.setCell ⟨p, 28, none⟩ (.bool a)).setCell ⟨p, 29, none⟩ (.bool b)) S { D with s := a, h := b } h) := Wy.h_ (D := { D with s := a }) (Wy.s_ H ht a) ht b
theorem Wy.col_ (H : Hid (Wy w0 p S0 w S D h)) (ht : D.t.Ok) (x : Int) : Hid (Wy w0 p S0 (w.setCell ⟨p, 31, none⟩ (.int .i64 x)) S { D with col := x } h) := Wy.keep1 H ht 7 _ rfl rfl rfl rfl rfl rfl
theorem Wy.fr_ (H : Hid (Wy w0 p S0 w S D h)) (ht : D.t.Ok) (x : Int) : Hid (Wy w0 p S0 (w.setCell ⟨p, 32, none⟩ (.int .i64 x)) S { D with fr := x } h) := Wy.keep1 H ht 8 _ rfl rfl rfl rfl rfl rfl
theorem Wy.idle_ (H : Hid (Wy w0 p S0 w S D h)) (ht : D.t.Ok) (x : Int) : Hid (Wy w0 p S0 (w.setCell ⟨p, 33, none⟩ (.int .i64 x)) S { D with idle := x } h) := Wy.keep1 H ht 9 _ rfl rfl rfl rfl rfl rfl
/-- The discipline's blocks, and a list's. -/
def Plus (S : Nat → Prop) (A : Option Addr) (ne : Prop) : Nat → Prop := fun x => S x ∨ (ne ∧ ∃ a, A = some a ∧ a.block = x)
theorem slb_block {A : Option Addr} {c : Nat} {b : List UInt8} (h : SlB w w.heap.size A c b) (hb : b ≠ []) : ∀ a, A = some a → a.block < w.heap.size := by
  obtain ⟨g, o, e, hlt, _⟩ := h.2.2.2 (by
    intro e
    have : b = [] := by simpa [bv] using e
    exact hb this)
  intro a ha
  rw [e] at ha
  injection ha with ha
  subst ha
  exact hlt
theorem plus_old {A : Option Addr} {ne : Prop} (hF : Fr w0 p S A ne) (hlt : ne → ∀ a, A = some a → a.block < w.heap.size) : ∀ x, Plus S A ne x → S x ∨ (w0.heap.size ≤ x ∧ x < w.heap.size) := by
  rintro x (h1 | ⟨hn, a, ha, rfl⟩)
  · exact .inl h1
  · rcases (hF hn a ha).1 with h2 | h2
    · exact .inl h2
    · exact .inr ⟨h2, hlt hn a ha⟩
theorem plus_in {A : Option Addr} {ne : Prop} (hF : Fr w0 p S A ne) : InS (Plus S A ne) p A ne := fun hn a ha => ⟨.inr ⟨hn, a, ha, rfl⟩, (hF hn a ha).2⟩
theorem plus_more {A B : Option Addr} {ne nf : Prop} (H : InS S p B nf) : InS (Plus S A ne) p B nf := H.more (fun _ h => .inl h) fun h => h
theorem Wy.line_ (H : Hid (Wy w0 p S0 w S D h)) (ht : D.t.Ok) {A : Option Addr} {n c : Nat} {l : List UInt8} (hn : Hid (l.length = n)) (hS : Hid (SlB w w.heap.size A c l)) (hF : Fr w0 p S A (l ≠ [])) :
    Hid (Wy w0 p S0 (w.setCell ⟨p, 24, none⟩ (.slice A n c)) (Plus S A (l ≠ [])) { D with line := l } { h with lA := A, lc := c }) := by
  obtain rfl := hn.out
  have K := H.out.at_
  exact Wy.re H ht 0 _ rfl rfl (fun _ h => .inl h) (plus_old hF (slb_block hS.out)) hS.out (plus_in hF) K.raw (plus_more K.sr) K.out (plus_more K.so) K.lsv K.lsq (plus_more K.row) (fun r hr => plus_more (K.txt r hr))
theorem Wy.raw_ (H : Hid (Wy w0 p S0 w S D h)) (ht : D.t.Ok) {A : Option Addr} {n c : Nat} {l : List UInt8} (hn : Hid (l.length = n)) (hS : Hid (SlB w w.heap.size A c l)) (hF : Fr w0 p S A (l ≠ [])) :
    Hid (Wy w0 p S0 (w.setCell ⟨p, 27, none⟩ (.slice A n c)) (Plus S A (l ≠ [])) { D with raw := l } { h with rA := A, rc := c }) := by
  obtain rfl := hn.out
  have K := H.out.at_
  exact Wy.re H ht 3 _ rfl rfl (fun _ h => .inl h) (plus_old hF (slb_block hS.out)) K.line (plus_more K.sl) hS.out (plus_in hF) K.out (plus_more K.so) K.lsv K.lsq (plus_more K.row) (fun r hr => plus_more (K.txt r hr))
theorem Wy.out_ (H : Hid (Wy w0 p S0 w S D h)) (ht : D.t.Ok) {A : Option Addr} {n c : Nat} {l : List UInt8} (hn : Hid (l.length = n)) (hS : Hid (SlB w w.heap.size A c l)) (hF : Fr w0 p S A (l ≠ [])) :
    Hid (Wy w0 p S0 (w.setCell ⟨p, 30, none⟩ (.slice A n c)) (Plus S A (l ≠ [])) { D with out := l } { h with oA := A, oc := c }) := by
  obtain rfl := hn.out
  have K := H.out.at_
  exact Wy.re H ht 6 _ rfl rfl (fun _ h => .inl h) (plus_old hF (slb_block hS.out)) K.line (plus_more K.sl) K.raw (plus_more K.sr) hS.out (plus_in hF) K.lsv K.lsq (plus_more K.row) (fun r hr => plus_more (K.txt r hr))
/-- Other lines, and which blocks are its own then. -/
theorem Wy.lsI (H : Hid (Wy w0 p S0 w S D h)) (ht : D.t.Ok) {A : Option Addr} {n c : Nat} {qs : List L13.Rc} {l : List (List UInt8 × Bool)} (hn : Hid (qs.length = n)) (hq : Hid (L13.lnR qs = l)) (hS : Hid (L13.LnV w w.heap.size A c qs)) (hF : Fr w0 p S A (qs ≠ [])) (hG : ∀ r ∈ qs, Fr w0 p S r.A (r.bs ≠ [])) :
    ∃ S', Hid (Wy w0 p S0 (w.setCell ⟨p, 26, none⟩ (.slice A n c)) S' { D with ls := l } { h with nA := A, nc := c, qs := qs }) ∧ Hid (∀ x, S' x → S x ∨ (qs ≠ [] ∧ ∃ a, A = some a ∧ a.block = x) ∨ ∃ r, r ∈ qs ∧ r.bs ≠ [] ∧ ∃ a, r.A = some a ∧ a.block = x) := by
  obtain rfl := hn.out
  have K := H.out.at_
  have hll : qs.length = l.length := by rw [← hq.out]; simp [L13.lnR]
  refine ⟨fun x => Plus S A (qs ≠ []) x ∨ ∃ r ∈ qs, Plus S r.A (r.bs ≠ []) x, Wy.re H ht 2 _ rfl (by rw [hll]; rfl) (fun _ h => .inl (.inl h)) ?_ K.line ?_ K.raw ?_ K.out ?_ hS.out hq.out ?_ ?_, hid ?_⟩
  · rintro x (h1 | ⟨r, hr, h1⟩)
    · refine plus_old hF (fun hne a ha => ?_) x h1
      obtain ⟨g, o, e, hlt, _⟩ := hS.out.lies (by
        intro e
        have := congrArg List.length e
        rw [L13.rcV_len] at this
        have := List.length_pos_iff.2 hne
        simp at *
        omega)
      rw [e] at ha
      injection ha with ha
      subst ha
      exact hlt
    · exact plus_old (hG r hr) (slb_block (hS.out.text r hr)) x h1
  · exact K.sl.more (fun _ h => .inl (.inl h)) fun h => h
  · exact K.sr.more (fun _ h => .inl (.inl h)) fun h => h
  · exact K.so.more (fun _ h => .inl (.inl h)) fun h => h
  · exact (plus_in hF).more (fun _ h => .inl h) fun h => h
  · exact fun r hr => (plus_in (hG r hr)).more (fun _ h => .inr ⟨r, hr, h⟩) fun h => h
  · rintro x ((h1 | ⟨h1, h2⟩) | ⟨r, hr, h1 | ⟨h1, h2⟩⟩)
    · exact .inl h1
    · exact .inr (.inl ⟨h1, h2⟩)
    · exact .inl h1
    · exact .inr (.inr ⟨r, hr, h1, h2⟩)
theorem Wy.ls_ (H : Hid (Wy w0 p S0 w S D h)) (ht : D.t.Ok) {A : Option Addr} {n c : Nat} {qs : List L13.Rc} {l : List (List UInt8 × Bool)} (hn : Hid (qs.length = n)) (hq : Hid (L13.lnR qs = l)) (hS : Hid (L13.LnV w w.heap.size A c qs)) (hF : Fr w0 p S A (qs ≠ [])) (hG : ∀ r ∈ qs, Fr w0 p S r.A (r.bs ≠ [])) :
    ∃ S', Hid (Wy w0 p S0 (w.setCell ⟨p, 26, none⟩ (.slice A n c)) S' { D with ls := l } { h with nA := A, nc := c, qs := qs }) := by
  obtain ⟨S', h1, _⟩ := Wy.lsI H ht hn hq hS hF hG
  exact ⟨S', h1⟩
/-- What a callee made behind the discipline. -/
theorem Wy.fresh {u : World} (H : Hid (Wy w0 p S0 u S D h)) {e : TypeId} {size n c : Nat} {A : Option Addr} {xs : List Value} {ne : Prop} (ho : w.ownsRow u.heap.size e size (.slice A n c) n xs) : Fr w0 p S A ne := fun _ a ha => by
  subst ha
  have h1 := (ho.lt a.block rfl).1
  have h2 := Wy.lt H
  exact ⟨.inr (Nat.le_trans H.out.but.size h1), by omega⟩
theorem used_each (ls : List (List UInt8 × Bool)) : ∀ x ∈ ls, x.1.length ≤ L13.usedL ls := by
  induction ls with
  | nil => intro x hx; cases hx
  | cons y r ih =>
    intro x hx
    simp only [L13.usedL, List.map_cons, List.sum_cons]
    rcases List.mem_cons.1 hx with rfl | hx
    · omega
    · have := ih x hx
      simp only [L13.usedL] at this
      omega
theorem Wy.txt (H : Hid (Wy w0 p S0 w S D h)) {n : Nat} (hf : Hid (FitN n D)) : Hid (∀ r ∈ h.qs, r.bs.length ≤ 140737488351232) := hid fun r hr => by
  have h1 := hf.out.used
  rw [← H.out.at_.lsq] at h1
  have h2 := used_each (L13.lnR h.qs) (r.bs, r.e) (by unfold L13.lnR; exact List.mem_map.2 ⟨r, hr, rfl⟩)
  have h3 : r.bs.length ≤ L13.usedL (L13.lnR h.qs) := h2
  omega
theorem Wy.lsL (H : Hid (Wy w0 p S0 w S D h)) : h.qs.length = D.ls.length := by rw [← H.out.at_.lsq]; simp [L13.lnR]
theorem Wy.lsS (H : Hid (Wy w0 p S0 w S D h)) : Hid (L13.LnV w w.heap.size h.nA h.nc h.qs) := hid H.out.at_.lsv
theorem Fr.none_ {ne : Prop} : Fr w0 p S none ne := fun _ a ha => by cases ha
theorem slb_nil0 (w : World) : Hid (SlB w w.heap.size none 0 []) := hid ⟨Nat.le_refl _, Nat.zero_le _, fun _ => rfl, Lies.nil_⟩
/-- Bytes don't lie in a cell that holds none. -/
theorem slb_setCell {a : Addr} {u : Value} (hu : w.cell? a = some u) (hne : ∀ c : UInt8, u ≠ .int .u8 (c.toNat : Int)) {A : Option Addr} {c : Nat} {l : List UInt8} (hS : Hid (SlB w w.heap.size A c l)) (v : Value) : Hid (SlB (w.setCell a v) (w.setCell a v).heap.size A c l) := by
  refine hid ⟨hS.out.1, hS.out.2.1, hS.out.2.2.1, fun hn => ?_⟩
  obtain ⟨b, o, e, hb, hc⟩ := hS.out.2.2.2 hn
  refine ⟨b, o, e, by simpa [World.setCell] using hb, fun j x hx => ?_⟩
  have h1 := hc j x hx
  rw [World.cell?_setCell_other _ _ _ _ (fun he => ?_)]
  · exact h1
  · rw [← he, hu] at h1
    injection h1 with h1
    have h2 := List.mem_of_getElem? hx
    simp only [bv, List.mem_map] at h2
    obtain ⟨c0, _, h3⟩ := h2
    exact hne c0 (h1.trans h3.symm)
theorem Wy.slbSet (H : Hid (Wy w0 p S0 w S D h)) (ht : D.t.Ok) (j : Nat) {u : Value} (hj : (dRest D h)[j]? = some u) (hne : ∀ c : UInt8, u ≠ .int .u8 (c.toNat : Int)) {A : Option Addr} {c : Nat} {l : List UInt8} (hS : Hid (SlB w w.heap.size A c l)) (v : Value) : Hid (SlB (w.setCell ⟨p, 24 + j, none⟩ v) (w.setCell ⟨p, 24 + j, none⟩ v).heap.size A c l) :=
  slb_setCell (Wy.cellW H ht j hj w (Below.refl _ _)) hne hS v
theorem Wy.slbFlow (H : Hid (Wy w0 p S0 w S D h)) (ht : D.t.Ok) {A : Option Addr} {c : Nat} {l : List UInt8} (hS : Hid (SlB w w.heap.size A c l)) (a b : Bool) : Hid (SlB ((w.setCell ⟨p, 28, none⟩ (.bool a)).setCell ⟨p, 29, none⟩ (.bool b)) ((w.setCell ⟨p, 28, none⟩ (.bool a)).setCell ⟨p, 29, none⟩ (.bool b)).heap.size A c l) :=
  Wy.slbSet (Wy.s_ H ht a) ht 5 rfl (fun _ e => by cases e) (Wy.slbSet H ht 4 rfl (fun _ e => by cases e) hS (.bool a)) (.bool b)
end
end Go.Proofs.YtggcampdkgfmgaaGreat
namespace Go.Proofs.YtggcampdkgfmgaaGreat
open Go.RowKit

/-! Layer 16: what is put out, shown, echoed. -/
/-- The discipline's setting is loaded. -/
theorem ldW {ops : Array Oper} {rest : List Oper} {o : Oper} {a : Act} {w : World} {Q : Exit → Act → World → Prop} (hw : Region.wanted o (yielded ops a.tmps) = true) (x : Operand) (ho : o.op = .load 26 x) (p : Nat) (hx : a.eval x = .pointer (some ⟨p, 0, none⟩)) {w0 : World} {S0 S : Nat → Prop} {D : Ds} {h : Ph} (H : Hid (Wy w0 p S0 w S D h)) (ht : D.t.Ok)
    (hk : wpList Tryz.prog ops Q rest (a.put o.dst (.agg D.t.cs)) w) : wpList Tryz.prog ops Q (o :: rest) a w :=
  BigFrame.wpList_want hw fun _ hK => by
    obtain ⟨r1, r2⟩ := Wy.tm H ht w (Below.refl _ _)
    obtain ⟨dst, op, ty, pos, after, gd⟩ := o
    obtain rfl : op = .load 26 x := ho
    rw [wp_ldR (by rw [hx]; exact r1), hx, r2]
    exact hK _ _ hk
section
variable {w0 w : World} {p : Nat} {S0 S : Nat → Prop} {D : Ds} {h : Ph}
set_option maxRecDepth 100000 in
set_option maxHeartbeats 1000000 in
theorem hasd_b (H : Hid (Wy w0 p S0 w S D h)) (ht : D.t.Ok) {op : Int} {b : Bool} (hb : D.has op = b) : Calls Tryz.prog 61 #[.pointer (some ⟨p, 0, none⟩), .int .i64 op] w fun e w' => e = .returned (.bool b) ∧ Hid (Below w.heap.size w w') := by
  have hb2 : hasN D.t.f op = b := hb
  go_enter Tryz.func61, Tryz.ntmps61
  go_wp2_with (first
    | (refine ldW (by rfl) _ (by rfl) p (by rfl) H ht ?_)
    | (go_at_call 28
       (with_reducible refine (has_b _ ht hb2).mono ?_)
       rintro e w1 ⟨rfl, k1⟩))
  go_ret
  exact ⟨rfl, k1⟩
set_option maxRecDepth 100000 in
theorem hasRoom_b (H : Hid (Wy w0 p S0 w S D h)) (hf : Hid (FitN 3600 D)) (A : Option Addr) {n c : Nat} {l : List UInt8} (hn : Hid (l.length = n)) (_hm : n ≤ 1000000) {b : Bool} (hb : Hid (putB D l = b)) : Calls Tryz.prog 134 #[.pointer (some ⟨p, 0, none⟩), .slice A n c] w fun e w' => e = .returned (.bool b) ∧ w' = w := by
  have ht := hf.out.t
  obtain ⟨m, hM⟩ : ∃ m, D.out.length = m := ⟨_, rfl⟩
  have hm2 : m ≤ 13000 := by rw [← hM]; exact hf.out.out
  have c30 := Wy.cellW H ht 6 rfl w (Below.refl _ _)
  rw [hM] at c30
  have hw : IntKind.i64.wrap (4096 - (m : Int)) = 4096 - (m : Int) := by rw [IntKind.wrap_i64]; omega
  have hbb : decide ((n : Int) ≤ 4096 - (m : Int)) = b := by
    rw [← hb.out]
    unfold putB
    rw [hM, hn.out]
    exact decide_eq_decide.2 (by omega)
  go_enter Tryz.func134, Tryz.ntmps134
  go_wp2_with fail
  go_ret
  exact ⟨rfl, rfl⟩
theorem concat_new (W : World) (g : Nat) (A A2 : Option Addr) (n n2 c c2 : Nat) (xs ys : List UInt8) (hg : Box W g 27 #[.slice A n c, .slice A2 n2 c2]) (hx : Hid (SlB W W.heap.size A c xs)) (hy : Hid (SlB W W.heap.size A2 c2 ys)) (hn : Hid (xs.length = n)) (hn2 : Hid (ys.length = n2)) (hm : n + n2 ≤ 1000000) {zs : List UInt8} (hz : Hid (xs ++ ys = zs)) :
    Calls Tryz.prog 73 #[.slice (some ⟨g, 0, none⟩) 2 2] W fun e w' => ∃ A3 n3 c3, e = .returned (.slice A3 n3 c3) ∧ Hid (zs.length = n3) ∧ Hid (w'.ownsRow W.heap.size 5 1 (.slice A3 n3 c3) n3 (bv zs)) ∧ Hid (Below W.heap.size W w') := by
  obtain rfl := hn.out
  obtain rfl := hn2.out
  obtain rfl := hz.out
  have hl : LisV W W.heap.size (some ⟨g, 0, none⟩) [xs, ys] := fun _ => by
    refine ⟨g, 0, rfl, hg.lt, fun k hk => ?_⟩
    match k, hk with
    | 0, _ => exact ⟨A, c, (hg.cell 0), hx.out⟩
    | 1, _ => exact ⟨A2, c2, (hg.cell 1), hy.out⟩
  have hf : [xs, ys].flatten = xs ++ ys := by simp
  refine (concat_any W W.heap.size (some ⟨g, 0, none⟩) 2 [xs, ys] hl (Nat.le_refl _) (by show 2 ≤ 1000; decide) (by rw [hf, List.length_append]; omega)).mono ?_
  rw [hf]
  rintro e w' ⟨A3, c3, rfl, ho, hb⟩
  exact ⟨A3, _, c3, rfl, hid rfl, hid ho, hid hb⟩
theorem slb_alloc {w : World} {A : Option Addr} {c : Nat} {l : List UInt8} (hS : Hid (SlB w w.heap.size A c l)) (o : Obj) : Hid (SlB (w.alloc o) (w.alloc o).heap.size A c l) := slb_at hS (hid ((Below.refl _ w).alloc (Nat.le_refl _) o))
set_option maxRecDepth 100000 in
set_option maxHeartbeats 1000000 in
theorem put_d (H : Hid (Wy w0 p S0 w S D h)) (hf : Hid (FitN 3600 D)) {A : Option Addr} {n c : Nat} {l : List UInt8} (hn : Hid (l.length = n)) (hm : n ≤ 900000) (hS : Hid (SlB w w.heap.size A c l)) {D' : Ds} (hr : Hid (putD D l = D')) :
    Calls Tryz.prog 104 #[.pointer (some ⟨p, 0, none⟩), .slice A n c] w fun e w' => e = .returned (.tuple #[]) ∧ DOut w0 p S0 D' w' := by
  have ht := hf.out.t
  cases hb : putB D l
  · have e : D' = D := by
      rw [← hr.out]
      unfold putD
      exact if_neg (by unfold putB at hb; exact of_decide_eq_false hb)
    subst e
    have HB := hid hb
    go_enter Tryz.func104, Tryz.ntmps104
    go_wp2_with (first
      | (go_at_call 134
         (with_reducible refine (hasRoom_b H hf A hn (by omega) HB).mono ?_)
         rintro e w1 ⟨rfl, rfl⟩))
    go_end0
    exact ⟨rfl, Wy.left H⟩
  · have e : D' = { D with out := D.out ++ l } := by
      rw [← hr.out]
      unfold putD
      exact if_pos (by unfold putB at hb; exact of_decide_eq_true hb)
    subst e
    have HB := hid hb
    obtain ⟨m, hM⟩ : ∃ m, Hid (D.out.length = m) := ⟨_, hid rfl⟩
    have hm2 : m ≤ 13000 := by rw [← hM.out]; exact hf.out.out
    have c30 := Wy.cellW H ht 6 rfl w (Below.refl _ _)
    rw [hM.out] at c30
    have S1 := slb_alloc hS (.cells #[.slice h.oA m h.oc, .slice A n c] 27)
    have S2 := slb_alloc (Wy.outS H) (.cells #[.slice h.oA m h.oc, .slice A n c] 27)
    have B1 := Box.new w 27 #[.slice h.oA m h.oc, .slice A n c]
    have HX := hid B1
    have H2 := Wy.bel H ((Below.refl _ w).alloc (Nat.le_refl _) (.cells #[.slice h.oA m h.oc, .slice A n c] 27))
    clear B1
    go_enter Tryz.func104, Tryz.ntmps104
    go_wp2_with (first
      | (go_at_call 134
         (with_reducible refine (hasRoom_b H hf A hn (by omega) HB).mono ?_)
         rintro e w1 ⟨rfl, rfl⟩)
      | (go_at_call 73
         (with_reducible refine (concat_new _ _ h.oA A m n h.oc c D.out l HX.out S2 S1 hM hn (by omega) (hid rfl)).mono ?_)
         rintro e w2 ⟨A3, n3, c3, rfl, N3, O3, k3⟩
         have H3 := Wy.bel H2 k3.out
         have z30 := Wy.fz H3 30
         have c30 := Wy.cellW H3 ht 6 rfl w2 (Below.refl _ _)))
    go_end0
    exact ⟨rfl, Wy.left (Wy.out_ H3 ht N3 (slb_own N3 O3) (Wy.fresh H2 O3.out))⟩
attribute [local go_sem ↓] ex_ldR
set_option maxRecDepth 100000 in
set_option maxHeartbeats 2000000 in
theorem show_d (H : Hid (Wy w0 p S0 w S D h)) (hf : Hid (FitN 3600 D)) {A : Option Addr} {n c : Nat} {l : List UInt8} (hn : Hid (l.length = n)) (hm : n ≤ 400000) (hS : Hid (SlB w w.heap.size A c l)) {D' : Ds} (hr : Hid (showD D l = D')) :
    Calls Tryz.prog 156 #[.pointer (some ⟨p, 0, none⟩), .slice A n c] w fun e w' => e = .returned (.tuple #[]) ∧ DOut w0 p S0 D' w' := by
  have ht := hf.out.t
  obtain ⟨⟨ys, M⟩, hx⟩ : ∃ x, Hid (L12.bytesP (L12.poF D.t) (nrm D.col) l = x) := ⟨_, hid rfl⟩
  have hyl : ys.length ≤ 2 * n := by
    have := L12.bytesP_len (L12.poF D.t) l (nrm D.col)
    rw [hx.out, hn.out] at this
    exact this
  have hr2 : Hid ((if putB D ys = true then { D with out := D.out ++ ys, col := (M : Int) } else D) = D') := hid (by
    rw [← hr.out]
    unfold showD putB
    rw [hx.out]
    simp only [decide_eq_true_eq])
  clear hr
  have bz : ∀ W, Below w.heap.size w W → isR W (.pointer (some ⟨p, 0, none⟩)) = true ∧ csR W (.pointer (some ⟨p, 0, none⟩)) = D.t.cs ∧ W.cell? ⟨p, 31, none⟩ = some (.int .i64 D.col) := fun W k => ⟨(Wy.tm H ht W k).1, (Wy.tm H ht W k).2, Wy.cellW H ht 7 rfl W k⟩
  go_enter Tryz.func156, Tryz.ntmps156
  go_upto_region 0 with fail
  go_cut [4, 5] (fun a b wx => ∃ A2 n2 c2, a = .slice A2 n2 c2 ∧ b = .int .i64 (M : Int) ∧ Hid (ys.length = n2) ∧ Hid (SlB wx wx.heap.size A2 c2 ys) ∧ Hid (Wy w0 p S0 wx S D h))
  case first =>
    go_region_held3 (fun W => isR W (.pointer (some ⟨p, 0, none⟩)) = true ∧ csR W (.pointer (some ⟨p, 0, none⟩)) = D.t.cs ∧ W.cell? ⟨p, 31, none⟩ = some (.int .i64 D.col)) (exact bz _ (by repeat (first | exact Below.refl _ _ | exact b2 | with_reducible apply bel_dr | with_reducible apply bel_al))) ((first
      | (go_at_call 36
         (with_reducible refine (L12.bytespo_any _ ht D.col A n c l (hid rfl) (slb_up hS (by repeat (first | exact Below.refl _ _ | with_reducible apply bel_dr | with_reducible apply bel_al))) hn.out (by omega)).mono ?_)
         rw [hx.out]
         rintro e w2 ⟨A2, n2, c2, rfl, N2, O2, k2⟩
         have b2 : Below w.heap.size w w2 := bel_via k2 (by repeat (first | exact Below.refl _ _ | with_reducible apply bel_dr | with_reducible apply bel_al)))))
    all_goals
      go_wp2_with fail
      go_meet
      exact ⟨A2, n2, c2, rfl, rfl, N2, slb_own N2 O2, Wy.bel H b2⟩
  case rest =>
  obtain ⟨A2, n2, c2, rfl, rfl, N2, S2, H2⟩ := hcut
  have hn2 : n2 ≤ 800000 := by rw [← N2.out]; omega
  cases hb : putB D ys
  · rw [hb, if_neg (by decide)] at hr2
    obtain rfl := hr2.out
    have HB := hid hb
    go_wp2_with (first
      | (go_at_call 134
         (with_reducible refine (hasRoom_b H2 hf A2 N2 (by omega) HB).mono ?_)
         rintro e w3 ⟨rfl, rfl⟩))
    go_end0
    exact ⟨rfl, Wy.left H2⟩
  · have hp : Hid (putD D ys = { D with out := D.out ++ ys }) := hid (by
      unfold putD
      exact if_pos (by unfold putB at hb; exact of_decide_eq_true hb))
    rw [hb, if_pos rfl] at hr2
    obtain rfl := hr2.out
    have HB := hid hb
    go_wp2_with (first
      | (go_at_call 134
         (with_reducible refine (hasRoom_b H2 hf A2 N2 (by omega) HB).mono ?_)
         rintro e w3 ⟨rfl, rfl⟩)
      | (go_at_call 104
         (with_reducible refine (put_d H2 hf N2 (by omega) S2 hp).mono ?_)
         rintro e w4 ⟨rfl, K4⟩
         obtain ⟨S4, h4, H4⟩ := Wy.from K4
         have z31 := Wy.fz H4 31
         have c31 := Wy.cellW H4 ht 7 rfl w4 (Below.refl _ _)))
    go_end0
    exact ⟨rfl, Wy.left (Wy.col_ H4 ht (M : Int))⟩
set_option maxRecDepth 100000 in
theorem echo_d (H : Hid (Wy w0 p S0 w S D h)) (hf : Hid (FitN 3600 D)) {A : Option Addr} {n c : Nat} {l : List UInt8} (hn : Hid (l.length = n)) (hm : n ≤ 400000) (hS : Hid (SlB w w.heap.size A c l)) {D' : Ds} (hr : Hid (echoD D l = D')) :
    Calls Tryz.prog 125 #[.pointer (some ⟨p, 0, none⟩), .slice A n c] w fun e w' => e = .returned (.tuple #[]) ∧ DOut w0 p S0 D' w' := by
  have ht := hf.out.t
  cases hb : D.has 53
  · obtain rfl : D = D' := by
      rw [← hr.out]
      unfold echoD
      rw [hb, if_neg (by decide)]
    go_enter Tryz.func125, Tryz.ntmps125
    go_wp2_with (first
      | (go_at_call 61
         (with_reducible refine (hasd_b H ht hb).mono ?_)
         rintro e w1 ⟨rfl, k1⟩))
    go_end0
    exact ⟨rfl, Wy.left (Wy.bel H k1.out)⟩
  · have hr2 : Hid (showD D l = D') := hid (by
      rw [← hr.out]
      unfold echoD
      rw [hb, if_pos rfl])
    go_enter Tryz.func125, Tryz.ntmps125
    go_wp2_with (first
      | (go_at_call 61
         (with_reducible refine (hasd_b H ht hb).mono ?_)
         rintro e w1 ⟨rfl, k1⟩
         have H1 := Wy.bel H k1.out
         have S1 := slb_at hS k1)
      | (go_at_call 156
         (with_reducible refine (show_d H1 hf hn hm S1 hr2).mono ?_)
         rintro e w2 ⟨rfl, K2⟩))
    go_end0
    exact ⟨rfl, K2⟩
set_option maxRecDepth 100000 in
theorem beep_d (H : Hid (Wy w0 p S0 w S D h)) (hf : Hid (FitN 3600 D)) {D' : Ds} (hr : Hid (beepD D = D')) :
    Calls Tryz.prog 124 #[.pointer (some ⟨p, 0, none⟩)] w fun e w' => e = .returned (.tuple #[]) ∧ DOut w0 p S0 D' w' := by
  have ht := hf.out.t
  cases hb : D.has 41
  · obtain rfl : D = D' := by
      rw [← hr.out]
      unfold beepD
      rw [hb, if_neg (by decide)]
    go_enter Tryz.func124, Tryz.ntmps124
    go_wp2_with (first
      | (go_at_call 61
         (with_reducible refine (hasd_b H ht hb).mono ?_)
         rintro e w1 ⟨rfl, k1⟩))
    go_end0
    exact ⟨rfl, Wy.left (Wy.bel H k1.out)⟩
  · have N7 : Hid (([7] : List UInt8).length = 1) := hid rfl
    have hr2 : Hid (putD D [7] = D') := hid (by
      rw [← hr.out]
      unfold beepD
      rw [hb, if_pos rfl])
    go_enter Tryz.func124, Tryz.ntmps124
    go_wp2_with (first
      | (go_at_call 61
         (with_reducible refine (hasd_b H ht hb).mono ?_)
         rintro e w1 ⟨rfl, k1⟩
         have H1 := Wy.bel (Wy.bel H k1.out) ((Below.refl _ w1).alloc (Nat.le_refl _) (.cells #[.int .u8 7] 5))
         have S1 : Hid (SlB (w1.alloc (.cells #[.int .u8 7] 5)) (w1.alloc (.cells #[.int .u8 7] 5)).heap.size (some ⟨w1.heap.size, 0, none⟩) 1 [7]) := hid (slb_lit w1 [7] 1 #[.int .u8 7] rfl rfl (by decide)))
      | (go_at_call 104
         (with_reducible refine (put_d H1 hf N7 (by omega) S1 hr2).mono ?_)
         rintro e w2 ⟨rfl, K2⟩))
    go_end0
    exact ⟨rfl, K2⟩
set_option maxRecDepth 100000 in
set_option maxHeartbeats 2000000 in
theorem used_d (H : Hid (Wy w0 p S0 w S D h)) (hf : Hid (FitN 3600 D)) {k : Nat} (hk : Hid (usedD D = k)) :
    Calls Tryz.prog 26 #[.pointer (some ⟨p, 0, none⟩)] w fun e w' => e = .returned (.int .i64 (k : Int)) ∧ Hid (Below w.heap.size w w') := by
  have ht := hf.out.t
  obtain ⟨ql, hql⟩ : ∃ x, Hid (D.ls.length = x) := ⟨_, hid rfl⟩
  obtain ⟨ll, hll⟩ : ∃ x, Hid (D.line.length = x) := ⟨_, hid rfl⟩
  obtain ⟨rl, hrl⟩ : ∃ x, Hid (D.raw.length = x) := ⟨_, hid rfl⟩
  obtain ⟨U, hU⟩ : ∃ x, Hid (L13.usedL D.ls = x) := ⟨_, hid rfl⟩
  have b1 : ql ≤ 3600 := by rw [← hql.out]; exact hf.out.ls
  have b2 : ll ≤ 13000 := by rw [← hll.out]; exact hf.out.line
  have b3 : rl ≤ 13000 := by rw [← hrl.out]; exact hf.out.raw
  have b4 : U ≤ 20000 := by rw [← hU.out]; exact hf.out.used
  have hk2 : k = U + ll + rl := by rw [← hk.out, ← hll.out, ← hrl.out, ← hU.out]; rfl
  have hw1 : IntKind.i64.wrap ((U : Int) + (ll : Int)) = (U : Int) + (ll : Int) := by rw [IntKind.wrap_i64]; omega
  have hk3 : Hid ((U : Int) + (ll : Int) + (rl : Int) = (k : Int)) := hid (by omega)
  have hw2 : IntKind.i64.wrap ((U : Int) + (ll : Int) + (rl : Int)) = (U : Int) + (ll : Int) + (rl : Int) := by rw [IntKind.wrap_i64]; omega
  clear hk2
  have bz : ∀ W, Below w.heap.size w W → W.cell? ⟨p, 26, none⟩ = some (.slice h.nA ql h.nc) ∧ W.cell? ⟨p, 24, none⟩ = some (.slice h.lA ll h.lc) ∧ W.cell? ⟨p, 27, none⟩ = some (.slice h.rA rl h.rc) := by
    intro W k
    have h1 := Wy.cellW H ht 2 rfl W k
    have h2 := Wy.cellW H ht 0 rfl W k
    have h3 := Wy.cellW H ht 3 rfl W k
    rw [hql.out] at h1
    rw [hll.out] at h2
    rw [hrl.out] at h3
    exact ⟨h1, h2, h3⟩
  have hq2 : h.qs.length = ql := (Wy.lsL H).trans hql.out
  have TX := Wy.txt H hf
  have LS := Wy.lsS H
  have hu : L13.usedL (L13.lnR h.qs) = U := by rw [H.out.at_.lsq]; exact hU.out
  go_enter Tryz.func26, Tryz.ntmps26
  go_upto_region 3 with fail
  go_region_held3 (fun W => W.cell? ⟨p, 26, none⟩ = some (.slice h.nA ql h.nc) ∧ W.cell? ⟨p, 24, none⟩ = some (.slice h.lA ll h.lc) ∧ W.cell? ⟨p, 27, none⟩ = some (.slice h.rA rl h.rc)) (exact bz _ (by repeat (first | exact Below.refl _ _ | exact b5 | with_reducible apply bel_dr | with_reducible apply bel_al))) ((first
    | (go_at_call 32
       (with_reducible refine (L13.usedp_any _ h.nA ql h.nc h.qs (L13.ln_up LS (by repeat (first | exact Below.refl _ _ | with_reducible apply bel_dr | with_reducible apply bel_al))) hq2 (by omega) TX).mono ?_)
       rw [hu]
       rintro e w2 ⟨rfl, k2⟩
       have b5 : Below w.heap.size w w2 := bel_via k2 (by repeat (first | exact Below.refl _ _ | with_reducible apply bel_dr | with_reducible apply bel_al)))))
  all_goals
    go_wp2_with fail
    go_ret
    exact ⟨ret_i64 hk3.out, hid b5⟩
end
end Go.Proofs.YtggcampdkgfmgaaGreat
namespace Go.Proofs.YtggcampdkgfmgaaGreat
open Go.RowKit

/-! Layer 16: the marks. -/
section
variable {w0 w : World} {p : Nat} {S0 S : Nat → Prop} {D : Ds} {h : Ph}
theorem markF_len (t : Tm) (s h : Bool) (u a b : Int) : (L15.markF t s h u a b).2.length ≤ 10 := by
  have h1 : ∀ op, (L15.toldF t op).length ≤ 10 := fun op => by unfold L15.toldF; split <;> simp
  unfold L15.markF
  repeat' split
  all_goals first | exact h1 _ | simp
attribute [local go_sem ↓] ex_ldR
set_option maxRecDepth 100000 in
set_option maxHeartbeats 4000000 in
theorem mark_d (H : Hid (Wy w0 p S0 w S D h)) (hf : Hid (FitN 3600 D)) {D' : Ds} (hr : Hid (markD D = D')) :
    Calls Tryz.prog 59 #[.pointer (some ⟨p, 0, none⟩)] w fun e w' => e = .returned (.tuple #[]) ∧ DOut w0 p S0 D' w' := by
  have ht := hf.out.t
  obtain ⟨U, hU⟩ : ∃ U, Hid (usedD D = U) := ⟨_, hid rfl⟩
  obtain ⟨⟨⟨ma, mb⟩, ml⟩, hm⟩ : ∃ x, Hid (L15.markF D.t D.s D.h (U : Int) 256 768 = x) := ⟨_, hid rfl⟩
  have hr2 : Hid (putD { D with s := ma, h := mb } ml = D') := hid (by
    rw [← hr.out]
    unfold markD
    rw [hU.out, hm.out])
  have hml : ml.length ≤ 10 := by
    have := markF_len D.t D.s D.h (U : Int) 256 768
    rwa [hm.out] at this
  have hf2 : Hid (FitN 3600 { D with s := ma, h := mb }) := hid (hf.out.flow ma mb)
  have bz : ∀ W, Below w.heap.size w W → isR W (.pointer (some ⟨p, 0, none⟩)) = true ∧ csR W (.pointer (some ⟨p, 0, none⟩)) = D.t.cs ∧ W.cell? ⟨p, 28, none⟩ = some (.bool D.s) ∧ W.cell? ⟨p, 29, none⟩ = some (.bool D.h) := fun W k => ⟨(Wy.tm H ht W k).1, (Wy.tm H ht W k).2, Wy.cellW H ht 4 rfl W k, Wy.cellW H ht 5 rfl W k⟩
  go_enter Tryz.func59, Tryz.ntmps59
  go_upto_region 0 with fail
  go_cut [2, 3] (fun a b wx => ∃ g A n c, a = .pointer (some ⟨g, 0, none⟩) ∧ b = .slice A n c ∧ Hid (Box wx g 43 #[.bool ma, .bool mb]) ∧ Hid (ml.length = n) ∧ Hid (SlB wx wx.heap.size A c ml) ∧ Hid (Wy w0 p S0 wx S D h))
  case first =>
    go_region_held3 (fun W => isR W (.pointer (some ⟨p, 0, none⟩)) = true ∧ csR W (.pointer (some ⟨p, 0, none⟩)) = D.t.cs ∧ W.cell? ⟨p, 28, none⟩ = some (.bool D.s) ∧ W.cell? ⟨p, 29, none⟩ = some (.bool D.h)) (exact bz _ (by repeat (first | exact Below.refl _ _ | exact b3 | exact b2 | with_reducible apply bel_dr | with_reducible apply bel_al | with_reducible apply bel_st0 | (with_reducible refine bel_st ?_ b2 _ _)))) ((first
      | (go_at_call 26
         (with_reducible refine (used_d (Wy.bel H (by repeat (first | exact Below.refl _ _ | with_reducible apply bel_dr | with_reducible apply bel_al))) hf hU).mono ?_)
         rintro e w2 ⟨rfl, k2⟩
         have b2 : Below w.heap.size w w2 := bel_via k2 (by repeat (first | exact Below.refl _ _ | with_reducible apply bel_dr | with_reducible apply bel_al))
         try have q2 : Hid (Box w2 w.heap.size 43 #[.bool false, .bool false]) := hid (box_al2 (v := w.drew) k2))
      | (go_at_call 103
         (with_reducible refine (L15.markp_any _ D.t ht D.s D.h (U : Int) 256 768 hm).mono ?_)
         rintro e w3 ⟨A3, n3, c3, rfl, N3, S3, k3⟩
         have b3 : Below w.heap.size w w3 := bel_via k3 (by repeat (first | exact Below.refl _ _ | exact b2 | with_reducible apply bel_dr | with_reducible apply bel_al))
         try have q3 : Hid (Box w3 w.heap.size 43 #[.bool false, .bool false]) := hid (box_below q2.out k3.out)
         try have q3 : Hid (Box w3 w2.heap.size 43 #[.bool false, .bool false]) := hid (box_al2 (v := w2) k3)
         try have y0 := (q3.out).cell 0
         try have y1 := (q3.out).cell 1
         try have z0 := (q3.out).frozen 0
         try have z1 := (q3.out).frozen 1)))
    all_goals
      go_wp2_with fail
      go_meet
      first
        | exact ⟨w3.heap.size, A3, n3, c3, rfl, rfl, hid (Box.new w3 _ _), N3, slb_alloc S3 _, Wy.bel H (b3.alloc b3.size _)⟩
        | exact ⟨w2.heap.size, A3, n3, c3, rfl, rfl, hid (by simpa using (q3.out.store 0 (.bool ma)).store 1 (.bool mb)), N3, hid (L15.slb_flowp S3 (L15.st2_others w3 w2.heap.size _ _) q3.out), Wy.bel H (bel_st (bel_st b3 b2 _ _) b2 _ _)⟩
        | exact ⟨w.heap.size, A3, n3, c3, rfl, rfl, hid (by simpa using (q3.out.store 0 (.bool ma)).store 1 (.bool mb)), N3, hid (L15.slb_flowp S3 (L15.st2_others w3 w.heap.size _ _) q3.out), Wy.bel H (bel_st0 (bel_st0 b3 _ _) _ _)⟩
  case rest =>
  obtain ⟨g, A3, n3, c3, rfl, rfl, X3, N3, S3, H3⟩ := hcut
  have hn3 : n3 ≤ 10 := by rw [← N3.out]; exact hml
  have m0 : World.cell? wc ⟨g, 0, none⟩ = some (.bool ma) := by simpa using X3.out.cell 0
  have m1 : World.cell? wc ⟨g, 1, none⟩ = some (.bool mb) := by simpa using X3.out.cell 1
  have z28 := Wy.fz H3 28
  have z29 := Wy.fz H3 29
  have c28 := Wy.cellW H3 ht 4 rfl wc (Below.refl _ _)
  have c29 := Wy.cellW H3 ht 5 rfl wc (Below.refl _ _)
  have H4 := Wy.flow_ H3 ht ma mb
  have S4 := Wy.slbFlow H3 ht S3 ma mb
  go_wp2_with (first
    | (go_at_call 104
       (with_reducible refine (put_d H4 hf2 N3 (by omega) S4 hr2).mono ?_)
       rintro e w4 ⟨rfl, K4⟩))
  go_end0
  exact ⟨rfl, K4⟩
/-! What is thrown away, and what sends a signal. -/
set_option maxRecDepth 100000 in
theorem flushOut_d (H : Hid (Wy w0 p S0 w S D h)) (ht : D.t.Ok) : Calls Tryz.prog 95 #[.pointer (some ⟨p, 0, none⟩)] w fun e w' => e = .returned (.tuple #[]) ∧ DOut w0 p S0 { D with out := [] } w' := by
  have z := Wy.fz H 30
  have c := Wy.cellW H ht 6 rfl w (Below.refl _ _)
  have H1 := Wy.out_ H ht (l := []) (hid rfl) (slb_nil0 w) Fr.none_
  go_enter Tryz.func95, Tryz.ntmps95
  go_wp2_with fail
  go_end0
  exact ⟨rfl, Wy.left H1⟩
def flushInD (D : Ds) : Ds := { D with line := [], ls := [], raw := [], nx := false }
set_option maxRecDepth 100000 in
theorem flushIn_d (H : Hid (Wy w0 p S0 w S D h)) (ht : D.t.Ok) {D' : Ds} (hr : Hid (flushInD D = D')) : Calls Tryz.prog 94 #[.pointer (some ⟨p, 0, none⟩)] w fun e w' => e = .returned (.tuple #[]) ∧ DOut w0 p S0 D' w' := by
  obtain rfl := hr.out
  have z24 := Wy.fz H 24
  have c24 := Wy.cellW H ht 0 rfl w (Below.refl _ _)
  have z26 := Wy.fz H 26
  have c26 := Wy.cellW H ht 2 rfl w (Below.refl _ _)
  have z27 := Wy.fz H 27
  have c27 := Wy.cellW H ht 3 rfl w (Below.refl _ _)
  have z25 := Wy.fz H 25
  have c25 := Wy.cellW H ht 1 rfl w (Below.refl _ _)
  have H1 := Wy.line_ H ht (l := []) (hid rfl) (slb_nil0 w) Fr.none_
  obtain ⟨S2, H2⟩ := Wy.ls_ H1 ht (qs := []) (n := 0) (c := 0) (hid rfl) (hid rfl) (hid (L13.LnO.nil _ 0 0).ln) Fr.none_ (fun r hr => by cases hr)
  have H3 := Wy.raw_ H2 ht (l := []) (hid rfl) (slb_nil0 _) Fr.none_
  have H4 := Wy.nx_ H3 ht false
  go_enter Tryz.func94, Tryz.ntmps94
  go_wp2_with fail
  go_end0
  exact ⟨rfl, Wy.left H4⟩
end
end Go.Proofs.YtggcampdkgfmgaaGreat
namespace Go.Proofs.YtggcampdkgfmgaaGreat
open Go.RowKit

/-! Layer 16: what sends a signal, the quote, what is taken off the line. -/
section
variable {w0 w : World} {p : Nat} {S0 S : Nat → Prop} {D : Ds} {h : Ph}
def startD (D : Ds) (c : UInt8) : Ds := echoD (if D.has 38 = true then { D with s := false } else D) (showB (D.has 60) c)
attribute [local go_sem ↓] wp_ldR ex_ldR
set_option maxRecDepth 100000 in
set_option maxHeartbeats 1000000 in
theorem start_d (H : Hid (Wy w0 p S0 w S D h)) (hf : Hid (FitN 3600 D)) (c : UInt8) {D' : Ds} (hr : Hid (startD D c = D')) :
    Calls Tryz.prog 159 #[.pointer (some ⟨p, 0, none⟩), .int .u8 (c.toNat : Int)] w fun e w' => e = .returned (.tuple #[]) ∧ DOut w0 p S0 D' w' := by
  have ht := hf.out.t
  have h60 : Hid (hasN D.t.f 60 = D.has 60) := hid rfl
  cases hb : D.has 38
  · have hr2 : Hid (echoD D (showB (D.has 60) c) = D') := hid (by
      rw [← hr.out]
      unfold startD
      rw [hb, if_neg (by decide)])
    clear hr
    go_enter Tryz.func159, Tryz.ntmps159
    go_wp2_with (first
      | (go_at_call 61
         (with_reducible refine (hasd_b H ht hb).mono ?_)
         rintro e w1 ⟨rfl, k1⟩
         have H1 := Wy.bel H k1.out)
      | (refine ldW (by rfl) _ (by rfl) p (by rfl) H1 ht ?_)
      | (go_at_call 126
         (with_reducible refine (L11.show_any _ ht c h60).mono ?_)
         rintro e ws ⟨As, ns, cs, rfl, Ns, Os, ks⟩
         have Hs := Wy.bel H1 ks.out
         have Ss := slb_own Ns Os
         have bs : ns ≤ 10 := by
           have h1 := (showB_len (D.has 60) c).2
           rw [Ns.out] at h1
           omega)
      | (go_at_call 125
         (with_reducible refine (echo_d Hs hf Ns (by omega) Ss hr2).mono ?_)
         rintro e we ⟨rfl, Ke⟩))
    go_end0
    exact ⟨rfl, Ke⟩
  · have hr2 : Hid (echoD { D with s := false } (showB (D.has 60) c) = D') := hid (by
      rw [← hr.out]
      unfold startD
      rw [hb, if_pos rfl])
    clear hr
    have hf2 : Hid (FitN 3600 { D with s := false }) := hid (hf.out.flow false D.h)
    go_enter Tryz.func159, Tryz.ntmps159
    go_wp2_with (first
      | (go_at_call 61
         (with_reducible refine (hasd_b H ht hb).mono ?_)
         rintro e w1 ⟨rfl, k1⟩
         have H0 := Wy.bel H k1.out
         have z28 := Wy.fz H0 28
         have c28 := Wy.cellW H0 ht 4 rfl w1 (Below.refl _ _)
         have H1 := Wy.s_ H0 ht false)
      | (refine ldW (by rfl) _ (by rfl) p (by rfl) H1 ht ?_)
      | (go_at_call 126
         (with_reducible refine (L11.show_any _ ht c h60).mono ?_)
         rintro e ws ⟨As, ns, cs, rfl, Ns, Os, ks⟩
         have Hs := Wy.bel H1 ks.out
         have Ss := slb_own Ns Os
         have bs : ns ≤ 10 := by
           have h1 := (showB_len (D.has 60) c).2
           rw [Ns.out] at h1
           omega)
      | (go_at_call 125
         (with_reducible refine (echo_d Hs hf2 Ns (by omega) Ss hr2).mono ?_)
         rintro e we ⟨rfl, Ke⟩))
    go_end0
    exact ⟨rfl, Ke⟩
def breakD (D : Ds) (c : UInt8) : Ds := startD (if D.has 57 = true then D else { flushInD D with out := [] }) c
set_option maxRecDepth 100000 in
set_option maxHeartbeats 1000000 in
theorem breakD_d (H : Hid (Wy w0 p S0 w S D h)) (hf : Hid (FitN 3600 D)) (c : UInt8) {D' : Ds} (hr : Hid (breakD D c = D')) :
    Calls Tryz.prog 128 #[.pointer (some ⟨p, 0, none⟩), .int .u8 (c.toNat : Int)] w fun e w' => e = .returned (.tuple #[]) ∧ DOut w0 p S0 D' w' := by
  have ht := hf.out.t
  cases hb : D.has 57
  · have hr2 : Hid (startD ({ flushInD D with out := [] }) c = D') := hid (by
      rw [← hr.out]
      unfold breakD
      rw [hb, if_neg (by decide)])
    clear hr
    have hf1 : Hid (FitN 3600 (flushInD D)) := hid ⟨hf.out.t, by simp [flushInD], by simp [flushInD], hf.out.out, by simp [flushInD], by simp [flushInD, L13.usedL], hf.out.col, hf.out.fr, hf.out.idle⟩
    have hf2 : Hid (FitN 3600 ({ flushInD D with out := [] })) := hid ⟨hf.out.t, by simp [flushInD], by simp [flushInD], by simp, by simp [flushInD], by simp [flushInD, L13.usedL], hf.out.col, hf.out.fr, hf.out.idle⟩
    go_enter Tryz.func128, Tryz.ntmps128
    go_wp2_with (first
      | (go_at_call 61
         (with_reducible refine (hasd_b H ht hb).mono ?_)
         rintro e w1 ⟨rfl, k1⟩
         have H1 := Wy.bel H k1.out)
      | (go_at_call 94
         (with_reducible refine (flushIn_d H1 ht (hid rfl)).mono ?_)
         rintro e w2 ⟨rfl, K2⟩
         obtain ⟨S2, h2, H2⟩ := Wy.from K2)
      | (go_at_call 95
         (with_reducible refine (flushOut_d H2 hf1.out.t).mono ?_)
         rintro e w3 ⟨rfl, K3⟩
         obtain ⟨S3, h3, H3⟩ := Wy.from K3)
      | (go_at_call 159
         (with_reducible refine (start_d H3 hf2 c hr2).mono ?_)
         rintro e we ⟨rfl, Ke⟩))
    go_end0
    exact ⟨rfl, Ke⟩
  · have hr2 : Hid (startD D c = D') := hid (by
      rw [← hr.out]
      unfold breakD
      rw [hb, if_pos rfl])
    clear hr
    go_enter Tryz.func128, Tryz.ntmps128
    go_wp2_with (first
      | (go_at_call 61
         (with_reducible refine (hasd_b H ht hb).mono ?_)
         rintro e w1 ⟨rfl, k1⟩
         have H1 := Wy.bel H k1.out)
      | (go_at_call 159
         (with_reducible refine (start_d H1 hf c hr2).mono ?_)
         rintro e we ⟨rfl, Ke⟩))
    go_end0
    exact ⟨rfl, Ke⟩
def suspD (D : Ds) (c : UInt8) : Ds := startD (if D.has 57 = true then D else flushInD D) c
set_option maxRecDepth 100000 in
set_option maxHeartbeats 1000000 in
theorem suspD_d (H : Hid (Wy w0 p S0 w S D h)) (hf : Hid (FitN 3600 D)) (c : UInt8) {D' : Ds} (hr : Hid (suspD D c = D')) :
    Calls Tryz.prog 129 #[.pointer (some ⟨p, 0, none⟩), .int .u8 (c.toNat : Int)] w fun e w' => e = .returned (.tuple #[]) ∧ DOut w0 p S0 D' w' := by
  have ht := hf.out.t
  cases hb : D.has 57
  · have hr2 : Hid (startD (flushInD D) c = D') := hid (by
      rw [← hr.out]
      unfold suspD
      rw [hb, if_neg (by decide)])
    clear hr
    have hf1 : Hid (FitN 3600 (flushInD D)) := hid ⟨hf.out.t, by simp [flushInD], by simp [flushInD], hf.out.out, by simp [flushInD], by simp [flushInD, L13.usedL], hf.out.col, hf.out.fr, hf.out.idle⟩
    have hf2 : Hid (FitN 3600 (flushInD D)) := hid ⟨hf.out.t, by simp [flushInD], by simp [flushInD], hf.out.out, by simp [flushInD], by simp [flushInD, L13.usedL], hf.out.col, hf.out.fr, hf.out.idle⟩
    go_enter Tryz.func129, Tryz.ntmps129
    go_wp2_with (first
      | (go_at_call 61
         (with_reducible refine (hasd_b H ht hb).mono ?_)
         rintro e w1 ⟨rfl, k1⟩
         have H1 := Wy.bel H k1.out)
      | (go_at_call 94
         (with_reducible refine (flushIn_d H1 ht (hid rfl)).mono ?_)
         rintro e w2 ⟨rfl, K2⟩
         obtain ⟨S2, h2, H2⟩ := Wy.from K2)
      | (go_at_call 159
         (with_reducible refine (start_d H2 hf2 c hr2).mono ?_)
         rintro e we ⟨rfl, Ke⟩))
    go_end0
    exact ⟨rfl, Ke⟩
  · have hr2 : Hid (startD D c = D') := hid (by
      rw [← hr.out]
      unfold suspD
      rw [hb, if_pos rfl])
    clear hr
    go_enter Tryz.func129, Tryz.ntmps129
    go_wp2_with (first
      | (go_at_call 61
         (with_reducible refine (hasd_b H ht hb).mono ?_)
         rintro e w1 ⟨rfl, k1⟩
         have H1 := Wy.bel H k1.out)
      | (go_at_call 159
         (with_reducible refine (start_d H1 hf c hr2).mono ?_)
         rintro e we ⟨rfl, Ke⟩))
    go_end0
    exact ⟨rfl, Ke⟩
def quoteD (D : Ds) : Ds := if D.has 60 = true then echoD { D with nx := true } [94, 8] else { D with nx := true }
set_option maxRecDepth 100000 in
set_option maxHeartbeats 1000000 in
theorem quote_d (H : Hid (Wy w0 p S0 w S D h)) (hf : Hid (FitN 3600 D)) (c : UInt8) {D' : Ds} (hr : Hid (quoteD D = D')) :
    Calls Tryz.prog 160 #[.pointer (some ⟨p, 0, none⟩), .int .u8 (c.toNat : Int)] w fun e w' => e = .returned (.tuple #[]) ∧ DOut w0 p S0 D' w' := by
  have ht := hf.out.t
  have z25 := Wy.fz H 25
  have c25 := Wy.cellW H ht 1 rfl w (Below.refl _ _)
  have H1 := Wy.nx_ H ht true
  have hf1 : Hid (FitN 3600 { D with nx := true }) := hid (hf.out.nx_ true)
  have N2 : Hid (([94, 8] : List UInt8).length = 2) := hid rfl
  cases hb : D.has 60
  · have e : { D with nx := true } = D' := by
      rw [← hr.out]
      unfold quoteD
      rw [hb, if_neg (by decide)]
    subst e
    have hb1 : ({ D with nx := true } : Ds).has 60 = false := hb
    go_enter Tryz.func160, Tryz.ntmps160
    go_wp2_with (first
      | (go_at_call 61
         (with_reducible refine (hasd_b H1 ht hb1).mono ?_)
         rintro e w1 ⟨rfl, k1⟩
         have H2 := Wy.bel H1 k1.out))
    go_end0
    exact ⟨rfl, Wy.left H2⟩
  · have hr2 : Hid (echoD { D with nx := true } [94, 8] = D') := hid (by
      rw [← hr.out]
      unfold quoteD
      rw [hb, if_pos rfl])
    have hb1 : ({ D with nx := true } : Ds).has 60 = true := hb
    go_enter Tryz.func160, Tryz.ntmps160
    go_wp2_with (first
      | (go_at_call 61
         (with_reducible refine (hasd_b H1 ht hb1).mono ?_)
         rintro e w1 ⟨rfl, k1⟩
         have H2 := Wy.bel (Wy.bel H1 k1.out) ((Below.refl _ w1).alloc (Nat.le_refl _) (.cells #[.int .u8 94, .int .u8 8] 5))
         have S2 : Hid (SlB (w1.alloc (.cells #[.int .u8 94, .int .u8 8] 5)) (w1.alloc (.cells #[.int .u8 94, .int .u8 8] 5)).heap.size (some ⟨w1.heap.size, 0, none⟩) 2 [94, 8]) := hid (slb_lit w1 [94, 8] 2 #[.int .u8 94, .int .u8 8] rfl rfl (by decide)))
      | (go_at_call 125
         (with_reducible refine (echo_d H2 hf1 N2 (by omega) S2 hr2).mono ?_)
         rintro e we ⟨rfl, Ke⟩))
    go_end0
    exact ⟨rfl, Ke⟩
end
end Go.Proofs.YtggcampdkgfmgaaGreat
