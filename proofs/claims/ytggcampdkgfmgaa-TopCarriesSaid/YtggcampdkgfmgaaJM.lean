import Derived.Test.YtggcampdkgfmgaaJL
import Derived.Deep.DeepCutAuto
namespace Go.Proofs.Ytggcampdkgfmgaa
open Go.RowKit

/-! Layer 16: a discipline in memory, through the program's calls. -/
theorem FitN.up {n m : Nat} {D : Ds} (h : FitN n D) (k : n ≤ m) : FitN m D := ⟨h.t, h.line, h.raw, h.out, Nat.le_trans h.ls k, h.used, h.col, h.fr, h.idle⟩
theorem Fit.n {D : Ds} (h : Fit D) : FitN 3300 D := ⟨h.t, h.line, h.raw, h.out, h.ls, h.used, h.col, h.fr, h.idle⟩
theorem bel_via {u W W' : World} (k : Hid (Below W.heap.size W W')) (hW : Below u.heap.size u W) : Below u.heap.size u W' := hW.trans (k.out.mono hW.size)
theorem box_al2 {v W : World} {cs : Array Value} {T : TypeId} (k : Hid (Below (v.alloc (.cells cs T)).heap.size (v.alloc (.cells cs T)) W)) : Box W v.heap.size T cs := box_below (Box.new v T cs) k.out
theorem bel_st {w w2 W : World} (h : Below w.heap.size w W) (k : Below w.heap.size w w2) (i : Nat) (v : Value) : Below w.heap.size w (W.setCell ⟨w2.heap.size, i, none⟩ v) := h.trans ((Turn.setCell W w2.heap.size i v).below k.size)
theorem bel_st0 {w W : World} (h : Below w.heap.size w W) (i : Nat) (v : Value) : Below w.heap.size w (W.setCell ⟨w.heap.size, i, none⟩ v) := bel_st h (Below.refl _ _) i v
theorem ex_ldR {dst : Option Tmp} {x : Operand} {ty : TypeId} {pos : String} {after : Array Edge} {gd : Option (Nat × Bool)} {ev : Operand → Value} {w : World} (h : isR w (ev x) = true) :
    (execOp ev { dst, op := .load 26 x, type := ty, pos, after, guard := gd }).run Try.prog w = .ok (.value (.agg (csR w (ev x)))) w := by
  obtain ⟨g, o, l, hx, hr, hl, hc⟩ := rng_at h
  unfold execOp
  rw [hc]
  simp only [hx, Instr.loadAt, Instr.sureAddr, Sem.run_bind, Sem.run_pure, Result.andThen_ok, run_loadVar_mid (P := Try.prog) w g o 26 l _ hr Try.underlying26 rfl (by rw [hl]; exact Try.size26)]
/-- On the way: what the discipline is by now, where its lists lie, and that nothing but its blocks has turned. -/
structure Wy (w0 : World) (p : Nat) (S0 : Nat → Prop) (w : World) (S : Nat → Prop) (D : Ds) (h : Ph) : Prop where
  at_ : DPh w p S D h
  new : ∀ x, S x → S0 x ∨ w0.heap.size ≤ x
  but : ButP S0 w0 w
/-- A list may be the discipline's: its block is one of its own, or new. -/
def Fr (w0 : World) (p : Nat) (S : Nat → Prop) (A : Option Addr) (ne : Prop) : Prop := ne → ∀ a, A = some a → (S a.block ∨ w0.heap.size ≤ a.block) ∧ a.block ≠ p
section
variable {w0 w w' : World} {p : Nat} {S0 S : Nat → Prop} {D D' : Ds} {h : Ph}
theorem Wy.of (H : Hid (DAt w p S D)) : ∃ h, Hid (Wy w p S w S D h) := by
  obtain ⟨h, H⟩ := H.out
  exact ⟨h, hid ⟨H, fun x hx => .inl hx, ButP.refl S w⟩⟩
theorem Wy.left (H : Hid (Wy w0 p S0 w S D h)) : DOut w0 p S0 D w := ⟨S, hid ⟨h, H.out.at_⟩, hid H.out.new, hid H.out.but⟩
theorem Wy.from (K : DOut w0 p S0 D w) : ∃ S h, Hid (Wy w0 p S0 w S D h) := by
  obtain ⟨S, h1, h2, h3⟩ := K
  obtain ⟨h, h1⟩ := h1.out
  exact ⟨S, h, hid ⟨h1, h2.out, h3.out⟩⟩
theorem Wy.dat (H : Hid (Wy w0 p S0 w S D h)) : Hid (DAt w p S D) := hid ⟨h, H.out.at_⟩
theorem Wy.next (H : Hid (Wy w0 p S0 w S D h)) (K : DOut w p S D' w') : ∃ S' h', Hid (Wy w0 p S0 w' S' D' h') := by
  obtain ⟨S', h1, h2, h3⟩ := K
  obtain ⟨h', h1⟩ := h1.out
  refine ⟨S', h', hid ⟨h1, fun x hx => ?_, H.out.but.trans h3.out H.out.new⟩⟩
  rcases h2.out x hx with h | h
  · exact H.out.new x h
  · exact .inr (Nat.le_trans H.out.but.size h)
theorem Wy.bel (H : Hid (Wy w0 p S0 w S D h)) (k : Below w.heap.size w w') : Hid (Wy w0 p S0 w' S D h) := hid ⟨H.out.at_.bel k, H.out.new, H.out.but.bel k⟩
theorem Wy.cellW (H : Hid (Wy w0 p S0 w S D h)) (ht : D.t.Ok) (j : Nat) {v : Value} (hj : (dRest D h)[j]? = some v) (W : World) (k : Below w.heap.size w W) : W.cell? ⟨p, 24 + j, none⟩ = some v :=
  (Box.cell (H.out.at_.bel k).box (24 + j)).trans (tmV_back ht hj)
theorem Wy.tm (H : Hid (Wy w0 p S0 w S D h)) (ht : D.t.Ok) (W : World) (k : Below w.heap.size w W) : isR W (.pointer (some ⟨p, 0, none⟩)) = true ∧ csR W (.pointer (some ⟨p, 0, none⟩)) = D.t.cs :=
  front_R ht.len (H.out.at_.bel k).box (tmV_front _)
theorem Wy.fz (H : Hid (Wy w0 p S0 w S D h)) (i : Nat) : w.frozen? ⟨p, i, none⟩ = false := Box.frozen H.out.at_.box i
theorem Wy.lt (H : Hid (Wy w0 p S0 w S D h)) : p < w.heap.size := Box.lt H.out.at_.box
theorem Wy.lineS (H : Hid (Wy w0 p S0 w S D h)) : Hid (SlB w w.heap.size h.lA h.lc D.line) := hid H.out.at_.line
theorem Wy.rawS (H : Hid (Wy w0 p S0 w S D h)) : Hid (SlB w w.heap.size h.rA h.rc D.raw) := hid H.out.at_.raw
theorem Wy.outS (H : Hid (Wy w0 p S0 w S D h)) : Hid (SlB w w.heap.size h.oA h.oc D.out) := hid H.out.at_.out
theorem tmV_set {t : Tm} (ht : t.Ok) (r : List Value) (j : Nat) (v : Value) : (tmV t r).setIfInBounds (24 + j) v = tmV t (r.set j v) := by
  unfold tmV
  rw [List.setIfInBounds_toArray, List.set_append_right (24 + j) v (by rw [cl_len ht.len]; omega), cl_len ht.len, Nat.add_sub_cancel_left]
/-- A store to one of the discipline's cells. -/
theorem Wy.re (H : Hid (Wy w0 p S0 w S D h)) (ht : D.t.Ok) (j : Nat) (v : Value) {h' : Ph} {S' : Nat → Prop} (hT : D'.t = D.t) (hR : (dRest D h).set j v = dRest D' h') (hS : ∀ x, S x → S' x) (hS2 : ∀ x, S' x → S x ∨ (w0.heap.size ≤ x ∧ x < w.heap.size))
    (l1 : SlB w w.heap.size h'.lA h'.lc D'.line) (l2 : InS S' p h'.lA (D'.line ≠ [])) (r1 : SlB w w.heap.size h'.rA h'.rc D'.raw) (r2 : InS S' p h'.rA (D'.raw ≠ [])) (o1 : SlB w w.heap.size h'.oA h'.oc D'.out) (o2 : InS S' p h'.oA (D'.out ≠ []))
    (n1 : L13.LnV w w.heap.size h'.nA h'.nc h'.qs) (n2 : L13.lnR h'.qs = D'.ls) (n3 : InS S' p h'.nA (h'.qs ≠ [])) (n4 : ∀ r ∈ h'.qs, InS S' p r.A (r.bs ≠ [])) : Hid (Wy w0 p S0 (w.setCell ⟨p, 24 + j, none⟩ v) S' D' h') := by
  have hz : (w.setCell ⟨p, 24 + j, none⟩ v).heap.size = w.heap.size := by simp [World.setCell]
  have k : ButP (fun x => x = p) w (w.setCell ⟨p, 24 + j, none⟩ v) := (ButP.refl (fun x => x = p) w).store (.inl rfl) v
  have hb := H.out.at_.box.store (24 + j) v
  rw [tmV_set ht, hR, ← hT] at hb
  refine hid ⟨H.out.at_.re k hb hS (fun x hx => ?_) l1 l2 r1 r2 o1 o2 n1 n2 n3 n4, fun x hx => ?_, H.out.but.store ?_ v⟩
  · rw [hz]
    rcases hS2 x hx with h1 | h1
    · exact H.out.at_.top x h1
    · exact h1.2
  · rcases hS2 x hx with h1 | h1
    · exact H.out.new x h1
    · exact .inr h1.1
  · exact H.out.new p H.out.at_.sp
theorem Wy.keep1 (H : Hid (Wy w0 p S0 w S D h)) (ht : D.t.Ok) (j : Nat) (v : Value) (hT : D'.t = D.t) (hR : (dRest D h).set j v = dRest D' h) (hl : D'.line = D.line) (hr : D'.raw = D.raw) (ho : D'.out = D.out) (hn : D'.ls = D.ls) : Hid (Wy w0 p S0 (w.setCell ⟨p, 24 + j, none⟩ v) S D' h) := by
  have K := H.out.at_
  exact Wy.re H ht j v hT hR (fun _ h => h) (fun _ h => .inl h) (by rw [hl]; exact K.line) (by rw [hl]; exact K.sl) (by rw [hr]; exact K.raw) (by rw [hr]; exact K.sr) (by rw [ho]; exact K.out) (by rw [ho]; exact K.so) K.lsv (K.lsq.trans hn.symm) K.row K.txt
theorem Wy.nx_ (H : Hid (Wy w0 p S0 w S D h)) (ht : D.t.Ok) (b : Bool) : Hid (Wy w0 p S0 (w.setCell ⟨p, 25, none⟩ (.bool b)) S { D with nx := b } h) := Wy.keep1 H ht 1 _ rfl rfl rfl rfl rfl rfl
theorem Wy.s_ (H : Hid (Wy w0 p S0 w S D h)) (ht : D.t.Ok) (b : Bool) : Hid (Wy w0 p S0 (w.setCell ⟨p, 28, none⟩ (.bool b)) S { D with s := b } h) := Wy.keep1 H ht 4 _ rfl rfl rfl rfl rfl rfl
theorem Wy.h_ (H : Hid (Wy w0 p S0 w S D h)) (ht : D.t.Ok) (b : Bool) : Hid (Wy w0 p S0 (w.setCell ⟨p, 29, none⟩ (.bool b)) S { D with h := b } h) := Wy.keep1 H ht 5 _ rfl rfl rfl rfl rfl rfl
theorem Wy.flow_ (H : Hid (Wy w0 p S0 w S D h)) (ht : D.t.Ok) (a b : Bool) : Hid (Wy w0 p S0 ((w.setCell ⟨p, 28, none⟩ (.bool a)).setCell ⟨p, 29, none⟩ (.bool b)) S { D with s := a, h := b } h) := Wy.h_ (D := { D with s := a }) (Wy.s_ H ht a) ht b
theorem Wy.col_ (H : Hid (Wy w0 p S0 w S D h)) (ht : D.t.Ok) (x : Int) : Hid (Wy w0 p S0 (w.setCell ⟨p, 31, none⟩ (.int .i64 x)) S { D with col := x } h) := Wy.keep1 H ht 7 _ rfl rfl rfl rfl rfl rfl
theorem Wy.fr_ (H : Hid (Wy w0 p S0 w S D h)) (ht : D.t.Ok) (x : Int) : Hid (Wy w0 p S0 (w.setCell ⟨p, 32, none⟩ (.int .i64 x)) S { D with fr := x } h) := Wy.keep1 H ht 8 _ rfl rfl rfl rfl rfl rfl
theorem Wy.idle_ (H : Hid (Wy w0 p S0 w S D h)) (ht : D.t.Ok) (x : Int) : Hid (Wy w0 p S0 (w.setCell ⟨p, 33, none⟩ (.int .i64 x)) S { D with idle := x } h) := Wy.keep1 H ht 9 _ rfl rfl rfl rfl rfl rfl
/-- The discipline's blocks, and a list's. -/
def Plus (S : Nat → Prop) (A : Option Addr) (ne : Prop) : Nat → Prop := fun x => S x ∨ (ne ∧ ∃ a, A = some a ∧ a.block = x)
theorem slb_block {A : Option Addr} {c : Nat} {b : List UInt8} (h : SlB w w.heap.size A c b) (hb : b ≠ []) : ∀ a, A = some a → a.block < w.heap.size := by
  obtain ⟨g, o, e, hlt, _⟩ := h.2.2.2 (by
    intro e
    have : b = [] := by simpa [bv] using e
    exact hb this)
  intro a ha
  rw [e] at ha
  injection ha with ha
  subst ha
  exact hlt
theorem plus_old {A : Option Addr} {ne : Prop} (hF : Fr w0 p S A ne) (hlt : ne → ∀ a, A = some a → a.block < w.heap.size) : ∀ x, Plus S A ne x → S x ∨ (w0.heap.size ≤ x ∧ x < w.heap.size) := by
  rintro x (h1 | ⟨hn, a, ha, rfl⟩)
  · exact .inl h1
  · rcases (hF hn a ha).1 with h2 | h2
    · exact .inl h2
    · exact .inr ⟨h2, hlt hn a ha⟩
theorem plus_in {A : Option Addr} {ne : Prop} (hF : Fr w0 p S A ne) : InS (Plus S A ne) p A ne := fun hn a ha => ⟨.inr ⟨hn, a, ha, rfl⟩, (hF hn a ha).2⟩
theorem plus_more {A B : Option Addr} {ne nf : Prop} (H : InS S p B nf) : InS (Plus S A ne) p B nf := H.more (fun _ h => .inl h) fun h => h
theorem Wy.line_ (H : Hid (Wy w0 p S0 w S D h)) (ht : D.t.Ok) {A : Option Addr} {n c : Nat} {l : List UInt8} (hn : Hid (l.length = n)) (hS : Hid (SlB w w.heap.size A c l)) (hF : Fr w0 p S A (l ≠ [])) :
    Hid (Wy w0 p S0 (w.setCell ⟨p, 24, none⟩ (.slice A n c)) (Plus S A (l ≠ [])) { D with line := l } { h with lA := A, lc := c }) := by
  obtain rfl := hn.out
  have K := H.out.at_
  exact Wy.re H ht 0 _ rfl rfl (fun _ h => .inl h) (plus_old hF (slb_block hS.out)) hS.out (plus_in hF) K.raw (plus_more K.sr) K.out (plus_more K.so) K.lsv K.lsq (plus_more K.row) (fun r hr => plus_more (K.txt r hr))
theorem Wy.raw_ (H : Hid (Wy w0 p S0 w S D h)) (ht : D.t.Ok) {A : Option Addr} {n c : Nat} {l : List UInt8} (hn : Hid (l.length = n)) (hS : Hid (SlB w w.heap.size A c l)) (hF : Fr w0 p S A (l ≠ [])) :
    Hid (Wy w0 p S0 (w.setCell ⟨p, 27, none⟩ (.slice A n c)) (Plus S A (l ≠ [])) { D with raw := l } { h with rA := A, rc := c }) := by
  obtain rfl := hn.out
  have K := H.out.at_
  exact Wy.re H ht 3 _ rfl rfl (fun _ h => .inl h) (plus_old hF (slb_block hS.out)) K.line (plus_more K.sl) hS.out (plus_in hF) K.out (plus_more K.so) K.lsv K.lsq (plus_more K.row) (fun r hr => plus_more (K.txt r hr))
theorem Wy.out_ (H : Hid (Wy w0 p S0 w S D h)) (ht : D.t.Ok) {A : Option Addr} {n c : Nat} {l : List UInt8} (hn : Hid (l.length = n)) (hS : Hid (SlB w w.heap.size A c l)) (hF : Fr w0 p S A (l ≠ [])) :
    Hid (Wy w0 p S0 (w.setCell ⟨p, 30, none⟩ (.slice A n c)) (Plus S A (l ≠ [])) { D with out := l } { h with oA := A, oc := c }) := by
  obtain rfl := hn.out
  have K := H.out.at_
  exact Wy.re H ht 6 _ rfl rfl (fun _ h => .inl h) (plus_old hF (slb_block hS.out)) K.line (plus_more K.sl) K.raw (plus_more K.sr) hS.out (plus_in hF) K.lsv K.lsq (plus_more K.row) (fun r hr => plus_more (K.txt r hr))
/-- Other lines, and which blocks are its own then. -/
theorem Wy.lsI (H : Hid (Wy w0 p S0 w S D h)) (ht : D.t.Ok) {A : Option Addr} {n c : Nat} {qs : List L13.Rc} {l : List (List UInt8 × Bool)} (hn : Hid (qs.length = n)) (hq : Hid (L13.lnR qs = l)) (hS : Hid (L13.LnV w w.heap.size A c qs)) (hF : Fr w0 p S A (qs ≠ [])) (hG : ∀ r ∈ qs, Fr w0 p S r.A (r.bs ≠ [])) :
    ∃ S', Hid (Wy w0 p S0 (w.setCell ⟨p, 26, none⟩ (.slice A n c)) S' { D with ls := l } { h with nA := A, nc := c, qs := qs }) ∧ Hid (∀ x, S' x → S x ∨ (qs ≠ [] ∧ ∃ a, A = some a ∧ a.block = x) ∨ ∃ r, r ∈ qs ∧ r.bs ≠ [] ∧ ∃ a, r.A = some a ∧ a.block = x) := by
  obtain rfl := hn.out
  have K := H.out.at_
  have hll : qs.length = l.length := by rw [← hq.out]; simp [L13.lnR]
  refine ⟨fun x => Plus S A (qs ≠ []) x ∨ ∃ r ∈ qs, Plus S r.A (r.bs ≠ []) x, Wy.re H ht 2 _ rfl (by rw [hll]; rfl) (fun _ h => .inl (.inl h)) ?_ K.line ?_ K.raw ?_ K.out ?_ hS.out hq.out ?_ ?_, hid ?_⟩
  · rintro x (h1 | ⟨r, hr, h1⟩)
    · refine plus_old hF (fun hne a ha => ?_) x h1
      obtain ⟨g, o, e, hlt, _⟩ := hS.out.lies (by
        intro e
        have := congrArg List.length e
        rw [L13.rcV_len] at this
        have := List.length_pos_iff.2 hne
        simp at *
        omega)
      rw [e] at ha
      injection ha with ha
      subst ha
      exact hlt
    · exact plus_old (hG r hr) (slb_block (hS.out.text r hr)) x h1
  · exact K.sl.more (fun _ h => .inl (.inl h)) fun h => h
  · exact K.sr.more (fun _ h => .inl (.inl h)) fun h => h
  · exact K.so.more (fun _ h => .inl (.inl h)) fun h => h
  · exact (plus_in hF).more (fun _ h => .inl h) fun h => h
  · exact fun r hr => (plus_in (hG r hr)).more (fun _ h => .inr ⟨r, hr, h⟩) fun h => h
  · rintro x ((h1 | ⟨h1, h2⟩) | ⟨r, hr, h1 | ⟨h1, h2⟩⟩)
    · exact .inl h1
    · exact .inr (.inl ⟨h1, h2⟩)
    · exact .inl h1
    · exact .inr (.inr ⟨r, hr, h1, h2⟩)
theorem Wy.ls_ (H : Hid (Wy w0 p S0 w S D h)) (ht : D.t.Ok) {A : Option Addr} {n c : Nat} {qs : List L13.Rc} {l : List (List UInt8 × Bool)} (hn : Hid (qs.length = n)) (hq : Hid (L13.lnR qs = l)) (hS : Hid (L13.LnV w w.heap.size A c qs)) (hF : Fr w0 p S A (qs ≠ [])) (hG : ∀ r ∈ qs, Fr w0 p S r.A (r.bs ≠ [])) :
    ∃ S', Hid (Wy w0 p S0 (w.setCell ⟨p, 26, none⟩ (.slice A n c)) S' { D with ls := l } { h with nA := A, nc := c, qs := qs }) := by
  obtain ⟨S', h1, _⟩ := Wy.lsI H ht hn hq hS hF hG
  exact ⟨S', h1⟩
/-- What a callee made behind the discipline. -/
theorem Wy.fresh {u : World} (H : Hid (Wy w0 p S0 u S D h)) {e : TypeId} {size n c : Nat} {A : Option Addr} {xs : List Value} {ne : Prop} (ho : w.ownsRow u.heap.size e size (.slice A n c) n xs) : Fr w0 p S A ne := fun _ a ha => by
  subst ha
  have h1 := (ho.lt a.block rfl).1
  have h2 := Wy.lt H
  exact ⟨.inr (Nat.le_trans H.out.but.size h1), by omega⟩
theorem used_each (ls : List (List UInt8 × Bool)) : ∀ x ∈ ls, x.1.length ≤ L13.usedL ls := by
  induction ls with
  | nil => intro x hx; cases hx
  | cons y r ih =>
    intro x hx
    simp only [L13.usedL, List.map_cons, List.sum_cons]
    rcases List.mem_cons.1 hx with rfl | hx
    · omega
    · have := ih x hx
      simp only [L13.usedL] at this
      omega
theorem Wy.txt (H : Hid (Wy w0 p S0 w S D h)) {n : Nat} (hf : Hid (FitN n D)) : Hid (∀ r ∈ h.qs, r.bs.length ≤ 140737488351232) := hid fun r hr => by
  have h1 := hf.out.used
  rw [← H.out.at_.lsq] at h1
  have h2 := used_each (L13.lnR h.qs) (r.bs, r.e) (by unfold L13.lnR; exact List.mem_map.2 ⟨r, hr, rfl⟩)
  have h3 : r.bs.length ≤ L13.usedL (L13.lnR h.qs) := h2
  omega
theorem Wy.lsL (H : Hid (Wy w0 p S0 w S D h)) : h.qs.length = D.ls.length := by rw [← H.out.at_.lsq]; simp [L13.lnR]
theorem Wy.lsS (H : Hid (Wy w0 p S0 w S D h)) : Hid (L13.LnV w w.heap.size h.nA h.nc h.qs) := hid H.out.at_.lsv
theorem Fr.none_ {ne : Prop} : Fr w0 p S none ne := fun _ a ha => by cases ha
theorem slb_nil0 (w : World) : Hid (SlB w w.heap.size none 0 []) := hid ⟨Nat.le_refl _, Nat.zero_le _, fun _ => rfl, Lies.nil_⟩
/-- Bytes don't lie in a cell that holds none. -/
theorem slb_setCell {a : Addr} {u : Value} (hu : w.cell? a = some u) (hne : ∀ c : UInt8, u ≠ .int .u8 (c.toNat : Int)) {A : Option Addr} {c : Nat} {l : List UInt8} (hS : Hid (SlB w w.heap.size A c l)) (v : Value) : Hid (SlB (w.setCell a v) (w.setCell a v).heap.size A c l) := by
  refine hid ⟨hS.out.1, hS.out.2.1, hS.out.2.2.1, fun hn => ?_⟩
  obtain ⟨b, o, e, hb, hc⟩ := hS.out.2.2.2 hn
  refine ⟨b, o, e, by simpa [World.setCell] using hb, fun j x hx => ?_⟩
  have h1 := hc j x hx
  rw [World.cell?_setCell_other _ _ _ _ (fun he => ?_)]
  · exact h1
  · rw [← he, hu] at h1
    injection h1 with h1
    have h2 := List.mem_of_getElem? hx
    simp only [bv, List.mem_map] at h2
    obtain ⟨c0, _, h3⟩ := h2
    exact hne c0 (h1.trans h3.symm)
theorem Wy.slbSet (H : Hid (Wy w0 p S0 w S D h)) (ht : D.t.Ok) (j : Nat) {u : Value} (hj : (dRest D h)[j]? = some u) (hne : ∀ c : UInt8, u ≠ .int .u8 (c.toNat : Int)) {A : Option Addr} {c : Nat} {l : List UInt8} (hS : Hid (SlB w w.heap.size A c l)) (v : Value) : Hid (SlB (w.setCell ⟨p, 24 + j, none⟩ v) (w.setCell ⟨p, 24 + j, none⟩ v).heap.size A c l) :=
  slb_setCell (Wy.cellW H ht j hj w (Below.refl _ _)) hne hS v
theorem Wy.slbFlow (H : Hid (Wy w0 p S0 w S D h)) (ht : D.t.Ok) {A : Option Addr} {c : Nat} {l : List UInt8} (hS : Hid (SlB w w.heap.size A c l)) (a b : Bool) : Hid (SlB ((w.setCell ⟨p, 28, none⟩ (.bool a)).setCell ⟨p, 29, none⟩ (.bool b)) ((w.setCell ⟨p, 28, none⟩ (.bool a)).setCell ⟨p, 29, none⟩ (.bool b)).heap.size A c l) :=
  Wy.slbSet (Wy.s_ H ht a) ht 5 rfl (fun _ e => by cases e) (Wy.slbSet H ht 4 rfl (fun _ e => by cases e) hS (.bool a)) (.bool b)
end
end Go.Proofs.Ytggcampdkgfmgaa
namespace Go.Proofs.Ytggcampdkgfmgaa
open Go.RowKit

/-! Layer 16: what is put out, shown, echoed. -/
/-- The discipline's setting is loaded. -/
theorem ldW {ops : Array Oper} {rest : List Oper} {o : Oper} {a : Act} {w : World} {Q : Exit → Act → World → Prop} (hw : Region.wanted o (yielded ops a.tmps) = true) (x : Operand) (ho : o.op = .load 26 x) (p : Nat) (hx : a.eval x = .pointer (some ⟨p, 0, none⟩)) {w0 : World} {S0 S : Nat → Prop} {D : Ds} {h : Ph} (H : Hid (Wy w0 p S0 w S D h)) (ht : D.t.Ok)
    (hk : wpList Try.prog ops Q rest (a.put o.dst (.agg D.t.cs)) w) : wpList Try.prog ops Q (o :: rest) a w :=
  BigFrame.wpList_want hw fun _ hK => by
    obtain ⟨r1, r2⟩ := Wy.tm H ht w (Below.refl _ _)
    obtain ⟨dst, op, ty, pos, after, gd⟩ := o
    obtain rfl : op = .load 26 x := ho
    rw [wp_ldR (by rw [hx]; exact r1), hx, r2]
    exact hK _ _ hk
section
variable {w0 w : World} {p : Nat} {S0 S : Nat → Prop} {D : Ds} {h : Ph}
theorem concat_new (W : World) (g : Nat) (A A2 : Option Addr) (n n2 c c2 : Nat) (xs ys : List UInt8) (hg : Box W g 27 #[.slice A n c, .slice A2 n2 c2]) (hx : Hid (SlB W W.heap.size A c xs)) (hy : Hid (SlB W W.heap.size A2 c2 ys)) (hn : Hid (xs.length = n)) (hn2 : Hid (ys.length = n2)) (hm : n + n2 ≤ 1000000) {zs : List UInt8} (hz : Hid (xs ++ ys = zs)) :
    Calls Try.prog 26 #[.slice (some ⟨g, 0, none⟩) 2 2] W fun e w' => ∃ A3 n3 c3, e = .returned (.slice A3 n3 c3) ∧ Hid (zs.length = n3) ∧ Hid (w'.ownsRow W.heap.size 5 1 (.slice A3 n3 c3) n3 (bv zs)) ∧ Hid (Below W.heap.size W w') := by
  obtain rfl := hn.out
  obtain rfl := hn2.out
  obtain rfl := hz.out
  have hl : LisV W W.heap.size (some ⟨g, 0, none⟩) [xs, ys] := fun _ => by
    refine ⟨g, 0, rfl, hg.lt, fun k hk => ?_⟩
    match k, hk with
    | 0, _ => exact ⟨A, c, (hg.cell 0), hx.out⟩
    | 1, _ => exact ⟨A2, c2, (hg.cell 1), hy.out⟩
  have hf : [xs, ys].flatten = xs ++ ys := by simp
  refine (concat_any W W.heap.size (some ⟨g, 0, none⟩) 2 [xs, ys] hl (Nat.le_refl _) (by show 2 ≤ 1000; decide) (by rw [hf, List.length_append]; omega)).mono ?_
  rw [hf]
  rintro e w' ⟨A3, c3, rfl, ho, hb⟩
  exact ⟨A3, _, c3, rfl, hid rfl, hid ho, hid hb⟩
theorem slb_alloc {w : World} {A : Option Addr} {c : Nat} {l : List UInt8} (hS : Hid (SlB w w.heap.size A c l)) (o : Obj) : Hid (SlB (w.alloc o) (w.alloc o).heap.size A c l) := slb_at hS (hid ((Below.refl _ w).alloc (Nat.le_refl _) o))
attribute [local go_sem ↓] ex_ldR
end
end Go.Proofs.Ytggcampdkgfmgaa
namespace Go.Proofs.Ytggcampdkgfmgaa
open Go.RowKit

/-! Layer 16: the marks. -/
section
variable {w0 w : World} {p : Nat} {S0 S : Nat → Prop} {D : Ds} {h : Ph}
theorem markF_len (t : Tm) (s h : Bool) (u a b : Int) : (L15.markF t s h u a b).2.length ≤ 10 := by
  have h1 : ∀ op, (L15.toldF t op).length ≤ 10 := fun op => by unfold L15.toldF; split <;> simp
  unfold L15.markF
  repeat' split
  all_goals first | exact h1 _ | simp
attribute [local go_sem ↓] ex_ldR
/-! What is thrown away, and what sends a signal. -/
def flushInD (D : Ds) : Ds := { D with line := [], ls := [], raw := [], nx := false }
end
end Go.Proofs.Ytggcampdkgfmgaa
namespace Go.Proofs.Ytggcampdkgfmgaa
open Go.RowKit

/-! Layer 16: what sends a signal, the quote, what is taken off the line. -/
section
variable {w0 w : World} {p : Nat} {S0 S : Nat → Prop} {D : Ds} {h : Ph}
def startD (D : Ds) (c : UInt8) : Ds := echoD (if D.has 38 = true then { D with s := false } else D) (showB (D.has 60) c)
attribute [local go_sem ↓] wp_ldR ex_ldR
def breakD (D : Ds) (c : UInt8) : Ds := startD (if D.has 57 = true then D else { flushInD D with out := [] }) c
def suspD (D : Ds) (c : UInt8) : Ds := startD (if D.has 57 = true then D else flushInD D) c
def quoteD (D : Ds) : Ds := if D.has 60 = true then echoD { D with nx := true } [94, 8] else { D with nx := true }
end
end Go.Proofs.Ytggcampdkgfmgaa
