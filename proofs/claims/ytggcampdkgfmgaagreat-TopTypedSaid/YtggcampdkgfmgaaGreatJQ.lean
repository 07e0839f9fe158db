import Derived.Test.YtggcampdkgfmgaaGreatJP
import Derived.Laws.EntriesVeiled
namespace Go.Proofs.YtggcampdkgfmgaaGreat
open Go.RowKit

/-! Layer 16: characters' ways, gone through until one fits. -/
/-- A way: a character, the flag without which it means nothing, the method, the signal. -/
structure Wa where
  ch : Int
  fl : Int
  m : FuncId
  sg : Int
def Wa.f (r : Wa) (p : Nat) : Value := .func (.func r.m) #[.pointer (some ⟨p, 0, none⟩)] #[]
def Wa.v (r : Wa) (p : Nat) : Array Value := #[.int .i64 r.ch, .int .i64 r.fl, .func (.func r.m) #[.pointer (some ⟨p, 0, none⟩)] #[], .int .i64 r.sg]
def Wa.fits (r : Wa) (t : Tm) (c : UInt8) : Bool := hasN t.f r.fl && L15.isC t r.ch c
theorem sizeWay : (Tryz.prog.info? 173).map (·.size) = some 4 := by kernel_rfl
theorem bx4 {ops : Array Oper} {rest : List Oper} {o : Oper} {a : Act} {w : World} {Q : Exit → Act → World → Prop} (hw : Region.wanted o (yielded ops a.tmps) = true) (x : Operand) (ho : o.op = .box 173 x) (c0 c1 c2 c3 : Value) (hx : a.eval x = .agg #[c0, c1, c2, c3])
    (h : Hid (Box (w.alloc (.cells #[c0, c1, c2, c3] 173)) w.heap.size 173 #[c0, c1, c2, c3]) → wpList Tryz.prog ops Q rest (a.put o.dst (.pointer (some ⟨w.heap.size, 0, none⟩))) (w.alloc (.cells #[c0, c1, c2, c3] 173))) : wpList Tryz.prog ops Q (o :: rest) a w :=
  bxT hw 173 x ho #[c0, c1, c2, c3] hx sizeWay (h (hid (Box.new w _ _)))
attribute [local go_sem ↓] wp_ld26 ex_ld26
attribute [local go_sem] isP_v blkV_v aggV_v
set_option maxRecDepth 100000 in
set_option maxHeartbeats 2000000 in
theorem fits_b (w : World) (t : Tm) (ht : t.Ok) (c : UInt8) (ch fl sg : Int) (f : Value) {b : Bool} (hb : Hid ((hasN t.f fl && L15.isC t ch c) = b)) :
    Calls Tryz.prog 127 #[.agg #[.int .i64 ch, .int .i64 fl, f, .int .i64 sg], .agg t.cs, .int .u8 (c.toNat : Int)] w fun e w' => e = .returned (.bool b) ∧ Hid (Below w.heap.size w w') := by
  have hs := cs_size ht.len
  have hl := ht.len
  have K1 : Below w.heap.size w ((w.alloc (.cells #[.int .i64 ch, .int .i64 fl, f, .int .i64 sg] 173)).alloc (.cells t.cs 26)) := ((Below.refl _ w).alloc (Nat.le_refl _) _).alloc (by simp) _
  have B1 : Hid (Box ((w.alloc (.cells #[.int .i64 ch, .int .i64 fl, f, .int .i64 sg] 173)).alloc (.cells t.cs 26)) w.heap.size 173 #[.int .i64 ch, .int .i64 fl, f, .int .i64 sg]) := hid (box_al (Box.new w _ _))
  have B2 : Hid (Box ((w.alloc (.cells #[.int .i64 ch, .int .i64 fl, f, .int .i64 sg] 173)).alloc (.cells t.cs 26)) (w.heap.size + 1) 26 t.cs) := hid (box_nw (by simp))
  replace K1 := hid K1
  cases h1 : hasN t.f fl
  · have e : b = false := by rw [← hb.out, h1]; rfl
    subst e
    go_enter Tryz.func127, Tryz.ntmps127
    go_wp2_with (first
      | (refine bx4 (by rfl) _ (by rfl) _ _ _ _ (by rfl) ?_
         intro G0
         have d1 := G0.out.cell 1)
      | (refine bx26 (by rfl) _ (by rfl) _ (by rfl) hs ?_
         intro G1)
      | (refine ld26 (by rfl) _ (by rfl) _ (by rfl) t.cs B2.out hs ?_)
      | (go_at_call 28
         (with_reducible refine (has_b _ ht h1).mono ?_)
         rintro e v1 ⟨rfl, k1⟩))
    go_ret
    exact ⟨rfl, bel_t K1 k1.out⟩
  · have e : L15.isC t ch c = b := by rw [← hb.out, h1]; rfl
    go_enter Tryz.func127, Tryz.ntmps127
    go_wp2_with (first
      | (refine bx4 (by rfl) _ (by rfl) _ _ _ _ (by rfl) ?_
         intro G0
         have d1 := G0.out.cell 1)
      | (refine bx26 (by rfl) _ (by rfl) _ (by rfl) hs ?_
         intro G1)
      | (refine ld26 (by rfl) _ (by rfl) _ (by rfl) t.cs B2.out hs ?_)
      | (go_at_call 28
         (with_reducible refine (has_b _ ht h1).mono ?_)
         rintro e v1 ⟨rfl, k1⟩
         have B3 := hid (box_below B2.out k1.out)
         have B4 := hid (box_below B1.out k1.out)
         have d0 := B4.out.cell 0)
      | (refine ld26 (by rfl) _ (by rfl) _ (by rfl) t.cs B3.out hs ?_)
      | (go_at_call 18
         (with_reducible refine (L15.isp_b _ t ht ch c e).mono ?_)
         rintro e v2 ⟨rfl, k2⟩))
    go_ret
    exact ⟨rfl, bel_t (bel_t K1 k1.out) k2.out⟩
/-- The first of some ways that fits. -/
def firstW (t : Tm) (c : UInt8) (rs : List Wa) : Option Wa := rs.find? fun r => r.fits t c
def WaAt (p : Nat) (cs : Array Value) (rs : List Wa) : Prop := ∀ (k : Nat) (r : Wa), rs[k]? = some r → cs[4 * k]? = some (.int .i64 r.ch) ∧ cs[4 * k + 1]? = some (.int .i64 r.fl) ∧ cs[4 * k + 2]? = some (.func (.func r.m) #[.pointer (some ⟨p, 0, none⟩)] #[]) ∧ cs[4 * k + 3]? = some (.int .i64 r.sg)
def zeroWa : Array Value := #[.int .i64 0, .int .i64 0, .nilFunc, .int .i64 0]
def waV (p : Nat) : Option Wa → Value
  | some r => .tuple #[.agg (r.v p), .bool true]
  | none => .tuple #[.agg zeroWa, .bool false]
theorem firstW_at {t : Tm} {c : UInt8} {rs : List Wa} {k : Nat} {r : Wa} (hr : rs[k]? = some r) (hno : ∀ j, j < k → ∀ q, rs[j]? = some q → q.fits t c = false) (hf : r.fits t c = true) : firstW t c rs = some r := by
  unfold firstW
  rw [List.find?_eq_some_iff_getElem]
  obtain ⟨hk, rfl⟩ := List.getElem?_eq_some_iff.1 hr
  refine ⟨hf, k, hk, rfl, fun j hj => ?_⟩
  have := hno j hj rs[j] (List.getElem?_eq_getElem (by omega))
  simp [this]
theorem firstW_no {t : Tm} {c : UInt8} {rs : List Wa} (hno : ∀ j, j < rs.length → ∀ q, rs[j]? = some q → q.fits t c = false) : firstW t c rs = none := by
  unfold firstW
  rw [List.find?_eq_none]
  intro x hx
  obtain ⟨j, hj, rfl⟩ := List.getElem_of_mem hx
  simp [hno j hj rs[j] (List.getElem?_eq_getElem hj)]
theorem st4_bel {w W : World} (h : Below w.heap.size w W) (a b c d : Value) : Below w.heap.size w ((((W.setCell ⟨w.heap.size + 1, 0, none⟩ a).setCell ⟨w.heap.size + 1, 1, none⟩ b).setCell ⟨w.heap.size + 1, 2, none⟩ c).setCell ⟨w.heap.size + 1, 3, none⟩ d) :=
  (((h.trans ((Turn.setCell _ (w.heap.size + 1) 0 _).below (by omega))).trans ((Turn.setCell _ (w.heap.size + 1) 1 _).below (by omega))).trans ((Turn.setCell _ (w.heap.size + 1) 2 _).below (by omega))).trans ((Turn.setCell _ (w.heap.size + 1) 3 _).below (by omega))
set_option maxRecDepth 100000 in
set_option maxHeartbeats 4000000 in
theorem first_b (w : World) (t : Tm) (ht : t.Ok) (c : UInt8) (g p : Nat) (cs : Array Value) (rs : List Wa) (n : Nat) (hb : Hid (Box w g 173 cs)) (hc : Hid (WaAt p cs rs)) (hn : Hid (rs.length = n)) (hm : n ≤ 20) {x : Option Wa} (hx : Hid (firstW t c rs = x)) :
    Calls Tryz.prog 99 #[.slice (some ⟨g, 0, none⟩) n n, .agg t.cs, .int .u8 (c.toNat : Int)] w fun e w' => e = .returned (waV p x) ∧ Hid (Below w.heap.size w w') := by
  have hs := cs_size ht.len
  have hl := ht.len
  have K1 : Hid (Below w.heap.size w ((w.alloc (.cells t.cs 26)).alloc (.cells zeroWa 173))) := hid (((Below.refl _ w).alloc (Nat.le_refl _) _).alloc (by simp) _)
  have B1 : Hid (Box ((w.alloc (.cells t.cs 26)).alloc (.cells zeroWa 173)) w.heap.size 26 t.cs) := hid (box_al (Box.new w _ _))
  have B2 : Hid (Box ((w.alloc (.cells t.cs 26)).alloc (.cells zeroWa 173)) (w.heap.size + 1) 173 zeroWa) := hid (box_nw (by simp))
  go_enter Tryz.func99, Tryz.ntmps99
  go_wp2_with (first
    | (refine bx26 (by rfl) _ (by rfl) _ (by rfl) hs ?_
       intro G1))
  go_loopw [12] (fun i wr => ∃ k : Nat, k ≤ n ∧ i = .int .i64 k ∧ Hid (∀ j, j < k → ∀ q, rs[j]? = some q → q.fits t c = false) ∧ Hid (Box wr w.heap.size 26 t.cs) ∧ Hid (Box wr (w.heap.size + 1) 173 zeroWa) ∧ Hid (Below w.heap.size w wr)) (fun i _ => n - (intOf i).toNat)
  case atStart => exact ⟨0, Nat.zero_le _, rfl, hid (fun j hj => absurd hj (Nat.not_lt_zero _)), B1, B2, K1⟩
  case round =>
    obtain ⟨k, hk, rfl, HN, X1, X2, HB⟩ := hrel
    by_cases hlt : k < n
    · obtain ⟨r, hr⟩ : ∃ r, Hid (rs[k]? = some r) := ⟨rs[k]'(by rw [hn.out]; exact hlt), hid (List.getElem?_eq_getElem _)⟩
      obtain ⟨e0, e1, e2, e3⟩ := hc.out k r hr.out
      obtain ⟨ch, hch⟩ : ∃ x, Hid (r.ch = x) := ⟨_, hid rfl⟩
      obtain ⟨fl, hfl⟩ : ∃ x, Hid (r.fl = x) := ⟨_, hid rfl⟩
      obtain ⟨f, hff⟩ : ∃ x, Hid (r.m = x) := ⟨_, hid rfl⟩
      obtain ⟨sg, hsg⟩ : ∃ x, Hid (r.sg = x) := ⟨_, hid rfl⟩
      rw [hch.out] at e0
      rw [hfl.out] at e1
      rw [hff.out] at e2
      rw [hsg.out] at e3
      have Bg := box_below hb.out HB.out
      have d0 : wr.cell? ⟨g, k * 4, none⟩ = some (.int .i64 ch) := by rw [Nat.mul_comm]; exact (Bg.cell _).trans e0
      have d1 : wr.cell? ⟨g, k * 4 + 1, none⟩ = some (.int .i64 fl) := by rw [Nat.mul_comm]; exact (Bg.cell _).trans e1
      have d2 : wr.cell? ⟨g, k * 4 + 2, none⟩ = some (.func (.func f) #[.pointer (some ⟨p, 0, none⟩)] #[]) := by rw [Nat.mul_comm]; exact (Bg.cell _).trans e2
      have d3 : wr.cell? ⟨g, k * 4 + 3, none⟩ = some (.int .i64 sg) := by rw [Nat.mul_comm]; exact (Bg.cell _).trans e3
      have hrw : r = ⟨ch, fl, f, sg⟩ := by rw [← hch.out, ← hfl.out, ← hff.out, ← hsg.out]
      replace hrw := hid hrw
      clear e0 e1 e2 e3 Bg hch hfl hff hsg
      have X1a : Hid (Box (wr.alloc (.cells #[.int .i64 ch, .int .i64 fl, .func (.func f) #[.pointer (some ⟨p, 0, none⟩)] #[], .int .i64 sg] 173)) w.heap.size 26 t.cs) := hid (box_al X1.out)
      have X2a : Hid (Box (wr.alloc (.cells #[.int .i64 ch, .int .i64 fl, .func (.func f) #[.pointer (some ⟨p, 0, none⟩)] #[], .int .i64 sg] 173)) (w.heap.size + 1) 173 zeroWa) := hid (box_al X2.out)
      have X3a : Hid (Box (wr.alloc (.cells #[.int .i64 ch, .int .i64 fl, .func (.func f) #[.pointer (some ⟨p, 0, none⟩)] #[], .int .i64 sg] 173)) wr.heap.size 173 #[.int .i64 ch, .int .i64 fl, .func (.func f) #[.pointer (some ⟨p, 0, none⟩)] #[], .int .i64 sg]) := hid (Box.new wr _ _)
      have K3 : Hid (Below w.heap.size w (wr.alloc (.cells #[.int .i64 ch, .int .i64 fl, .func (.func f) #[.pointer (some ⟨p, 0, none⟩)] #[], .int .i64 sg] 173))) := hid (HB.out.alloc HB.out.size _)
      cases hft : (hasN t.f fl && L15.isC t ch c)
      · have HF := hid hft
        clear hft
        go_wp2_with (first
          | (refine ld26 (by rfl) _ (by rfl) _ (by rfl) t.cs X1a.out hs ?_)
          | (go_at_call 127
             (with_reducible refine (fits_b _ t ht c ch fl sg _ HF).mono ?_)
             rintro e v1 ⟨rfl, k1⟩))
        go_roundw
        case rel => exact ⟨k + 1, by omega, by go_num, hid (fun j hj q hq => by
          rcases Nat.lt_succ_iff_lt_or_eq.1 hj with h1 | rfl
          · exact HN.out j h1 q hq
          · rw [hr.out] at hq
            injection hq with hq
            subst hq
            rw [hrw.out]
            exact HF.out), hid (box_below X1a.out k1.out), hid (box_below X2a.out k1.out), bel_t K3 k1.out⟩
        case measure => simp [intOf] <;> omega
      · have HF := hid hft
        clear hft
        have hfx : firstW t c rs = some ⟨ch, fl, f, sg⟩ := by rw [← hrw.out]; exact firstW_at hr.out HN.out (by rw [hrw.out]; exact HF.out)
        obtain rfl : some ⟨ch, fl, f, sg⟩ = x := hfx.symm.trans hx.out
        clear hfx
        go_wp2_with (first
          | (refine ld26 (by rfl) _ (by rfl) _ (by rfl) t.cs X1a.out hs ?_)
          | (go_at_call 127
             (with_reducible refine (fits_b _ t ht c ch fl sg _ HF).mono ?_)
             rintro e v1 ⟨rfl, k1⟩
             have X2b := box_below X2a.out k1.out
             have X3b := box_below X3a.out k1.out
             have X1b := hid (box_below X1a.out k1.out)
             have y0 := X3b.cell 0
             have y1 := X3b.cell 1
             have y2 := X3b.cell 2
             have y3 := X3b.cell 3
             have u0 : World.cell? v1 ⟨w.heap.size + 1, 0, none⟩ = some (.int .i64 0) := X2b.cell 0
             have u1 : World.cell? v1 ⟨w.heap.size + 1, 1, none⟩ = some (.int .i64 0) := X2b.cell 1
             have u2 : World.cell? v1 ⟨w.heap.size + 1, 2, none⟩ = some (.nilFunc) := X2b.cell 2
             have u3 : World.cell? v1 ⟨w.heap.size + 1, 3, none⟩ = some (.int .i64 0) := X2b.cell 3
             have f0 := X2b.frozen 0
             have f1 := X2b.frozen 1
             have f2 := X2b.frozen 2
             have f3 := X2b.frozen 3
             replace X2b := hid X2b
             clear X3b))
        have X5 : Hid (Box ((((v1.setCell ⟨w.heap.size + 1, 0, none⟩ (.int .i64 ch)).setCell ⟨w.heap.size + 1, 1, none⟩ (.int .i64 fl)).setCell ⟨w.heap.size + 1, 2, none⟩ (.func (.func f) #[.pointer (some ⟨p, 0, none⟩)] #[])).setCell ⟨w.heap.size + 1, 3, none⟩ (.int .i64 sg)) (w.heap.size + 1) 173 #[.int .i64 ch, .int .i64 fl, .func (.func f) #[.pointer (some ⟨p, 0, none⟩)] #[], .int .i64 sg]) := hid (by simpa [zeroWa] using (((X2b.out.store 0 (.int .i64 ch)).store 1 (.int .i64 fl)).store 2 (.func (.func f) #[.pointer (some ⟨p, 0, none⟩)] #[])).store 3 (.int .i64 sg))
        have K5 : Hid (Below w.heap.size w ((((v1.setCell ⟨w.heap.size + 1, 0, none⟩ (.int .i64 ch)).setCell ⟨w.heap.size + 1, 1, none⟩ (.int .i64 fl)).setCell ⟨w.heap.size + 1, 2, none⟩ (.func (.func f) #[.pointer (some ⟨p, 0, none⟩)] #[])).setCell ⟨w.heap.size + 1, 3, none⟩ (.int .i64 sg))) := hid (st4_bel (bel_t K3 k1.out).out _ _ _ _)
        have R0 := X5.out.cell 0
        have R1 := X5.out.cell 1
        have R2 := X5.out.cell 2
        have R3 := X5.out.cell 3
        generalize World.setCell _ _ _ = v5 at K5 R0 R1 R2 R3 ⊢
        refine bodyPost_ret (v := waV p (some ⟨ch, fl, f, sg⟩)) (by simp [results, Tryz.results99, R0, R1, R2, R3, go_sem, waV, Wa.v]) rfl ?_
        exact ⟨rfl, K5⟩
    · have hkn : k = n := by omega
      subst hkn
      have hfx : firstW t c rs = none := firstW_no (by rw [hn.out]; exact HN.out)
      obtain rfl : none = x := hfx.symm.trans hx.out
      clear hfx
      have X2b := X2
      have u0 : World.cell? wr ⟨w.heap.size + 1, 0, none⟩ = some (.int .i64 0) := X2.out.cell 0
      have u1 : World.cell? wr ⟨w.heap.size + 1, 1, none⟩ = some (.int .i64 0) := X2.out.cell 1
      have u2 : World.cell? wr ⟨w.heap.size + 1, 2, none⟩ = some (.nilFunc) := X2.out.cell 2
      have u3 : World.cell? wr ⟨w.heap.size + 1, 3, none⟩ = some (.int .i64 0) := X2.out.cell 3
      have f0 := X2.out.frozen 0
      have f1 := X2.out.frozen 1
      have f2 := X2.out.frozen 2
      have f3 := X2.out.frozen 3
      go_wp2_with fail
      have X5 : Hid (Box ((((wr.setCell ⟨w.heap.size + 1, 0, none⟩ (.int .i64 0)).setCell ⟨w.heap.size + 1, 1, none⟩ (.int .i64 0)).setCell ⟨w.heap.size + 1, 2, none⟩ (.nilFunc)).setCell ⟨w.heap.size + 1, 3, none⟩ (.int .i64 0)) (w.heap.size + 1) 173 #[.int .i64 0, .int .i64 0, .nilFunc, .int .i64 0]) := hid (by simpa [zeroWa] using (((X2b.out.store 0 (.int .i64 0)).store 1 (.int .i64 0)).store 2 (.nilFunc)).store 3 (.int .i64 0))
      have K5 : Hid (Below w.heap.size w ((((wr.setCell ⟨w.heap.size + 1, 0, none⟩ (.int .i64 0)).setCell ⟨w.heap.size + 1, 1, none⟩ (.int .i64 0)).setCell ⟨w.heap.size + 1, 2, none⟩ (.nilFunc)).setCell ⟨w.heap.size + 1, 3, none⟩ (.int .i64 0))) := hid (st4_bel HB.out _ _ _ _)
      have R0 := X5.out.cell 0
      have R1 := X5.out.cell 1
      have R2 := X5.out.cell 2
      have R3 := X5.out.cell 3
      generalize World.setCell _ _ _ = v5 at K5 R0 R1 R2 R3 ⊢
      refine bodyPost_ret (v := waV p none) (by simp [results, Tryz.results99, R0, R1, R2, R3, go_sem, waV, zeroWa]) rfl ?_
      exact ⟨rfl, K5⟩
end Go.Proofs.YtggcampdkgfmgaaGreat
namespace Go.Proofs.YtggcampdkgfmgaaGreat
open Go.RowKit

/-! Layer 16: the ways of the signals' characters, and of the line's. -/
def sigW : List Wa := [⟨1, 50, 128, 2⟩, ⟨2, 50, 128, 3⟩, ⟨10, 50, 129, 20⟩]
def lineW : List Wa := [⟨14, 59, 160, 0⟩, ⟨3, 51, 161, 0⟩, ⟨13, 59, 162, 0⟩, ⟨4, 51, 163, 0⟩, ⟨12, 59, 164, 0⟩, ⟨5, 51, 165, 0⟩, ⟨6, 51, 132, 0⟩, ⟨7, 59, 132, 0⟩]
def wasC (p : Nat) (rs : List Wa) : Array Value := ((rs.map fun r => (r.v p).toList).flatten).toArray
def RetW (w : World) (p : Nat) (rs : List Wa) (n : Nat) (e : Ending) (w' : World) : Prop := ∃ g cs, e = .returned (.slice (some ⟨g, 0, none⟩) n n) ∧ Hid (Box w' g 173 cs) ∧ Hid (WaAt p cs rs) ∧ Hid (Below w.heap.size w w')
theorem waAt_of {p : Nat} (rs : List Wa) : WaAt p (wasC p rs) rs := by
  intro k r hr
  induction rs generalizing k with
  | nil => simp at hr
  | cons x rest ih =>
    have e : wasC p (x :: rest) = #[.int .i64 x.ch, .int .i64 x.fl, .func (.func x.m) #[.pointer (some ⟨p, 0, none⟩)] #[], .int .i64 x.sg] ++ wasC p rest := by simp [wasC, Wa.v]
    cases k with
    | zero =>
      simp at hr
      subst hr
      rw [e]
      refine ⟨?_, ?_, ?_, ?_⟩ <;> (rw [Array.getElem?_append_left (by simp)]; rfl)
    | succ k =>
      have := ih k (by simpa using hr)
      rw [e]
      rw [Array.getElem?_append_right (by simp; omega), Array.getElem?_append_right (by simp; omega), Array.getElem?_append_right (by simp; omega), Array.getElem?_append_right (by simp; omega)]
      simpa [show 4 * (k + 1) - 4 = 4 * k by omega, show 4 * (k + 1) + 1 - 4 = 4 * k + 1 by omega, show 4 * (k + 1) + 2 - 4 = 4 * k + 2 by omega, show 4 * (k + 1) + 3 - 4 = 4 * k + 3 by omega] using this
set_option maxRecDepth 100000 in
set_option maxHeartbeats 2000000 in
theorem signalWays_b (w : World) (p : Nat) : Calls Tryz.prog 100 #[.pointer (some ⟨p, 0, none⟩)] w (RetW w p sigW 3) := by
  go_enter Tryz.func100, Tryz.ntmps100
  go_wp2_with fail
  go_ret
  exact ⟨w.heap.size, wasC p sigW, rfl, hid (Box.new w _ _), hid (waAt_of sigW), hid ((Below.refl _ w).alloc (Nat.le_refl _) _)⟩
set_option maxRecDepth 100000 in
set_option maxHeartbeats 4000000 in
theorem lineWays_b (w : World) (p : Nat) : Calls Tryz.prog 131 #[.pointer (some ⟨p, 0, none⟩)] w (RetW w p lineW 8) := by
  go_enter Tryz.func131, Tryz.ntmps131
  go_wp2_with fail
  go_ret
  exact ⟨w.heap.size, wasC p lineW, rfl, hid (Box.new w _ _), hid (waAt_of lineW), hid ((Below.refl _ w).alloc (Nat.le_refl _) _)⟩
end Go.Proofs.YtggcampdkgfmgaaGreat
