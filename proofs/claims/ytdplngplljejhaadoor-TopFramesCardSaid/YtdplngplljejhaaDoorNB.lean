import Derived.Test.YtdplngplljejhaaDoorXA
import Derived.Test.YtdplngplljejhaaDoorMB
import Derived.BigQuiet
import Derived.Deep.QuietTactic
import Derived.StillTailTactics
namespace Go.Proofs.YtdplngplljejhaaDoor
open Go.RowKit

theorem own_caps {w : World} {base : Nat} {e : TypeId} {size n c : Nat} {A : Option Addr} {xs : List Value} (h : w.ownsRow base e size (.slice A n c) n xs) : n ≤ c ∧ c ≤ maxLen := by
  rcases h.2 with ⟨hv, h0⟩ | ⟨g, cap, cur, hv, _, _, h1, h2, _⟩
  · injection hv with _ _ hc
    subst hc; subst h0
    exact ⟨Nat.le_refl _, Nat.zero_le _⟩
  · injection hv with _ _ hc
    subst hc
    exact ⟨h1, h2⟩
theorem lit_cell (W : World) (cs : Array Value) (t : TypeId) (fr : Nat × Nat) (g i : Nat) (hg : g = W.heap.size) : (W.alloc (.cells cs t fr)).cell? ⟨g, i, none⟩ = cs[i]? := by
  subst hg
  exact cell_of_row _ _ i cs t fr (heap_alloc_new W _)
theorem lit_lies (W : World) (cs : Array Value) (t : TypeId) (fr : Nat × Nat) (g : Nat) (hg : g = W.heap.size) : Lies (W.alloc (.cells cs t fr)) (g + 1) (some ⟨g, 0, none⟩) cs.toList := fun _ =>
  ⟨g, 0, rfl, by simp, fun j u hu => by rw [Nat.zero_add, lit_cell W cs t fr g j hg]; simpa using hu⟩
theorem Lies.alloc {w : World} {B : Nat} {A : Option Addr} {cs : List Value} (h : Lies w B A cs) (hB : B ≤ w.heap.size) (o : Obj) : Lies (w.alloc o) B A cs := h.below ((Below.refl _ _).alloc hB o)
theorem bel_drewN {B : Nat} {a w : World} (h : Below B a w) (n : Nat) : Below B a (w.drewN n) := ⟨h.os, h.tape, h.output, h.size, h.block⟩
theorem bel_trans {a b c : World} (h : Hid (Below a.heap.size a b)) (k : Hid (Below b.heap.size b c)) : Hid (Below a.heap.size a c) := h.out.trans (k.out.mono h.out.size)
theorem lies_bel {w w2 : World} {A : Option Addr} {cs : List Value} (h : Hid (Lies w w.heap.size A cs)) (hb : Hid (Below w.heap.size w w2)) : Hid (Lies w2 w2.heap.size A cs) := (h.out.below hb.out).more hb.out.size
theorem slb_at {w w2 : World} {A : Option Addr} {c : Nat} {bs : List UInt8} (h : Hid (SlB w w.heap.size A c bs)) (hb : Hid (Below w.heap.size w w2)) : Hid (SlB w2 w2.heap.size A c bs) :=
  ⟨h.out.1, h.out.2.1, h.out.2.2.1, (lies_bel (A := A) h.out.2.2.2 hb).out⟩
theorem own_slb {w : World} {base n c : Nat} {A : Option Addr} {bs : List UInt8} (h : w.ownsRow base 5 1 (.slice A bs.length c) bs.length (bv bs)) : SlB w w.heap.size A c bs := by
  have hc := own_caps h
  refine ⟨hc.1, hc.2, ?_, Lies.own h⟩
  rintro rfl
  rcases h.2 with ⟨hv, _⟩ | ⟨g, cap, cur, hv, _⟩
  · injection hv
  · injection hv with hv
    cases hv
theorem own_keep {w w' : World} {base : Nat} {e : TypeId} {size n : Nat} {v : Value} {xs : List Value} (h : w.ownsRow base e size v n xs) (hb : Below w.heap.size w w') : w'.ownsRow base e size v n xs :=
  (Kept.of_below hb 0 []).own h (by simp)
theorem lit_own {w : World} {base : Nat} {e : TypeId} {size g : Nat} (hb : base ≤ w.heap.size) (hg : g = w.heap.size) : (w.alloc (.cells #[] e)).ownsRow base e size (.slice (some ⟨g, 0, none⟩) 0 0) 0 [] := by
  subst hg
  exact World.ownsRow_lit w #[] 0 hb (Nat.zero_le _) (by simp)
/-- An append to an empty literal has turned nothing that was there. -/
theorem lit_grown {w w' : World} {e : TypeId} {g : Nat} (hg : g = w.heap.size) (h : (w.alloc (.cells #[] e)).grownBy w' (Value.slice (some ⟨g, 0, none⟩) 0 0).ownBlock) : Below w.heap.size w w' := by
  subst hg
  refine ⟨h.os, h.tape, h.output, Nat.le_trans (by simp) h.size, fun b hb => ?_⟩
  rw [h.block b (by simp; omega) (by simp [Value.ownBlock]; omega)]
  exact Below.heap_alloc _ _ _ hb
theorem box_below {w w' : World} {g : Nat} {t : TypeId} {cs : Array Value} (h : Box w g t cs) (hb : Below w.heap.size w w') : Box w' g t cs := h.same (hb.block _ h.lt)
theorem box_st {w : World} {g : Nat} {t : TypeId} {cs : Array Value} (h : Box w g t cs) (i : Nat) (u : Value) (o : Obj) : Box ((w.setCell ⟨g, i, none⟩ u).alloc o) g t (cs.setIfInBounds i u) :=
  box_below (h.store i u) ((Below.refl _ _).alloc (Nat.le_refl _) _)
theorem kept_st {w : World} {g : Nat} {t : TypeId} {cs : Array Value} (h : Box w g t cs) (B i : Nat) (hB : B ≤ g) (u : Value) (o : Obj) : Kept B [t] w ((w.setCell ⟨g, i, none⟩ u).alloc o) :=
  ((Kept.refl B [t] w).store h hB (by simp) u).alloc o
theorem Lies.drewN {w : World} {B : Nat} {A : Option Addr} {cs : List Value} (h : Lies w B A cs) (n : Nat) : Lies (w.drewN n) B A cs := h
/-- Nothing but draws. -/
def Quiet (w w' : World) : Prop := ∃ n, w' = w.drewN n
theorem Quiet.refl (w : World) : Quiet w w := ⟨0, rfl⟩
theorem quiet2 (w : World) (a b : Nat) : Quiet w ((w.drewN a).drewN b) := ⟨a + b, World.drewN_drewN w a b⟩
theorem list_ne {α : Type} {a b : List α} (k : Nat) (ha : k < a.length) (hb : k < b.length) (h : a[k] ≠ b[k]) : a ≠ b := by
  rintro rfl
  exact h rfl
def AllU8 (xs : List Value) : Prop := ∀ j (h : j < xs.length), ∃ z : Int, xs[j] = .int .u8 z
theorem allu8_bv (bs : List UInt8) : AllU8 (bv bs) := fun j h => ⟨((bs[j]'(by simpa [bv] using h)).toNat : Int), by simp [bv]⟩
theorem allu8_set {xs : List Value} (h : AllU8 xs) (k : Nat) (z : Int) : AllU8 (xs.set k (.int .u8 z)) := fun j hj => by
  rw [List.getElem_set]
  split
  · exact ⟨_, rfl⟩
  · exact h j (by simpa using hj)
set_option maxHeartbeats 1000000 in
set_option maxRecDepth 100000 in
theorem bytes_any (w : World) (B B2 : Nat) (A A2 : Option Addr) (c c2 : Nat) (xs ys : List UInt8) (hx : Lies w B A (bv xs)) (hy : Lies w B2 A2 (bv ys)) (hl : xs.length ≤ maxLen) (hl2 : ys.length ≤ maxLen) :
    Calls Tryd.prog 9 #[.slice A xs.length c, .slice A2 ys.length c2] w fun e w' => e = .returned (.bool (decide (xs = ys))) ∧ Quiet w w' := by
  unfold maxLen at hl hl2
  have HX := hid hx
  have HY := hid hy
  clear hx hy
  by_cases hlen : xs.length = ys.length
  · have ht : ((xs.length : Int) == ys.length) = true := by simp [hlen]
    have ht2 : ((xs.length : Int) != ys.length) = false := by simp [hlen]
    have HL := hid hlen
    clear hlen
    go_enter Tryd.func9, Tryd.ntmps9
    go_wp2
    go_loopw [13] (fun i wr => ∃ k d : Nat, k ≤ xs.length ∧ i = .int .i64 k ∧ wr = w.drewN d ∧ Hid (xs.take k = ys.take k)) (fun i _ => xs.length - (intOf i).toNat)
    case atStart => exact ⟨0, 0, Nat.zero_le _, rfl, rfl, rfl⟩
    case round =>
      obtain ⟨k, d, hk, rfl, rfl, HT⟩ := hrel
      by_cases hlt : k < xs.length
      · have hlt2 : k < ys.length := by have := HL.out; omega
        obtain ⟨b, o, rfl, _, hc1⟩ := HX.out (by intro e; have := congrArg List.length e; simp [bv] at this; subst this; simp at hlt)
        obtain ⟨b2, o2, rfl, _, hc2⟩ := HY.out (by intro e; have := congrArg List.length e; simp [bv] at this; subst this; simp at hlt2)
        have c1 : w.cell? ⟨b, o + k, none⟩ = some (.int .u8 xs[k].toNat) := hc1 k _ (by simp [bv, hlt])
        have c2 : w.cell? ⟨b2, o2 + k, none⟩ = some (.int .u8 ys[k].toNat) := hc2 k _ (by simp [bv, hlt2])
        clear hc1 hc2
        have hi1 : (k : Int) < xs.length := by omega
        have hi2 : (k : Int) < ys.length := by omega
        by_cases he : xs[k] = ys[k]
        · have t1 : ((xs[k].toNat : Int) == ys[k].toNat) = true := by simp [he]
          have t2 : ((xs[k].toNat : Int) != ys[k].toNat) = false := by simp [he]
          have HS : Hid (xs.take (k + 1) = ys.take (k + 1)) := by
            show _ = _
            rw [take_snoc _ _ hlt, take_snoc _ _ hlt2, HT.out, he]
          clear he
          go_wp2
          go_quiet (fail)
          go_wp2
          go_roundw
          case rel => exact ⟨k + 1, _, by omega, by go_num, rfl, HS.out⟩
          case measure => simp [intOf]; omega
        · have hne : xs[k].toNat ≠ ys[k].toNat := fun h => he (UInt8.toNat_inj.1 h)
          have t1 : ((xs[k].toNat : Int) == ys[k].toNat) = false := by simp; omega
          have t2 : ((xs[k].toNat : Int) != ys[k].toNat) = true := by simp; omega
          have hF : Hid (decide (xs = ys) = false) := by
            show _ = _
            simp
            exact list_ne k hlt hlt2 he
          clear he hne
          go_wp2
          go_quiet (fail)
          go_wp2
          go_ret
          rw [hF.out]
          exact ⟨rfl, quiet2 _ _ _⟩
      · have hF : Hid (decide (xs = ys) = true) := by
          show _ = _
          have h := HT.out
          rw [List.take_of_length_le (by omega), List.take_of_length_le (by have := HL.out; omega)] at h
          simp [h]
        go_wp2
        go_ret
        rw [hF.out]
        exact ⟨rfl, _, rfl⟩
  · have hF : Hid (decide (xs = ys) = false) := by
      show _ = _
      simp
      intro e
      exact hlen (by rw [e])
    have ht : ((xs.length : Int) == ys.length) = false := by simp; omega
    have ht2 : ((xs.length : Int) != ys.length) = true := by simp; omega
    clear hlen
    go_enter Tryd.func9, Tryd.ntmps9
    go_wp2
    go_ret
    rw [hF.out]
    exact ⟨rfl, Quiet.refl _⟩
/-- What a read answered lies as a slice of fields. -/
theorem flat_at {w : World} {base : Nat} : ∀ (fs : List Fd) (cs : List Value), FlatF w base fs cs → ∀ k (h : k < fs.length), ∃ tA tc lA lc, cs[k * 4]? = some (.int .i64 fs[k].kind) ∧ cs[k * 4 + 1]? = some (.int .u32 fs[k].n) ∧
    cs[k * 4 + 2]? = some (.slice tA fs[k].text.length tc) ∧ cs[k * 4 + 3]? = some (.slice lA fs[k].list.length lc) ∧ w.ownsRow base 5 1 (.slice tA fs[k].text.length tc) fs[k].text.length (bv fs[k].text) ∧ w.ownsRow base 9 1 (.slice lA fs[k].list.length lc) fs[k].list.length (sv fs[k].list)
  | [], _, _, k, h => by simp at h
  | f :: fs, _, ⟨tA, tc, lA, lc, r, e, h1, h2, h3⟩, k, h => by
    subst e
    cases k with
    | zero => exact ⟨tA, tc, lA, lc, rfl, rfl, rfl, rfl, h1, h2⟩
    | succ k =>
      obtain ⟨a, b, c, d, g0, g1, g2, g3, g4, g5⟩ := flat_at fs r h3 k (by simpa using h)
      refine ⟨a, b, c, d, ?_, ?_, ?_, ?_, g4, g5⟩
      · simpa [Nat.add_mul] using g0
      · simpa [Nat.add_mul, Nat.add_right_comm] using g1
      · simpa [Nat.add_mul, Nat.add_right_comm] using g2
      · simpa [Nat.add_mul, Nat.add_right_comm] using g3
def Wf (f : Fd) : Prop := f.n < 4294967296 ∧ (-9223372036854775808 ≤ f.kind ∧ f.kind ≤ 9223372036854775807) ∧ ∀ s ∈ f.list, s.size ≤ maxLen
theorem flat_fds {w : World} {base c : Nat} {A : Option Addr} {fs : List Fd} {cs : List Value} (ho : w.ownsRow base 80 4 (.slice A fs.length c) fs.length cs) (hf : FlatF w base fs cs) (hw : ∀ f ∈ fs, Wf f) : FdsV w w.heap.size A fs := by
  intro hne
  have hl := hf.length
  have h0 : cs ≠ [] := by
    intro e
    rw [e] at hl
    have : fs.length ≠ 0 := fun h => hne (List.eq_nil_of_length_eq_zero h)
    simp at hl; omega
  obtain ⟨b, o, rfl, hb, hc⟩ := Lies.own ho h0
  refine ⟨b, o, rfl, hb, fun k hk => ?_⟩
  obtain ⟨tA, tc, lA, lc, g0, g1, g2, g3, g4, g5⟩ := flat_at fs cs hf k hk
  obtain ⟨w1, w2, w3⟩ := hw fs[k] (List.getElem_mem hk)
  have t := own_caps g4
  have l := own_caps g5
  refine ⟨tA, tc, lA, lc, ⟨tA, tc, lA, lc, rfl, w1, w2, Nat.le_trans t.1 t.2, Nat.le_trans l.1 l.2, ⟨t.1, l.1⟩, Lies.own g4, Lies.own g5, w3⟩, hc _ _ g0, ?_, ?_, ?_⟩
  · rw [Nat.add_assoc]; exact hc _ _ g1
  · rw [Nat.add_assoc]; exact hc _ _ g2
  · rw [Nat.add_assoc]; exact hc _ _ g3
theorem flat_keep {w w' : World} {base : Nat} {fs : List Fd} {cs : List Value} (h : FlatF w base fs cs) (hb : Below w.heap.size w w') : FlatF w' base fs cs :=
  FlatF.kept (Kept.of_below hb 0 []) (by simp) (by simp) fs cs h

theorem Tryd.info9 : (Tryd.prog.info? 9).map (fun i => (i.zero, i.size, i.bytes)) = some (some (.string ⟨#[]⟩), 1, 16) := by kernel_rfl

theorem sv_one (a : List ByteArray) : ∀ u ∈ sv a, u.oneCell' = true := by
  intro u hu
  simp only [sv, List.mem_map] at hu
  obtain ⟨c, _, rfl⟩ := hu
  rfl

theorem read_n (W : World) (kA : Option Addr) (kc kn : Nat) (ks : List Int) (A : Option Addr) (c n : Nat) (bs : List UInt8) (m er : Int) (fs : List Fd) (fn : Nat) (hX : Hid (readF ks bs = (er, fs))) (hfn : fs.length = fn) (hkn : ks.length = kn) (hn : bs.length = n)
    (hk : Hid (Lies W W.heap.size kA (ks.map (Value.int .i64)))) (hkl : kn ≤ 1000) (hb : Hid (SlB W W.heap.size A c bs)) (hm : Hid (W.cell? ⟨0, 0, none⟩ = some (.int .i64 m))) :
    Calls Tryd.prog 20 #[.slice kA kn kc, .slice A n c] W fun e w2 => ∃ A1 c1, e = .returned (.tuple #[.slice A1 fn c1, .int .i64 er]) ∧ Hid (∃ cs, w2.ownsRow W.heap.size 80 4 (.slice A1 fs.length c1) fs.length cs ∧ FlatF w2 W.heap.size fs cs) ∧ Hid (Below W.heap.size W w2) := by
  subst hfn; subst hkn; subst hn
  refine (read_any W kA kc ks A c bs m hk.out hkl hb.out hm.out).mono ?_
  rw [hX.out]
  rintro e w2 ⟨A1, c1, cs, rfl, ho, hf, hb⟩
  exact ⟨A1, c1, rfl, ⟨cs, ho, hf⟩, hb⟩


end Go.Proofs.YtdplngplljejhaaDoor
