import Derived.Test.YteeienmigoebmaaGreatDoorRows
import Derived.Test.YteeienmigoebmaaGreatDoorWW
import Derived.BigQuiet
import Derived.Deep.QuietTactic
import Derived.Deep.RegionLaw
import Derived.Lib.AppendZeros
namespace Go.Proofs.YteeienmigoebmaaGreatDoor
open Go.RowKit

theorem ret_bool {a b : Bool} (h : a = b) : Ending.returned (.bool a) = .returned (.bool b) := by rw [h]
theorem take_snoc {α : Type} (l : List α) (k : Nat) (h : k < l.length) : l.take (k + 1) = l.take k ++ [l[k]] := by
  rw [List.take_succ_eq_append_getElem h]
theorem own_caps {w : World} {base : Nat} {e : TypeId} {size n c : Nat} {A : Option Addr} {xs : List Value} (h : w.ownsRow base e size (.slice A n c) n xs) : n ≤ c ∧ c ≤ maxLen := by
  rcases h.2 with ⟨hv, h0⟩ | ⟨g, cap, cur, hv, _, _, h1, h2, _⟩
  · injection hv with _ _ hc
    subst hc; subst h0
    exact ⟨Nat.le_refl _, Nat.zero_le _⟩
  · injection hv with _ _ hc
    subst hc
    exact ⟨h1, h2⟩
theorem own_mono {w : World} {b b' : Nat} {e : TypeId} {size n : Nat} {v : Value} {xs : List Value} (h : w.ownsRow b e size v n xs) (hb : b' ≤ b) : w.ownsRow b' e size v n xs :=
  ⟨h.1, h.2.imp id fun ⟨g, cap, cur, h1, h2, h3⟩ => ⟨g, cap, cur, h1, Nat.le_trans hb h2, h3⟩⟩
theorem lit_cell (W : World) (cs : Array Value) (t : TypeId) (fr : Nat × Nat) (g i : Nat) (hg : g = W.heap.size) : (W.alloc (.cells cs t fr)).cell? ⟨g, i, none⟩ = cs[i]? := by
  subst hg
  exact cell_of_row _ _ i cs t fr (heap_alloc_new W _)
theorem lit_lies (W : World) (cs : Array Value) (t : TypeId) (fr : Nat × Nat) (g : Nat) (hg : g = W.heap.size) : Lies (W.alloc (.cells cs t fr)) (g + 1) (some ⟨g, 0, none⟩) cs.toList := fun _ =>
  ⟨g, 0, rfl, by simp, fun j u hu => by rw [Nat.zero_add, lit_cell W cs t fr g j hg]; simpa using hu⟩
theorem Lies.alloc {w : World} {B : Nat} {A : Option Addr} {cs : List Value} (h : Lies w B A cs) (hB : B ≤ w.heap.size) (o : Obj) : Lies (w.alloc o) B A cs := h.below ((Below.refl _ _).alloc hB o)
theorem bel_drewN {B : Nat} {a w : World} (h : Below B a w) (n : Nat) : Below B a (w.drewN n) := ⟨h.os, h.tape, h.output, h.size, h.block⟩
theorem bel_trans {a b c : World} (h : Hid (Below a.heap.size a b)) (k : Hid (Below b.heap.size b c)) : Hid (Below a.heap.size a c) := h.out.trans (k.out.mono h.out.size)
theorem lies_bel {w w2 : World} {A : Option Addr} {cs : List Value} (h : Hid (Lies w w.heap.size A cs)) (hb : Hid (Below w.heap.size w w2)) : Hid (Lies w2 w2.heap.size A cs) := (h.out.below hb.out).more hb.out.size
/-- A slice of bytes that lies below block B. -/
def SlB (w : World) (B : Nat) (A : Option Addr) (c : Nat) (bs : List UInt8) : Prop :=
  bs.length ≤ c ∧ c ≤ maxLen ∧ (A = none → c = 0) ∧ Lies w B A (bv bs)
theorem SlB.below {w w' : World} {B : Nat} {A : Option Addr} {c : Nat} {bs : List UInt8} (h : SlB w B A c bs) (hb : Below B w w') : SlB w' B A c bs :=
  ⟨h.1, h.2.1, h.2.2.1, h.2.2.2.below hb⟩
theorem SlB.take {w : World} {B : Nat} {A : Option Addr} {c : Nat} {bs : List UInt8} (h : SlB w B A c bs) (n : Nat) : SlB w B A c (bs.take n) := by
  obtain ⟨h1, h2, h3, h4⟩ := h
  refine ⟨by rw [List.length_take]; omega, h2, h3, fun hn => ?_⟩
  have hne : bv bs ≠ [] := by
    intro e
    have : bs = [] := by simpa [bv] using e
    subst this; simp [bv] at hn
  obtain ⟨b, o, rfl, hb, hc⟩ := h4 hne
  refine ⟨b, o, rfl, hb, fun j u hu => hc j u ?_⟩
  simp only [bv, List.map_take] at hu ⊢
  rw [List.getElem?_take] at hu
  split at hu
  · exact hu
  · cases hu
theorem SlB.drop {w : World} {B : Nat} {a : Addr} {c : Nat} {bs : List UInt8} (h : SlB w B (some a) c bs) (n : Nat) (hn : n ≤ bs.length) : SlB w B (some (if c = n then a else a.add n)) (c - n) (bs.drop n) := by
  obtain ⟨h1, h2, h3, h4⟩ := h
  refine ⟨by rw [List.length_drop]; omega, by omega, by simp, fun hne => ?_⟩
  have hlt : n < bs.length := by
    have : (bv (bs.drop n)).length ≠ 0 := fun e => hne (List.eq_nil_of_length_eq_zero e)
    simp [bv] at this; omega
  obtain ⟨b, o, e, hb, hc⟩ := h4 (by intro e; have := congrArg List.length e; simp [bv] at this; subst this; simp at hlt)
  injection e with e
  subst e
  rw [if_neg (by omega)]
  refine ⟨b, o + n, by rw [Addr.add_lit], hb, fun j u hu => ?_⟩
  rw [Nat.add_assoc]
  apply hc
  simp only [bv, List.map_drop, List.getElem?_drop] at hu ⊢
  exact hu
def num4 (l : List UInt8) : Nat := (l.getD 0 0).toNat * 16777216 + (l.getD 1 0).toNat * 65536 + (l.getD 2 0).toNat * 256 + (l.getD 3 0).toNat
theorem or4 (a b c d : UInt8) : bits .or .u32 (bits .or .u32 (bits .or .u32 ((a.toNat : Int) % 4294967296 * 16777216 % 4294967296) ((b.toNat : Int) % 4294967296 * 65536 % 4294967296)) ((c.toNat : Int) % 4294967296 * 256 % 4294967296)) ((d.toNat : Int) % 4294967296)
    = ((a.toNat * 16777216 + b.toNat * 65536 + c.toNat * 256 + d.toNat : Nat) : Int) := by
  have h0 := a.toNat_lt
  have h1 := b.toNat_lt
  have h2 := c.toNat_lt
  have h3 := d.toNat_lt
  have w32 : ∀ n : Int, 0 ≤ n → n < 2 ^ 32 → IntKind.u32.wrap n = n := fun n h₀ h₁ => by rw [IntKind.wrap_u32']; omega
  rw [bits_join .u32 32 (by decide) w32 24 ((a.toNat : Int) % 4294967296 * 16777216 % 4294967296) _ (by omega) (by omega) (by omega) (by omega) (by omega) (by omega)]
  rw [bits_join .u32 32 (by decide) w32 16 (_ + _) _ (by omega) (by omega) (by omega) (by omega) (by omega) (by omega)]
  rw [bits_join .u32 32 (by decide) w32 8 (_ + _) _ (by omega) (by omega) (by omega) (by omega) (by omega) (by omega)]
  omega
theorem ret2_u32 {x : Int} {n : Nat} (h : x = n) : Ending.returned (.tuple #[.int .u32 x, .int .i64 0]) = .returned (.tuple #[.int .u32 n, .int .i64 0]) := by rw [h]
def four (n : Nat) : List UInt8 := [UInt8.ofNat (n / 16777216), UInt8.ofNat (n / 65536), UInt8.ofNat (n / 256), UInt8.ofNat n]
theorem four_v (n : Nat) (h : n < 4294967296) : bv (four n) = [.int .u8 ((n : Int) / 16777216), .int .u8 ((n : Int) / 65536 % 256), .int .u8 ((n : Int) / 256 % 256), .int .u8 ((n : Int) % 256)] := by
  simp [bv, four]; omega
theorem slb_at {w w2 : World} {A : Option Addr} {c : Nat} {bs : List UInt8} (h : Hid (SlB w w.heap.size A c bs)) (hb : Hid (Below w.heap.size w w2)) : Hid (SlB w2 w2.heap.size A c bs) :=
  ⟨h.out.1, h.out.2.1, h.out.2.2.1, (lies_bel (A := A) h.out.2.2.2 hb).out⟩
theorem own_slb {w : World} {base _n c : Nat} {A : Option Addr} {bs : List UInt8} (h : w.ownsRow base 5 1 (.slice A bs.length c) bs.length (bv bs)) : SlB w w.heap.size A c bs := by
  have hc := own_caps h
  refine ⟨hc.1, hc.2, ?_, Lies.own h⟩
  rintro rfl
  rcases h.2 with ⟨hv, _⟩ | ⟨g, cap, cur, hv, _⟩
  · injection hv
  · injection hv with hv
    cases hv
theorem app_bel {w wr w' : World} {e : TypeId} {n c : Nat} {A : Option Addr} {xs : List Value} (hbw : Below w.heap.size w wr) (hro : wr.ownsRow w.heap.size e 1 (.slice A n c) n xs) (hg : wr.grownBy w' (Value.slice A n c).ownBlock) : Below w.heap.size w w' :=
  hbw.trans (((Kept.refl w.heap.size [e] wr).grown hg (fun k hk => by obtain ⟨a, cs, b⟩ := own_box hro k hk; exact ⟨a, e, cs, by simp, b⟩)).below hbw.size)
theorem own_keep {w w' : World} {base : Nat} {e : TypeId} {size n : Nat} {v : Value} {xs : List Value} (h : w.ownsRow base e size v n xs) (hb : Below w.heap.size w w') : w'.ownsRow base e size v n xs :=
  (Kept.of_below hb 0 []).own h (by simp)
theorem lit_own {w : World} {base : Nat} {e : TypeId} {size g : Nat} (hb : base ≤ w.heap.size) (hg : g = w.heap.size) : (w.alloc (.cells #[] e)).ownsRow base e size (.slice (some ⟨g, 0, none⟩) 0 0) 0 [] := by
  subst hg
  exact World.ownsRow_lit w #[] 0 hb (Nat.zero_le _) (by simp)
/-- An append to an empty literal has turned nothing that was there. -/
theorem lit_grown {w w' : World} {e : TypeId} {g : Nat} (hg : g = w.heap.size) (h : (w.alloc (.cells #[] e)).grownBy w' (Value.slice (some ⟨g, 0, none⟩) 0 0).ownBlock) : Below w.heap.size w w' := by
  subst hg
  refine ⟨h.os, h.tape, h.output, Nat.le_trans (by simp) h.size, fun b hb => ?_⟩
  rw [h.block b (by simp; omega) (by simp [Value.ownBlock]; omega)]
  exact Below.heap_alloc _ _ _ hb
theorem box_below {w w' : World} {g : Nat} {t : TypeId} {cs : Array Value} (h : Box w g t cs) (hb : Below w.heap.size w w') : Box w' g t cs := h.same (hb.block _ h.lt)
theorem box_st {w : World} {g : Nat} {t : TypeId} {cs : Array Value} (h : Box w g t cs) (i : Nat) (u : Value) (o : Obj) : Box ((w.setCell ⟨g, i, none⟩ u).alloc o) g t (cs.setIfInBounds i u) :=
  box_below (h.store i u) ((Below.refl _ _).alloc (Nat.le_refl _) _)
theorem kept_st {w : World} {g : Nat} {t : TypeId} {cs : Array Value} (h : Box w g t cs) (B i : Nat) (hB : B ≤ g) (u : Value) (o : Obj) : Kept B [t] w ((w.setCell ⟨g, i, none⟩ u).alloc o) :=
  ((Kept.refl B [t] w).store h hB (by simp) u).alloc o
theorem Lies.drewN {w : World} {B : Nat} {A : Option Addr} {cs : List Value} (h : Lies w B A cs) (n : Nat) : Lies (w.drewN n) B A cs := h
/-- Nothing but draws. -/
def Quiet (w w' : World) : Prop := ∃ n, w' = w.drewN n
theorem Quiet.refl (w : World) : Quiet w w := ⟨0, rfl⟩
theorem quiet2 (w : World) (a b : Nat) : Quiet w ((w.drewN a).drewN b) := ⟨a + b, World.drewN_drewN w a b⟩
theorem list_ne {α : Type} {a b : List α} (k : Nat) (ha : k < a.length) (hb : k < b.length) (h : a[k] ≠ b[k]) : a ≠ b := by
  rintro rfl
  exact h rfl
theorem ret_u32 {x : Int} {n : Nat} (h : x = n) : Ending.returned (.int .u32 x) = .returned (.int .u32 n) := by rw [h]
def AllU8 (xs : List Value) : Prop := ∀ j (h : j < xs.length), ∃ z : Int, xs[j] = .int .u8 z
theorem allu8_bv (bs : List UInt8) : AllU8 (bv bs) := fun j h => ⟨((bs[j]'(by simpa [bv] using h)).toNat : Int), by simp [bv]⟩
theorem allu8_set {xs : List Value} (h : AllU8 xs) (k : Nat) (z : Int) : AllU8 (xs.set k (.int .u8 z)) := fun j hj => by
  rw [List.getElem_set]
  split
  · exact ⟨_, rfl⟩
  · exact h j (by simpa using hj)
theorem Tryz.info5 : (Tryz.prog.info? 5).map (fun i => (i.zero, i.size, i.bytes)) = some (some (.int .u8 0), 1, 1) := by kernel_rfl
theorem Tryz.info22 : (Tryz.prog.info? 66).map (fun i => (i.zero, i.size, i.bytes)) = some (some (.slice none 0 0), 1, 24) := by kernel_rfl
end Go.Proofs.YteeienmigoebmaaGreatDoor
