import Derived.Test.YtdplngplljejhaaDoorWF
namespace Go.Proofs.YtdplngplljejhaaDoor
open Go.RowKit

theorem own_mono {w : World} {b b' : Nat} {e : TypeId} {size n : Nat} {v : Value} {xs : List Value} (h : w.ownsRow b e size v n xs) (hb : b' ≤ b) : w.ownsRow b' e size v n xs :=
  ⟨h.1, h.2.imp id fun ⟨g, cap, cur, h1, h2, h3⟩ => ⟨g, cap, cur, h1, Nat.le_trans hb h2, h3⟩⟩
theorem RSt.kept {w w' : World} {B g : Nat} {left : List UInt8} {T : List TypeId} {B' : Nat} (h : RSt w B g left) (k : Kept B' T w w') (h1 : 111 ∉ T) (hb : Below B w w') : RSt w' B g left := by
  obtain ⟨hbg, A, c, hx, hl⟩ := h
  exact ⟨hbg, A, c, k.box hx h1, hl.below hb⟩
theorem RSt.alloc {w : World} {B g : Nat} {left : List UInt8} (h : RSt w B g left) (hB : B ≤ w.heap.size) (o : Obj) : RSt (w.alloc o) B g left :=
  h.kept (B' := 0) (T := []) ((Kept.refl _ _ _).alloc o) (by simp) ((Below.refl _ _).alloc hB o)

theorem RSt.lt {w : World} {B g : Nat} {left : List UInt8} (h : RSt w B g left) : g < w.heap.size := by
  obtain ⟨_, A, c, hx, _⟩ := h
  exact hx.lt
theorem RSt.store {w : World} {B g : Nat} {left : List UInt8} (h : RSt w B g left) {p : Addr} (hp : B ≤ p.block) (hg : g ≠ p.block) (u : Value) : RSt (w.setCell p u) B g left := by
  obtain ⟨hbg, A, c, hx, hl⟩ := h
  exact ⟨hbg, A, c, hx.same (Below.heap_setCell _ _ _ _ hg), hl.below ((Below.refl _ _).setCell hp u)⟩
theorem Kept.new_ {B : Nat} {T : List TypeId} {a w : World} (h : Kept B T a w) {p : Addr} (hp : a.heap.size ≤ p.block) (u : Value) : Kept B T a (w.setCell p u) :=
  ⟨h.os, h.tape, h.output, by simp [World.setCell]; exact h.size, fun b hb hc => (Below.heap_setCell _ _ _ _ (by omega)).trans (h.block b hb hc)⟩
theorem RSt.four {w : World} {B g n : Nat} {left : List UInt8} (h : RSt w B g left) (hp : B ≤ n) (hg : g ≠ n) (a b c d : Value) :
    RSt ((((w.setCell ⟨n, 0, none⟩ a).setCell ⟨n, 1, none⟩ b).setCell ⟨n, 2, none⟩ c).setCell ⟨n, 3, none⟩ d) B g left :=
  (((h.store (p := ⟨n, 0, none⟩) hp hg a).store (p := ⟨n, 1, none⟩) hp hg b).store (p := ⟨n, 2, none⟩) hp hg c).store (p := ⟨n, 3, none⟩) hp hg d
theorem Kept.four {B : Nat} {T : List TypeId} {s w : World} {n : Nat} (h : Kept B T s w) (hp : s.heap.size ≤ n) (a b c d : Value) :
    Kept B T s ((((w.setCell ⟨n, 0, none⟩ a).setCell ⟨n, 1, none⟩ b).setCell ⟨n, 2, none⟩ c).setCell ⟨n, 3, none⟩ d) :=
  (((h.new_ (p := ⟨n, 0, none⟩) hp a).new_ (p := ⟨n, 1, none⟩) hp b).new_ (p := ⟨n, 2, none⟩) hp c).new_ (p := ⟨n, 3, none⟩) hp d
theorem own_four {w : World} {base : Nat} {e : TypeId} {size m n : Nat} {v : Value} {xs : List Value} (h : w.ownsRow base e size v m xs) (hn : v.ownBlock ≠ some n) (a b c d : Value) :
    ((((w.setCell ⟨n, 0, none⟩ a).setCell ⟨n, 1, none⟩ b).setCell ⟨n, 2, none⟩ c).setCell ⟨n, 3, none⟩ d).ownsRow base e size v m xs := by
  have h1 : ∀ (w : World) (p : Addr) (u : Value), p.block = n → w.ownsRow base e size v m xs → (w.setCell p u).ownsRow base e size v m xs := fun w p u hp h => by
    refine ⟨h.1, h.2.imp id fun ⟨g, cap, cur, hv, hb, hh, r⟩ => ⟨g, cap, cur, hv, hb, ?_, r⟩⟩
    rw [Below.heap_setCell _ _ _ _ (by rintro rfl; exact hn (by rw [hv]; simp [Value.ownBlock, hp]))]
    exact hh
  exact h1 _ _ _ rfl (h1 _ _ _ rfl (h1 _ _ _ rfl (h1 _ _ _ rfl h)))

def Z : Value := .agg #[.int .i64 0, .int .u32 0, .slice none 0 0, .slice none 0 0]
def GetR (B g : Nat) (x : Int × Fd × List UInt8) (w : World) (e : Ending) (w' : World) : Prop :=
  (x.1 ≠ 0 → e = .returned (.tuple #[Z, .int .i64 x.1]) ∧ Kept B [111] w w') ∧
  (x.1 = 0 → ∃ tA tc lA lc, e = .returned (.tuple #[.agg #[.int .i64 0, .int .u32 x.2.1.n, .slice tA x.2.1.text.length tc, .slice lA x.2.1.list.length lc], .int .i64 0]) ∧
    w'.ownsRow w.heap.size 5 1 (.slice tA x.2.1.text.length tc) x.2.1.text.length (bv x.2.1.text) ∧ w'.ownsRow w.heap.size 9 1 (.slice lA x.2.1.list.length lc) x.2.1.list.length (sv x.2.1.list) ∧ RSt w' B g x.2.2 ∧ Kept B [111] w w')

def zf : Fd := ⟨0, 0, [], []⟩
def byteF (left : List UInt8) : Int × Fd × List UInt8 := match left with | [] => (3, zf, []) | a :: r => (0, ⟨0, a.toNat, [], []⟩, r)

set_option maxHeartbeats 1000000 in
set_option maxRecDepth 100000 in
theorem getByte_any (B g : Nat) (left : List UInt8) (w : World) (hs : RSt w B g left) (hB : B ≤ w.heap.size) :
    Calls Tryd.prog 64 #[.pointer (some ⟨g, 0, none⟩)] w (GetR B g (byteF left) w) := by
  have hs0 := hs.alloc hB
  have hk0 : ∀ o, Kept B [111] w (w.alloc o) := fun o => (Kept.refl _ _ _).alloc o
  have hB0 : ∀ o, B ≤ (w.alloc o).heap.size := fun o => by simp; omega
  cases left with
  | nil =>
    go_enter Tryd.func64, Tryd.ntmps64
    go_wp2_with (go_at_call 94; refine (take_short B g 1 [] (by simp) (by unfold maxLen; omega) _ (hs0 _)).mono ?_; rintro e w' ⟨rfl, rfl⟩)
    refine bodyPost_ret (v := .tuple #[Z, .int .i64 3]) (by simp [results, Tryd.results64, go_sem, Z]) rfl ?_
    refine ⟨fun _ => ⟨rfl, ?_⟩, fun h => by simp [byteF] at h⟩
    exact hk0 _
  | cons a r =>
    have ha : a.toNat < 256 := a.toNat_lt
    go_enter Tryd.func64, Tryd.ntmps64
    go_wp2_with (
      go_at_call 94
      refine (take_any B g 1 (a :: r) (by simp) _ (hs0 _) (hB0 _)).mono ?_
      rintro e w' ⟨A, cp, rfl, hsl, hr, hk⟩
      obtain ⟨hcp, _, _, hli⟩ := hsl
      obtain ⟨bk, o, rfl, hbk, hcells⟩ := hli (by simp [bv])
      have c0 : w'.cell? ⟨bk, o, none⟩ = some (.int .u8 a.toNat) := hcells 0 _ rfl
      have hbx : Box w' w.heap.size 80 #[.int .i64 0, .int .u32 0, .slice none 0 0, .slice none 0 0] := hk.box (Box.new w 80 _) (by decide)
      have d0 : w'.cell? ⟨w.heap.size, 0, none⟩ = some (.int .i64 0) := hbx.cell 0
      have d1 : w'.cell? ⟨w.heap.size, 1, none⟩ = some (.int .u32 0) := hbx.cell 1
      have d2 : w'.cell? ⟨w.heap.size, 2, none⟩ = some (.slice none 0 0) := hbx.cell 2
      have d3 : w'.cell? ⟨w.heap.size, 3, none⟩ = some (.slice none 0 0) := hbx.cell 3
      have f0 : w'.frozen? ⟨w.heap.size, 0, none⟩ = false := hbx.frozen 0
      have f1 : w'.frozen? ⟨w.heap.size, 1, none⟩ = false := hbx.frozen 1
      have f2 : w'.frozen? ⟨w.heap.size, 2, none⟩ = false := hbx.frozen 2
      have f3 : w'.frozen? ⟨w.heap.size, 3, none⟩ = false := hbx.frozen 3
      clear hcells hli)
    refine bodyPost_ret (v := .tuple #[.agg #[.int .i64 0, .int .u32 a.toNat, .slice none 0 0, .slice none 0 0], .int .i64 0]) (by simp [results, Tryd.results64, go_sem, d0, d1, d2, d3]) rfl ?_
    refine ⟨fun h => by simp [byteF] at h, fun _ => ⟨none, 0, none, 0, rfl, World.ownsRow_nil _ _ _ _, World.ownsRow_nil _ _ _ _, ?_, ?_⟩⟩
    · exact hr.four hB (Nat.ne_of_lt hs.lt) _ _ _ _
    · exact ((hk0 _).trans hk).four (Nat.le_refl _) _ _ _ _

def boolF (left : List UInt8) : Int × Fd × List UInt8 := match left with | [] => (3, zf, []) | a :: r => (0, ⟨0, min a.toNat 1, [], []⟩, r)
set_option maxHeartbeats 1000000 in
set_option maxRecDepth 100000 in
theorem getBool_any (B g : Nat) (left : List UInt8) (w : World) (hs : RSt w B g left) (hB : B ≤ w.heap.size) :
    Calls Tryd.prog 65 #[.pointer (some ⟨g, 0, none⟩)] w (GetR B g (boolF left) w) := by
  have hs0 := hs.alloc hB
  have hk0 : ∀ o, Kept B [111] w (w.alloc o) := fun o => (Kept.refl _ _ _).alloc o
  have hB0 : ∀ o, B ≤ (w.alloc o).heap.size := fun o => by simp; omega
  cases left with
  | nil =>
    have hm : min (0 : Int) 1 = 0 := rfl
    go_enter Tryd.func65, Tryd.ntmps65
    go_wp2_with (
      go_at_call 64
      refine (getByte_any B g [] _ (hs0 _) (hB0 _)).mono ?_
      rintro e w' ⟨h1, _⟩
      obtain ⟨rfl, hk⟩ : e = .returned (.tuple #[Z, .int .i64 3]) ∧ Kept B [111] _ w' := h1 (by simp [byteF])
      clear h1
      have hbx : Box w' w.heap.size 80 #[.int .i64 0, .int .u32 0, .slice none 0 0, .slice none 0 0] := hk.box (Box.new w 80 _) (by decide)
      have hblt := hbx.lt
      have d0 : w'.cell? ⟨w.heap.size, 0, none⟩ = some (.int .i64 0) := hbx.cell 0
      have d1 : w'.cell? ⟨w.heap.size, 1, none⟩ = some (.int .u32 0) := hbx.cell 1
      have d2 : w'.cell? ⟨w.heap.size, 2, none⟩ = some (.slice none 0 0) := hbx.cell 2
      have d3 : w'.cell? ⟨w.heap.size, 3, none⟩ = some (.slice none 0 0) := hbx.cell 3
      have f0 : w'.frozen? ⟨w.heap.size, 0, none⟩ = false := hbx.frozen 0
      have f1 : w'.frozen? ⟨w.heap.size, 1, none⟩ = false := hbx.frozen 1
      have f2 : w'.frozen? ⟨w.heap.size, 2, none⟩ = false := hbx.frozen 2
      have f3 : w'.frozen? ⟨w.heap.size, 3, none⟩ = false := hbx.frozen 3
      unfold Z)
    refine bodyPost_ret (v := .tuple #[Z, .int .i64 3]) (by simp [results, Tryd.results65, go_sem, d0, d1, d2, d3, hblt, Z]) rfl ?_
    refine ⟨fun _ => ⟨rfl, ?_⟩, fun h => by simp [boolF] at h⟩
    exact (((hk0 _).trans hk).four (Nat.le_refl _) _ _ _ _).alloc _
  | cons a r =>
    have ha : a.toNat < 256 := a.toNat_lt
    obtain ⟨m, HM⟩ : ∃ m, Hid (min a.toNat 1 = m) := ⟨_, rfl⟩
    have hm : min (a.toNat : Int) 1 = m := by have := HM.out; omega
    go_enter Tryd.func65, Tryd.ntmps65
    go_wp2_with (
      go_at_call 64
      refine (getByte_any B g (a :: r) _ (hs0 _) (hB0 _)).mono ?_
      rintro e w' ⟨_, h1⟩
      obtain ⟨tA, tc, lA, lc, rfl, ho1, ho2, hr, hk⟩ : ∃ tA tc lA lc, e = .returned (.tuple #[.agg #[.int .i64 0, .int .u32 a.toNat, .slice tA 0 tc, .slice lA 0 lc], .int .i64 0]) ∧ w'.ownsRow (w.heap.size + 1) 5 1 (.slice tA 0 tc) 0 [] ∧ w'.ownsRow (w.heap.size + 1) 9 1 (.slice lA 0 lc) 0 [] ∧ RSt w' B g r ∧ Kept B [111] _ w' := by simpa [byteF, bv, sv] using h1 (by simp [byteF])
      clear h1
      have hbx : Box w' w.heap.size 80 #[.int .i64 0, .int .u32 0, .slice none 0 0, .slice none 0 0] := hk.box (Box.new w 80 _) (by decide)
      have hblt := hbx.lt
      have d0 : w'.cell? ⟨w.heap.size, 0, none⟩ = some (.int .i64 0) := hbx.cell 0
      have d1 : w'.cell? ⟨w.heap.size, 1, none⟩ = some (.int .u32 0) := hbx.cell 1
      have d2 : w'.cell? ⟨w.heap.size, 2, none⟩ = some (.slice none 0 0) := hbx.cell 2
      have d3 : w'.cell? ⟨w.heap.size, 3, none⟩ = some (.slice none 0 0) := hbx.cell 3
      have f0 : w'.frozen? ⟨w.heap.size, 0, none⟩ = false := hbx.frozen 0
      have f1 : w'.frozen? ⟨w.heap.size, 1, none⟩ = false := hbx.frozen 1
      have f2 : w'.frozen? ⟨w.heap.size, 2, none⟩ = false := hbx.frozen 2
      have f3 : w'.frozen? ⟨w.heap.size, 3, none⟩ = false := hbx.frozen 3)
    refine bodyPost_ret (v := .tuple #[.agg #[.int .i64 0, .int .u32 m, .slice tA 0 tc, .slice lA 0 lc], .int .i64 0]) (by simp [results, Tryd.results65, go_sem, d0, d1, d2, d3, hblt]) rfl ?_
    refine ⟨fun h => by simp [boolF] at h, fun _ => ⟨tA, tc, lA, lc, ?_, ?_, ?_, ?_, ?_⟩⟩
    · have e := HM.out
      subst e
      rfl
    · exact (own_mono (own_four ho1 (own_ne ho1 hbx (by decide)) _ _ _ _) (by simp)).alloc _
    · exact (own_mono (own_four ho2 (own_ne ho2 hbx (by decide)) _ _ _ _) (by simp)).alloc _
    · exact (hr.four hB (Nat.ne_of_lt hs.lt) _ _ _ _).alloc (by simp [World.setCell]; omega) _
    · exact (((hk0 _).trans hk).four (Nat.le_refl _) _ _ _ _).alloc _

def u32F (left : List UInt8) : Int × Fd × List UInt8 := if left.length < 4 then (3, zf, []) else (0, ⟨0, num4 left, [], []⟩, left.drop 4)
set_option maxHeartbeats 1000000 in
set_option maxRecDepth 100000 in
theorem getUint32_any (B g : Nat) (left : List UInt8) (w : World) (hs : RSt w B g left) (hB : B ≤ w.heap.size) :
    Calls Tryd.prog 66 #[.pointer (some ⟨g, 0, none⟩)] w (GetR B g (u32F left) w) := by
  have hs0 := hs.alloc hB
  have hk0 : ∀ o, Kept B [111] w (w.alloc o) := fun o => (Kept.refl _ _ _).alloc o
  have hB0 : ∀ o, B ≤ (w.alloc o).heap.size := fun o => by simp; omega
  by_cases h4 : left.length < 4
  · have hE : u32F left = (3, zf, []) := by simp [u32F, h4]
    have HE := hid hE
    clear hE
    go_enter Tryd.func66, Tryd.ntmps66
    go_wp2_with (go_at_call 95; refine (rnum_short B g left h4 _ (hs0 _)).mono ?_; rintro e w' ⟨rfl, rfl⟩)
    refine bodyPost_ret (v := .tuple #[Z, .int .i64 3]) (by simp [results, Tryd.results66, go_sem, Z]) rfl ?_
    rw [HE.out]
    refine ⟨fun _ => ⟨rfl, ?_⟩, fun h => by simp at h⟩
    exact hk0 _
  · have hE : u32F left = (0, ⟨0, num4 left, [], []⟩, left.drop 4) := by simp [u32F, h4]
    have HE := hid hE
    have h4' : 4 ≤ left.length := by omega
    have hn4 := num4_lt left
    clear hE
    go_enter Tryd.func66, Tryd.ntmps66
    go_wp2_with (
      go_at_call 95
      refine (rnum_any B g left h4' _ (hs0 _) (hB0 _)).mono ?_
      rintro e w' ⟨rfl, hr, hk⟩
      have hbx : Box w' w.heap.size 80 #[.int .i64 0, .int .u32 0, .slice none 0 0, .slice none 0 0] := hk.box (Box.new w 80 _) (by decide)
      have hblt := hbx.lt
      have d0 : w'.cell? ⟨w.heap.size, 0, none⟩ = some (.int .i64 0) := hbx.cell 0
      have d1 : w'.cell? ⟨w.heap.size, 1, none⟩ = some (.int .u32 0) := hbx.cell 1
      have d2 : w'.cell? ⟨w.heap.size, 2, none⟩ = some (.slice none 0 0) := hbx.cell 2
      have d3 : w'.cell? ⟨w.heap.size, 3, none⟩ = some (.slice none 0 0) := hbx.cell 3
      have f0 : w'.frozen? ⟨w.heap.size, 0, none⟩ = false := hbx.frozen 0
      have f1 : w'.frozen? ⟨w.heap.size, 1, none⟩ = false := hbx.frozen 1
      have f2 : w'.frozen? ⟨w.heap.size, 2, none⟩ = false := hbx.frozen 2
      have f3 : w'.frozen? ⟨w.heap.size, 3, none⟩ = false := hbx.frozen 3)
    refine bodyPost_ret (v := .tuple #[.agg #[.int .i64 0, .int .u32 (num4 left), .slice none 0 0, .slice none 0 0], .int .i64 0]) (by simp [results, Tryd.results66, go_sem, d0, d1, d2, d3]) rfl ?_
    rw [HE.out]
    refine ⟨fun h => by simp at h, fun _ => ⟨none, 0, none, 0, rfl, World.ownsRow_nil _ _ _ _, World.ownsRow_nil _ _ _ _, ?_, ?_⟩⟩
    · exact hr.four hB (Nat.ne_of_lt hs.lt) _ _ _ _
    · exact ((hk0 _).trans hk).four (Nat.le_refl _) _ _ _ _

theorem clone_any (B : Nat) (A : Option Addr) (c : Nat) (bs : List UInt8) (w : World) (h : SlB w B A c bs) (hn : bs.length ≤ 33792) :
    Calls Tryd.prog 97 #[.slice A bs.length c] w fun e w' => ∃ A' c', e = .returned (.slice A' bs.length c') ∧ w'.ownsRow w.heap.size 5 1 (.slice A' bs.length c') bs.length (bv bs) ∧ Below w.heap.size w w' := by
  cases A with
  | none =>
    have h0 : bs = [] := List.eq_nil_of_length_eq_zero (by have := h.1; have := h.2.2.1 rfl; omega)
    subst h0
    exact (Tryd.bytes_Clone_nil 0 c w).mono fun e w' ⟨h1, h2⟩ => ⟨none, 0, h1, World.ownsRow_nil _ _ _ _, h2 ▸ Below.refl _ _⟩
  | some a =>
    have e : (bs.map fun c => (c.toNat : Int)).map (Value.int .u8) = bv bs := by simp [bv]
    refine (Tryd.bytes_Clone_at a bs.length c (bs.map fun c => (c.toNat : Int)) w (by simp) (by omega) ?_).mono ?_
    · intro i hi
      obtain ⟨b, o, e, hb, hc⟩ := h.2.2.2 (by intro e; have := congrArg List.length e; simp [bv] at this; subst this; simp at hi)
      injection e with e
      subst e
      rw [Addr.add_lit, hc i (.int .u8 (bs[i].toNat)) (by simp [bv, hi])]
      simp [List.getD, hi]
    · rintro e' w' ⟨v', rfl, ho, _, hb⟩
      rw [e] at ho
      rcases ho.2 with ⟨hv, h0⟩ | ⟨g, cap, cur, hv, _⟩
      · exact ⟨none, 0, by rw [hv, h0], by rw [hv] at ho; rw [h0] at ho ⊢; exact ho, hb⟩
      · exact ⟨_, _, by rw [hv], by rw [hv] at ho; exact ho, hb⟩

def restF (left : List UInt8) : Int × Fd × List UInt8 := if 33792 < left.length then (6, zf, []) else (0, ⟨0, 0, left, []⟩, [])
def strF (left : List UInt8) : Int × Fd × List UInt8 := ((textF left).1, ⟨0, 0, (textF left).2.1, []⟩, (textF left).2.2)
theorem textF_len (left : List UInt8) : (textF left).2.1.length ≤ 32768 := by
  unfold textF
  split
  · simp
  · split
    · simp
    · split
      · simp
      · simp only [List.length_take]; omega

set_option maxHeartbeats 1000000 in
set_option maxRecDepth 100000 in
theorem getString_any (B g : Nat) (left : List UInt8) (w : World) (hs : RSt w B g left) (hB : B ≤ w.heap.size) :
    Calls Tryd.prog 67 #[.pointer (some ⟨g, 0, none⟩)] w (GetR B g (strF left) w) := by
  have hs0 := hs.alloc hB
  have hk0 : ∀ o, Kept B [111] w (w.alloc o) := fun o => (Kept.refl _ _ _).alloc o
  have hB0 : ∀ o, B ≤ (w.alloc o).heap.size := fun o => by simp; omega
  obtain ⟨⟨er, tx, rs⟩, HX⟩ : ∃ x, Hid (textF left = x) := ⟨_, rfl⟩
  have hS : strF left = (er, ⟨0, 0, tx, []⟩, rs) := by simp [strF, HX.out]
  have HS := hid hS
  have htx : tx.length ≤ 33792 := by have := textF_len left; rw [HX.out] at this; simp at this; omega
  clear hS
  by_cases her : er = 0
  · subst her
    go_enter Tryd.func67, Tryd.ntmps67
    go_wp2_with (first
      | (go_at_call 96
         refine (text_any B g left _ (hs0 _) (hB0 _)).mono ?_
         rw [HX.out]
         rintro e w1 ⟨_, h1⟩
         obtain ⟨A, c, rfl, hsl, hr, hk⟩ := h1 rfl
         clear h1)
      | (go_at_call 97
         refine (clone_any B A c tx _ hsl htx).mono ?_
         rintro e w2 ⟨A', c', rfl, ho, hb2⟩
         have hk2 := hk.trans (Kept.of_below hb2 B [111])
         have hr2 : RSt w2 B g rs := hr.kept (Kept.of_below hb2 0 []) (by simp) (hb2.mono (Nat.le_trans (hB0 _) hk.size))
         have hbx : Box w2 w.heap.size 80 #[.int .i64 0, .int .u32 0, .slice none 0 0, .slice none 0 0] := hk2.box (Box.new w 80 _) (by decide)
         have hblt := hbx.lt
         have d0 : w2.cell? ⟨w.heap.size, 0, none⟩ = some (.int .i64 0) := hbx.cell 0
         have d1 : w2.cell? ⟨w.heap.size, 1, none⟩ = some (.int .u32 0) := hbx.cell 1
         have d2 : w2.cell? ⟨w.heap.size, 2, none⟩ = some (.slice none 0 0) := hbx.cell 2
         have d3 : w2.cell? ⟨w.heap.size, 3, none⟩ = some (.slice none 0 0) := hbx.cell 3
         have f0 : w2.frozen? ⟨w.heap.size, 0, none⟩ = false := hbx.frozen 0
         have f1 : w2.frozen? ⟨w.heap.size, 1, none⟩ = false := hbx.frozen 1
         have f2 : w2.frozen? ⟨w.heap.size, 2, none⟩ = false := hbx.frozen 2
         have f3 : w2.frozen? ⟨w.heap.size, 3, none⟩ = false := hbx.frozen 3))
    refine bodyPost_ret (v := .tuple #[.agg #[.int .i64 0, .int .u32 0, .slice A' tx.length c', .slice none 0 0], .int .i64 0]) (by simp [results, Tryd.results67, go_sem, d0, d1, d2, d3]) rfl ?_
    rw [HS.out]
    refine ⟨fun h => by simp at h, fun _ => ⟨A', c', none, 0, rfl, ?_, World.ownsRow_nil _ _ _ _, ?_, ?_⟩⟩
    · exact own_mono (own_four ho (own_ne ho hbx (by decide)) _ _ _ _) (by have := hk.size; simp at this; omega)
    · exact hr2.four hB (Nat.ne_of_lt hs.lt) _ _ _ _
    · exact ((hk0 _).trans hk2).four (Nat.le_refl _) _ _ _ _
  · have hz : (er == 0) = false := by simpa using her
    have HER := hid her
    clear her
    go_enter Tryd.func67, Tryd.ntmps67
    go_wp2_with (
      go_at_call 96
      refine (text_any B g left _ (hs0 _) (hB0 _)).mono ?_
      rw [HX.out]
      rintro e w1 ⟨h1, _⟩
      obtain ⟨rfl, hk⟩ := h1 HER.out
      clear h1
      have hbx : Box w1 w.heap.size 80 #[.int .i64 0, .int .u32 0, .slice none 0 0, .slice none 0 0] := hk.box (Box.new w 80 _) (by decide)
      have hblt := hbx.lt
      have d0 : w1.cell? ⟨w.heap.size, 0, none⟩ = some (.int .i64 0) := hbx.cell 0
      have d1 : w1.cell? ⟨w.heap.size, 1, none⟩ = some (.int .u32 0) := hbx.cell 1
      have d2 : w1.cell? ⟨w.heap.size, 2, none⟩ = some (.slice none 0 0) := hbx.cell 2
      have d3 : w1.cell? ⟨w.heap.size, 3, none⟩ = some (.slice none 0 0) := hbx.cell 3
      have f0 : w1.frozen? ⟨w.heap.size, 0, none⟩ = false := hbx.frozen 0
      have f1 : w1.frozen? ⟨w.heap.size, 1, none⟩ = false := hbx.frozen 1
      have f2 : w1.frozen? ⟨w.heap.size, 2, none⟩ = false := hbx.frozen 2
      have f3 : w1.frozen? ⟨w.heap.size, 3, none⟩ = false := hbx.frozen 3)
    refine bodyPost_ret (v := .tuple #[Z, .int .i64 er]) (by simp [results, Tryd.results67, go_sem, d0, d1, d2, d3, Z]) rfl ?_
    rw [HS.out]
    refine ⟨fun _ => ⟨rfl, ?_⟩, fun h => absurd h HER.out⟩
    exact ((hk0 _).trans hk).four (Nat.le_refl _) _ _ _ _

set_option maxHeartbeats 1000000 in
set_option maxRecDepth 100000 in
theorem getRest_any (B g : Nat) (left : List UInt8) (w : World) (hs : RSt w B g left) (hB : B ≤ w.heap.size) :
    Calls Tryd.prog 69 #[.pointer (some ⟨g, 0, none⟩)] w (GetR B g (restF left) w) := by
  have hk0 : ∀ o, Kept B [111] w (w.alloc o) := fun o => (Kept.refl _ _ _).alloc o
  have hglt := hs.lt
  have hs' := hs
  obtain ⟨hbg, A, c, hx, hsl⟩ := hs'
  have hcell : w.cell? ⟨g, 0, none⟩ = some (.slice A left.length c) := hx.cell 0
  have hfr : w.frozen? ⟨g, 0, none⟩ = false := hx.frozen 0
  by_cases h4 : 33792 < left.length
  · have hE : restF left = (6, zf, []) := by simp [restF, h4]
    have HE := hid hE
    clear hE
    go_enter Tryd.func69, Tryd.ntmps69
    go_wp2
    refine bodyPost_ret (v := .tuple #[Z, .int .i64 6]) (by simp [results, Tryd.results69, go_sem, Z]) rfl ?_
    rw [HE.out]
    refine ⟨fun _ => ⟨rfl, ?_⟩, fun h => by simp at h⟩
    exact hk0 _
  · have hE : restF left = (0, ⟨0, 0, left, []⟩, []) := by simp [restF, h4]
    have HE := hid hE
    have h4' : left.length ≤ 33792 := by omega
    clear hE
    have hksc : Kept B [111] w (w.setCell ⟨g, 0, none⟩ (.slice none 0 0)) := (Kept.refl _ _ _).store hx hbg (by simp) _
    have hxs := hx.store 0 (.slice none 0 0)
    have hr00 : RSt (w.setCell ⟨g, 0, none⟩ (.slice none 0 0)) B g [] := ⟨hbg, none, 0, by simpa using hxs, by simp, by unfold maxLen; omega, by simp, Lies.nil_⟩
    have hBs : B ≤ (w.setCell ⟨g, 0, none⟩ (.slice none 0 0)).heap.size := Nat.le_trans hB hksc.size
    have hk1 : ∀ o, Kept B [111] w ((w.setCell ⟨g, 0, none⟩ (.slice none 0 0)).alloc o) := fun o => hksc.alloc o
    have hs0 : ∀ o, SlB ((w.setCell ⟨g, 0, none⟩ (.slice none 0 0)).alloc o) B A c left := fun o => hsl.below ((hk1 o).below hB)
    have hr0 : ∀ o, RSt ((w.setCell ⟨g, 0, none⟩ (.slice none 0 0)).alloc o) B g [] := fun o => hr00.alloc hBs o
    have hB1 : ∀ o, B ≤ ((w.setCell ⟨g, 0, none⟩ (.slice none 0 0)).alloc o).heap.size := fun o => Nat.le_trans hB (hk1 o).size
    have hbx0 : ∀ cs : Array Value, Box ((w.setCell ⟨g, 0, none⟩ (.slice none 0 0)).alloc (.cells cs 80)) w.heap.size 80 cs := fun cs => by
      have h := Box.new (w.setCell ⟨g, 0, none⟩ (.slice none 0 0)) 80 cs
      simpa [World.setCell] using h
    have HK1 := hid hk1
    have HS0 := hid hs0
    have HR0 := hid hr0
    have HB1 := hid hB1
    have HX0 := hid hbx0
    clear hxs hr00 hBs hksc hk1 hs0 hr0 hB1 hbx0 hk0
    go_enter Tryd.func69, Tryd.ntmps69
    go_wp2_with (
      go_at_call 97
      refine (clone_any B A c left _ (HS0.out _) h4').mono ?_
      rintro e w2 ⟨A', c', rfl, ho, hb2⟩
      have hk2 : Kept B [111] _ w2 := Kept.of_below hb2 B [111]
      have hr2 : RSt w2 B g [] := (HR0.out _).kept (Kept.of_below hb2 0 []) (by simp) (hb2.mono (HB1.out _))
      have hbx : Box w2 w.heap.size 80 #[.int .i64 0, .int .u32 0, .slice none 0 0, .slice none 0 0] := hk2.box (HX0.out _) (by decide)
      have hblt := hbx.lt
      have d0 : w2.cell? ⟨w.heap.size, 0, none⟩ = some (.int .i64 0) := hbx.cell 0
      have d1 : w2.cell? ⟨w.heap.size, 1, none⟩ = some (.int .u32 0) := hbx.cell 1
      have d2 : w2.cell? ⟨w.heap.size, 2, none⟩ = some (.slice none 0 0) := hbx.cell 2
      have d3 : w2.cell? ⟨w.heap.size, 3, none⟩ = some (.slice none 0 0) := hbx.cell 3
      have f0 : w2.frozen? ⟨w.heap.size, 0, none⟩ = false := hbx.frozen 0
      have f1 : w2.frozen? ⟨w.heap.size, 1, none⟩ = false := hbx.frozen 1
      have f2 : w2.frozen? ⟨w.heap.size, 2, none⟩ = false := hbx.frozen 2
      have f3 : w2.frozen? ⟨w.heap.size, 3, none⟩ = false := hbx.frozen 3)
    refine bodyPost_ret (v := .tuple #[.agg #[.int .i64 0, .int .u32 0, .slice A' left.length c', .slice none 0 0], .int .i64 0]) (by simp [results, Tryd.results69, go_sem, d0, d1, d2, d3]) rfl ?_
    rw [HE.out]
    refine ⟨fun h => by simp at h, fun _ => ⟨A', c', none, 0, rfl, ?_, World.ownsRow_nil _ _ _ _, ?_, ?_⟩⟩
    · exact own_mono (own_four ho (own_ne ho hbx (by decide)) _ _ _ _) (by simp [World.setCell])
    · exact hr2.four hB (Nat.ne_of_lt hglt) _ _ _ _
    · exact ((HK1.out _).trans hk2).four (Nat.le_refl _) _ _ _ _
end Go.Proofs.YtdplngplljejhaaDoor
