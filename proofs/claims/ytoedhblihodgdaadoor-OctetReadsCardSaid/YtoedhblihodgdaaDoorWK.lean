import Derived.Test.YtoedhblihodgdaaDoorWI
import Derived.Test.YtoedhblihodgdaaDoorWJ
import Derived.Lib.SlBytesConst
namespace Go.Proofs.YtoedhblihodgdaaDoor
open Go.RowKit

def exL1 : List Fd := [⟨2, 1, [], []⟩, ⟨3, 258, [], []⟩, ⟨4, 0, [97, 98], []⟩]
def exB1 : List UInt8 := [1, 0, 0, 1, 2, 0, 0, 0, 2, 97, 98]
def exL2 : List Fd := [⟨5, 0, [], [⟨#[97]⟩, ⟨#[98]⟩]⟩]
def exB2 : List UInt8 := [0, 0, 0, 3, 97, 44, 98]
theorem ex1 : writeF exL1 = (0, exB1) := by rfl
theorem ex2 : writeF exL2 = (0, exB2) := by rfl
theorem ex3 : readF [2] [7] = (0, [⟨2, 1, [], []⟩]) := by rfl
theorem ex4 : readF [4] [0, 0, 0, 5, 97] = (3, []) := by rfl

theorem lit_cell (W : World) (cs : Array Value) (t : TypeId) (fr : Nat × Nat) (g i : Nat) (hg : g = W.heap.size) : (W.alloc (.cells cs t fr)).cell? ⟨g, i, none⟩ = cs[i]? := by
  subst hg
  exact cell_of_row _ _ i cs t fr (heap_alloc_new W _)
theorem lit_lies (W : World) (cs : Array Value) (t : TypeId) (fr : Nat × Nat) (g : Nat) (hg : g = W.heap.size) : Lies (W.alloc (.cells cs t fr)) (g + 1) (some ⟨g, 0, none⟩) cs.toList := fun _ =>
  ⟨g, 0, rfl, by simp, fun j u hu => by rw [Nat.zero_add, lit_cell W cs t fr g j hg]; simpa using hu⟩
theorem Lies.alloc {w : World} {B : Nat} {A : Option Addr} {cs : List Value} (h : Lies w B A cs) (hB : B ≤ w.heap.size) (o : Obj) : Lies (w.alloc o) B A cs := h.below ((Below.refl _ _).alloc hB o)

def exC1 (g : Nat) : Array Value := #[.int .i64 2, .int .u32 1, .slice none 0 0, .slice none 0 0, .int .i64 3, .int .u32 258, .slice none 0 0, .slice none 0 0, .int .i64 4, .int .u32 0, .slice (some ⟨g, 0, none⟩) 2 2, .slice none 0 0]
theorem ex1_fds (w : World) : FdsV ((w.alloc (.cells #[.int .u8 97, .int .u8 98] 5 (2, 3))).alloc (.cells (exC1 w.heap.size) 37)) ((w.alloc (.cells #[.int .u8 97, .int .u8 98] 5 (2, 3))).alloc (.cells (exC1 w.heap.size) 37)).heap.size (some ⟨w.heap.size + 1, 0, none⟩) exL1 := by
  have hc := fun i => lit_cell (w.alloc (.cells #[.int .u8 97, .int .u8 98] 5 (2, 3))) (exC1 w.heap.size) 37 (0, 0) (w.heap.size + 1) i (by simp)
  have hl : Lies ((w.alloc (.cells #[.int .u8 97, .int .u8 98] 5 (2, 3))).alloc (.cells (exC1 w.heap.size) 37)) ((w.alloc (.cells #[.int .u8 97, .int .u8 98] 5 (2, 3))).alloc (.cells (exC1 w.heap.size) 37)).heap.size (some ⟨w.heap.size, 0, none⟩) (bv [97, 98]) :=
    ((lit_lies w #[.int .u8 97, .int .u8 98] 5 (2, 3) w.heap.size rfl).alloc (by simp) _).more (by simp)
  have b0 : (0 : Nat) ≤ maxLen := Nat.zero_le _
  have z0 : (0 : Nat) ≤ 0 := Nat.zero_le _
  have b2 : (2 : Nat) ≤ maxLen := by unfold maxLen; omega
  intro _
  refine ⟨w.heap.size + 1, 0, rfl, by simp, fun k hk => ?_⟩
  have hk3 : k < 3 := hk
  have h3 : k = 0 ∨ k = 1 ∨ k = 2 := by omega
  rcases h3 with rfl | rfl | rfl
  · have f : ∀ W B, FdV W B (.agg #[.int .i64 2, .int .u32 1, .slice none 0 0, .slice none 0 0]) ⟨2, 1, [], []⟩ := fun W B => ⟨none, 0, none, 0, rfl, by decide, by decide, b0, b0, ⟨z0, z0⟩, Lies.nil_, Lies.nil_, fun s hs => by cases hs⟩
    exact ⟨none, 0, none, 0, f _ _, hc 0, hc 1, hc 2, hc 3⟩
  · have f : ∀ W B, FdV W B (.agg #[.int .i64 3, .int .u32 258, .slice none 0 0, .slice none 0 0]) ⟨3, 258, [], []⟩ := fun W B => ⟨none, 0, none, 0, rfl, by decide, by decide, b0, b0, ⟨z0, z0⟩, Lies.nil_, Lies.nil_, fun s hs => by cases hs⟩
    exact ⟨none, 0, none, 0, f _ _, hc 4, hc 5, hc 6, hc 7⟩
  · have f : ∀ W B, Lies W B (some ⟨w.heap.size, 0, none⟩) (bv [97, 98]) → FdV W B (.agg #[.int .i64 4, .int .u32 0, .slice (some ⟨w.heap.size, 0, none⟩) 2 2, .slice none 0 0]) ⟨4, 0, [97, 98], []⟩ := fun W B h => ⟨some ⟨w.heap.size, 0, none⟩, 2, none, 0, rfl, by decide, by decide, b2, b0, ⟨Nat.le_refl _, z0⟩, h, Lies.nil_, fun s hs => by cases hs⟩
    exact ⟨some ⟨w.heap.size, 0, none⟩, 2, none, 0, f _ _ hl, hc 8, hc 9, hc 10, hc 11⟩

def exC2 (g : Nat) : Array Value := #[.int .i64 5, .int .u32 0, .slice none 0 0, .slice (some ⟨g, 0, none⟩) 2 2]
theorem ex2_fds (w : World) : FdsV ((w.alloc (.cells #[.string ⟨#[97]⟩, .string ⟨#[98]⟩] 9)).alloc (.cells (exC2 w.heap.size) 37)) ((w.alloc (.cells #[.string ⟨#[97]⟩, .string ⟨#[98]⟩] 9)).alloc (.cells (exC2 w.heap.size) 37)).heap.size (some ⟨w.heap.size + 1, 0, none⟩) exL2 := by
  have hc := fun i => lit_cell (w.alloc (.cells #[.string ⟨#[97]⟩, .string ⟨#[98]⟩] 9)) (exC2 w.heap.size) 37 (0, 0) (w.heap.size + 1) i (by simp)
  have hl : Lies ((w.alloc (.cells #[.string ⟨#[97]⟩, .string ⟨#[98]⟩] 9)).alloc (.cells (exC2 w.heap.size) 37)) ((w.alloc (.cells #[.string ⟨#[97]⟩, .string ⟨#[98]⟩] 9)).alloc (.cells (exC2 w.heap.size) 37)).heap.size (some ⟨w.heap.size, 0, none⟩) (sv [⟨#[97]⟩, ⟨#[98]⟩]) :=
    ((lit_lies w #[.string ⟨#[97]⟩, .string ⟨#[98]⟩] 9 (0, 0) w.heap.size rfl).alloc (by simp) _).more (by simp)
  have b0 : (0 : Nat) ≤ maxLen := Nat.zero_le _
  have z0 : (0 : Nat) ≤ 0 := Nat.zero_le _
  have b2 : (2 : Nat) ≤ maxLen := by unfold maxLen; omega
  intro _
  refine ⟨w.heap.size + 1, 0, rfl, by simp, fun k hk => ?_⟩
  have hk3 : k < 1 := hk
  have h3 : k = 0 := by omega
  subst h3
  have hsz : ∀ s ∈ [(⟨#[97]⟩ : ByteArray), ⟨#[98]⟩], s.size ≤ maxLen := by
    intro s hs'
    simp only [List.mem_cons, List.mem_nil_iff, or_false] at hs'
    have h1 : s.size = 1 := by rcases hs' with rfl | rfl <;> rfl
    unfold maxLen
    omega
  have f : ∀ W B, Lies W B (some ⟨w.heap.size, 0, none⟩) (sv [⟨#[97]⟩, ⟨#[98]⟩]) → FdV W B (.agg #[.int .i64 5, .int .u32 0, .slice none 0 0, .slice (some ⟨w.heap.size, 0, none⟩) 2 2]) ⟨5, 0, [], [⟨#[97]⟩, ⟨#[98]⟩]⟩ := fun W B h => ⟨none, 0, some ⟨w.heap.size, 0, none⟩, 2, rfl, by decide, by decide, b0, b2, ⟨z0, Nat.le_refl _⟩, Lies.nil_, h, hsz⟩
  exact ⟨none, 0, some ⟨w.heap.size, 0, none⟩, 2, f _ _ hl, hc 0, hc 1, hc 2, hc 3⟩

theorem alive_w1 (w : World) : Calls Tryd.prog 11 #[.slice (some ⟨w.heap.size + 1, 0, none⟩) 3 3]
    ((w.alloc (.cells #[.int .u8 97, .int .u8 98] 5 (2, 3))).alloc (.cells #[.int .i64 2, .int .u32 1, .slice none 0 0, .slice none 0 0, .int .i64 3, .int .u32 258, .slice none 0 0, .slice none 0 0, .int .i64 4, .int .u32 0, .slice (some ⟨w.heap.size, 0, none⟩) 2 2, .slice none 0 0] 37))
    fun e w2 => ∃ A1 c1, e = .returned (.tuple #[.slice A1 11 c1, .int .i64 0]) ∧ Hid (Lies w2 w2.heap.size A1 (bv exB1)) ∧ Hid (Below w.heap.size w w2) := by
  refine (write_any _ (some ⟨w.heap.size + 1, 0, none⟩) 3 exL1 (ex1_fds w) (Nat.le_refl 3) (by unfold maxLen; omega)).mono ?_
  rw [ex1]
  rintro e w2 ⟨A1, c1, rfl, ho1, hb1⟩
  exact ⟨A1, c1, rfl, Lies.own ho1, (((Below.refl _ _).alloc (Nat.le_refl _) _).alloc (by simp) _).trans (hb1.mono (by simp; omega))⟩
theorem alive_w2 (w : World) : Calls Tryd.prog 11 #[.slice (some ⟨w.heap.size + 1, 0, none⟩) 1 1]
    ((w.alloc (.cells #[.string ⟨#[97]⟩, .string ⟨#[98]⟩] 9)).alloc (.cells #[.int .i64 5, .int .u32 0, .slice none 0 0, .slice (some ⟨w.heap.size, 0, none⟩) 2 2] 37))
    fun e w2 => ∃ A1 c1, e = .returned (.tuple #[.slice A1 7 c1, .int .i64 0]) ∧ Hid (Lies w2 w2.heap.size A1 (bv exB2)) ∧ Hid (Below w.heap.size w w2) := by
  refine (write_any _ (some ⟨w.heap.size + 1, 0, none⟩) 1 exL2 (ex2_fds w) (Nat.le_refl 1) (by unfold maxLen; omega)).mono ?_
  rw [ex2]
  rintro e w2 ⟨A1, c1, rfl, ho1, hb1⟩
  exact ⟨A1, c1, rfl, Lies.own ho1, (((Below.refl _ _).alloc (Nat.le_refl _) _).alloc (by simp) _).trans (hb1.mono (by simp; omega))⟩
theorem alive_r (w : World) (m : Int) (hm : w.cell? ⟨0, 0, none⟩ = some (.int .i64 m)) (ks : List Int) (bs : List UInt8) (n k : Nat) (hk : ks.length = n) (hb : bs.length = k) (hk2 : n ≤ 1000) (hb2 : k ≤ maxLen) :
    Calls Tryd.prog 17 #[.slice (some ⟨w.heap.size, 0, none⟩) n n, .slice (some ⟨w.heap.size + 1, 0, none⟩) k k] ((w.alloc (.cells (ks.map (Value.int .i64)).toArray 3)).alloc (.cells (bv bs).toArray 5))
    fun e w2 => ∃ W, Hid (Below w.heap.size w W) ∧ Below W.heap.size W w2 ∧ ReadR W (readF ks bs) e w2 := by
  subst hk
  subst hb
  have hc : ((w.alloc (.cells (ks.map (Value.int .i64)).toArray 3)).alloc (.cells (bv bs).toArray 5)).cell? ⟨0, 0, none⟩ = some (.int .i64 m) := by
    have hpos : 0 < w.heap.size := World.block_lt_of_cell? w _ hm
    rw [World.cell?_alloc_lt _ _ _ (Nat.lt_of_lt_of_le hpos (by simp)), World.cell?_alloc_lt _ _ _ hpos, hm]
  have h1 := ((lit_lies w (ks.map (Value.int .i64)).toArray 3 (0, 0) w.heap.size rfl).alloc (by simp) (.cells (bv bs).toArray 5)).more (B' := ((w.alloc (.cells (ks.map (Value.int .i64)).toArray 3)).alloc (.cells (bv bs).toArray 5)).heap.size) (by simp)
  have h2 := (lit_lies (w.alloc (.cells (ks.map (Value.int .i64)).toArray 3)) (bv bs).toArray 5 (0, 0) (w.heap.size + 1) (by simp)).more (B' := ((w.alloc (.cells (ks.map (Value.int .i64)).toArray 3)).alloc (.cells (bv bs).toArray 5)).heap.size) (by simp)
  refine (read_any _ (some ⟨w.heap.size, 0, none⟩) ks.length ks (some ⟨w.heap.size + 1, 0, none⟩) bs.length bs m (by simpa using h1) hk2 ⟨Nat.le_refl _, hb2, by simp, by simpa using h2⟩ hc).mono ?_
  rintro e w2 ⟨A, c, cs, q1, q2, q3, hb⟩
  exact ⟨_, ((Below.refl _ _).alloc (Nat.le_refl _) _).alloc (by simp) _, hb, A, c, cs, q1, q2, q3, hb⟩
theorem alive_r1 (w : World) (m : Int) (hm : Hid (w.cell? ⟨0, 0, none⟩ = some (.int .i64 m))) :
    Calls Tryd.prog 17 #[.slice (some ⟨w.heap.size, 0, none⟩) 1 1, .slice (some ⟨w.heap.size + 1, 0, none⟩) 1 1] ((w.alloc (.cells #[.int .i64 2] 3)).alloc (.cells #[.int .u8 7] 5))
    fun e w2 => ∃ g c v2 v3, e = .returned (.tuple #[.slice (some ⟨g, 0, none⟩) 1 c, .int .i64 0]) ∧ Hid (Below w.heap.size w w2) ∧ g < w2.heap.size ∧ Hid (w2.cell? ⟨g, 0, none⟩ = some (.int .i64 2) ∧ w2.cell? ⟨g, 1, none⟩ = some (.int .u32 1) ∧ w2.cell? ⟨g, 2, none⟩ = some v2 ∧ w2.cell? ⟨g, 3, none⟩ = some v3) := by
  refine (alive_r w m hm.out [2] [7] 1 1 rfl rfl (by omega) (by unfold maxLen; omega)).mono ?_
  rw [ex3]
  rintro e w2 ⟨W, hb1, hb2, A, c, cs, rfl, ho, hf, _⟩
  obtain ⟨tA, tc, lA, lc, r, rfl, _, _, hr⟩ := hf
  have hr : r = [] := hr
  subst hr
  obtain ⟨g, o, rfl, hlt, hc⟩ := Lies.own ho (by simp)
  have hg : o = 0 := by
    rcases ho.2 with ⟨hv, _⟩ | ⟨g', cap, cur, hv, _⟩
    · cases hv
    · injection hv with hv; injection hv with hv; injection hv
  subst hg
  refine ⟨g, c, .slice tA 0 tc, .slice lA 0 lc, rfl, hb1.out.trans (hb2.mono hb1.out.size), hlt, ?_, ?_, ?_, ?_⟩
  · exact hc 0 _ rfl
  · exact hc 1 _ rfl
  · exact hc 2 _ rfl
  · exact hc 3 _ rfl
theorem alive_r2 (w : World) (m : Int) (hm : Hid (w.cell? ⟨0, 0, none⟩ = some (.int .i64 m))) :
    Calls Tryd.prog 17 #[.slice (some ⟨w.heap.size, 0, none⟩) 1 1, .slice (some ⟨w.heap.size + 1, 0, none⟩) 5 5] ((w.alloc (.cells #[.int .i64 4] 3)).alloc (.cells #[.int .u8 0, .int .u8 0, .int .u8 0, .int .u8 5, .int .u8 97] 5))
    fun e w2 => ∃ A c, e = .returned (.tuple #[.slice A 0 c, .int .i64 3]) ∧ Hid (Below w.heap.size w w2) := by
  refine (alive_r w m hm.out [4] [0, 0, 0, 5, 97] 1 5 rfl rfl (by omega) (by unfold maxLen; omega)).mono ?_
  rw [ex4]
  rintro e w2 ⟨W, hb1, hb2, A, c, cs, rfl, ho, hf, _⟩
  exact ⟨A, c, rfl, hb1.out.trans (hb2.mono hb1.out.size)⟩

theorem bel_drewN {B : Nat} {a w : World} (h : Below B a w) (n : Nat) : Below B a (w.drewN n) := ⟨h.os, h.tape, h.output, h.size, h.block⟩
theorem alive_b1 (w : World) (A : Option Addr) (c : Nat) (h : Hid (Lies w w.heap.size A (bv exB1))) : Calls Tryd.prog 13 #[.slice A 11 c, .slice (some ⟨w.heap.size, 0, none⟩) 11 11] (w.alloc (.cells #[.int .u8 1, .int .u8 0, .int .u8 0, .int .u8 1, .int .u8 2, .int .u8 0, .int .u8 0, .int .u8 0, .int .u8 2, .int .u8 97, .int .u8 98] 5))
    fun e w2 => e = .returned (.bool true) ∧ Hid (Below w.heap.size w w2) := by
  have h2 := lit_lies w (bv exB1).toArray 5 (0, 0) w.heap.size rfl
  refine (bytes_any (w.alloc (.cells (bv exB1).toArray 5)) _ _ A (some ⟨w.heap.size, 0, none⟩) c 11 exB1 exB1 (h.out.alloc (Nat.le_refl _) _) (by simpa using h2) (by unfold maxLen; decide) (by unfold maxLen; decide)).mono ?_
  rintro e w2 ⟨rfl, n, rfl⟩
  exact ⟨by simp, bel_drewN ((Below.refl _ _).alloc (Nat.le_refl _) _) n⟩
theorem alive_b2 (w : World) (A : Option Addr) (c : Nat) (h : Hid (Lies w w.heap.size A (bv exB2))) : Calls Tryd.prog 13 #[.slice A 7 c, .slice (some ⟨w.heap.size, 0, none⟩) 7 7] (w.alloc (.cells #[.int .u8 0, .int .u8 0, .int .u8 0, .int .u8 3, .int .u8 97, .int .u8 44, .int .u8 98] 5))
    fun e w2 => e = .returned (.bool true) ∧ Hid (Below w.heap.size w w2) := by
  have h2 := lit_lies w (bv exB2).toArray 5 (0, 0) w.heap.size rfl
  refine (bytes_any (w.alloc (.cells (bv exB2).toArray 5)) _ _ A (some ⟨w.heap.size, 0, none⟩) c 7 exB2 exB2 (h.out.alloc (Nat.le_refl _) _) (by simpa using h2) (by unfold maxLen; decide) (by unfold maxLen; decide)).mono ?_
  rintro e w2 ⟨rfl, n, rfl⟩
  exact ⟨by simp, bel_drewN ((Below.refl _ _).alloc (Nat.le_refl _) _) n⟩

theorem hm_below {w w2 : World} {m : Int} (h : Hid (w.cell? ⟨0, 0, none⟩ = some (.int .i64 m))) (hb : Hid (Below w.heap.size w w2)) (hp : 0 < w.heap.size) : Hid (w2.cell? ⟨0, 0, none⟩ = some (.int .i64 m)) := (hb.out.cell (p := ⟨0, 0, none⟩) hp).trans h.out
theorem bel_trans {a b c : World} (h : Hid (Below a.heap.size a b)) (k : Hid (Below b.heap.size b c)) : Hid (Below a.heap.size a c) := h.out.trans (k.out.mono h.out.size)
theorem lies_bel {w w2 : World} {A : Option Addr} {cs : List Value} (h : Hid (Lies w w.heap.size A cs)) (hb : Hid (Below w.heap.size w w2)) : Hid (Lies w2 w2.heap.size A cs) := (h.out.below hb.out).more hb.out.size

set_option maxHeartbeats 400000 in
set_option maxRecDepth 100000 in
theorem alive_any (w : World) (m : Int) (hm : w.cell? ⟨0, 0, none⟩ = some (.int .i64 m)) :
    Calls Tryd.prog 8 #[] w fun e w' => e = .returned (.bool true) ∧ Below w.heap.size w w' := by
  have hcv := Lib.run_convert_bytes_const (P := Tryd.prog) w 26 5 #[.int .u8 97, .int .u8 98] 2 2 Tryd.underlying26 Tryd.underlying5
  have hpos : 0 < w.heap.size := World.block_lt_of_cell? w _ hm
  have HM := hid hm
  clear hm
  go_enter Tryd.func8, Tryd.ntmps8
  go_wp2_with (first
    | (go_at_call 11
       ((with_reducible refine (alive_w1 _).mono ?_); rintro e w2 ⟨A1, c1, rfl, HL1, HB2⟩))
    | (go_at_call 11
       ((with_reducible refine (alive_w2 _).mono ?_); rintro e w3 ⟨A2, c2, rfl, HL2, HB3⟩))
    | (go_at_call 17
       have hM3 := hm_below HM (bel_trans HB2 HB3) hpos
       ((with_reducible refine (alive_r1 _ m hM3).mono ?_); rintro e w4 ⟨g, c4, v2, v3, rfl, HB4, hg4, HC4⟩))
    | (go_at_call 17
       have hM4 := hm_below HM (bel_trans (bel_trans HB2 HB3) HB4) hpos
       ((with_reducible refine (alive_r2 _ m hM4).mono ?_); rintro e w5 ⟨A5, c5, rfl, HB5⟩))
    | (go_at_call 13
       have hL1 := lies_bel HL1 (bel_trans (bel_trans HB3 HB4) HB5)
       ((with_reducible refine (alive_b1 _ _ _ hL1).mono ?_); rintro e w6 ⟨rfl, HB6⟩))
    | (go_at_call 13
       have hL2 := lies_bel HL2 (bel_trans (bel_trans HB4 HB5) HB6)
       ((with_reducible refine (alive_b2 _ _ _ hL2).mono ?_); rintro e w7 ⟨rfl, HB7⟩)
       have hB := bel_trans (bel_trans HB5 HB6) HB7
       have k1 : w7.cell? ⟨g, 1, none⟩ = some (.int .u32 1) := (hB.out.cell (p := ⟨g, 1, none⟩) hg4).trans HC4.out.2.1))
  go_ret
  exact ⟨rfl, (bel_trans (bel_trans (bel_trans HB2 HB3) HB4) (bel_trans (bel_trans HB5 HB6) HB7)).out⟩
end Go.Proofs.YtoedhblihodgdaaDoor
