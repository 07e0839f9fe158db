import Derived.Test.YtlmdbcmaophhnaaDoorMO
import Derived.Test.YtlmdbcmaophhnaaDoorMK
import Derived.Lib.SlBytesConst
namespace Go.Proofs.YtlmdbcmaophhnaaDoor
open Go.RowKit

theorem encode_x (w : World) (m : Mg) (A : Option Addr) (c n er : Int) (l k : Nat) (bs : List UInt8) (cn : Nat) (hX : Hid (encF m = (er, bs))) (hm : Hid m.Ok) (hd : Hid (TK w w.heap.size A cn m.data)) (hl : m.data.length = l) (hn : bs.length = k) :
    Calls Tryd.prog 11 #[.agg #[.int .i64 m.kind, .int .u32 m.chan, .int .u32 m.sender, .int .u32 m.window, .int .u32 m.packet, .int .u32 m.code, .string m.name, .string m.lang, .bool m.want, .slice A l cn]] w fun e w' => ∃ A1 c1, e = .returned (.tuple #[.slice A1 k c1, .int .i64 er]) ∧ Hid (w'.ownsRow w.heap.size 5 1 (.slice A1 k c1) k (bv bs)) ∧ Hid (Below w.heap.size w w') := by
  subst hl; subst hn
  refine (encode_any w m A cn hm.out hd.out).mono ?_
  rw [hX.out]
  rintro e w' ⟨A1, c1, rfl, ho, hb⟩
  exact ⟨A1, c1, rfl, ho, hb⟩
theorem decode_x (w : World) (A : Option Addr) (c n l : Nat) (b : List UInt8) (mm er : Int) (m : Mg) (hX : Hid (decF b = (er, m))) (hn : b.length = n) (hl : m.data.length = l) (hb : Hid (SlB w w.heap.size A c b)) (hmm : Hid (w.cell? ⟨0, 0, none⟩ = some (.int .i64 mm))) :
    Calls Tryd.prog 15 #[.slice A n c] w fun e w' => ∃ A1 c1, e = .returned (.tuple #[.agg #[.int .i64 m.kind, .int .u32 m.chan, .int .u32 m.sender, .int .u32 m.window, .int .u32 m.packet, .int .u32 m.code, .string m.name, .string m.lang, .bool m.want, .slice A1 l c1], .int .i64 er]) ∧ Hid (w'.ownsRow w.heap.size 5 1 (.slice A1 l c1) l (bv m.data)) ∧ Hid (Below w.heap.size w w') := by
  subst hl; subst hn
  refine (decode_any w A c b mm hb.out hmm.out).mono ?_
  rw [hX.out]
  rintro e w' ⟨A1, c1, rfl, ho, hb⟩
  exact ⟨A1, c1, rfl, ho, hb⟩
theorem own_x (w : World) (m x : Mg) (A : Option Addr) (c l k base : Nat) (hX : Hid (ownM m = x)) (hl : m.data.length = l) (hk : x.data.length = k) (hd : Hid (TK w base A c m.data)) :
    Calls Tryd.prog 17 #[.agg #[.int .i64 m.kind, .int .u32 m.chan, .int .u32 m.sender, .int .u32 m.window, .int .u32 m.packet, .int .u32 m.code, .string m.name, .string m.lang, .bool m.want, .slice A l c]] w fun e w' => ∃ A1 c1, e = .returned (.agg #[.int .i64 x.kind, .int .u32 x.chan, .int .u32 x.sender, .int .u32 x.window, .int .u32 x.packet, .int .u32 x.code, .string x.name, .string x.lang, .bool x.want, .slice A1 k c1]) ∧ Hid (Below w.heap.size w w') ∧ Hid (TK w' base A1 c1 x.data) := by
  subst hl; subst hk
  refine (own_m m A c base w hd.out).mono ?_
  rw [hX.out]
  rintro e w' ⟨A1, c1, rfl, hb, ht⟩
  exact ⟨A1, c1, rfl, hb, ht⟩
theorem same_x (w : World) (m : Mg) (A A2 : Option Addr) (c c2 l : Nat) (hl : m.data.length = l) (hx : Hid (Lies w w.heap.size A (bv m.data))) (hy : Hid (Lies w w.heap.size A2 (bv m.data))) (hm : l ≤ maxLen) :
    Calls Tryd.prog 14 #[.agg #[.int .i64 m.kind, .int .u32 m.chan, .int .u32 m.sender, .int .u32 m.window, .int .u32 m.packet, .int .u32 m.code, .string m.name, .string m.lang, .bool m.want, .slice A l c], .agg #[.int .i64 m.kind, .int .u32 m.chan, .int .u32 m.sender, .int .u32 m.window, .int .u32 m.packet, .int .u32 m.code, .string m.name, .string m.lang, .bool m.want, .slice A2 l c2]] w fun e w' => e = .returned (.bool true) ∧ Hid (Below w.heap.size w w') := by
  subst hl
  exact (same_m m A A2 c c2 _ _ w hx.out hy.out (Nat.le_refl _) (Nat.le_refl _) hm)
theorem great_x (w : World) (m : Mg) (A : Option Addr) (c l : Nat) (g : Bool) (hX : Hid (greatB m = g)) (hl : m.data.length = l) (hm : l ≤ maxLen) (hn : m.name.size ≤ maxLen) (hg : m.lang.size ≤ maxLen) :
    Calls Tryd.prog 9 #[.agg #[.int .i64 m.kind, .int .u32 m.chan, .int .u32 m.sender, .int .u32 m.window, .int .u32 m.packet, .int .u32 m.code, .string m.name, .string m.lang, .bool m.want, .slice A l c]] w fun e w' => e = .returned (.bool g) ∧ Hid (Below w.heap.size w w') := by
  subst hl
  refine (great_m m A c w hm hn hg).mono ?_
  rw [hX.out]
  exact fun e w' h => h

/- The document's examples. -/
def exM : Mg := ⟨94, 7, 0, 0, 0, 0, ⟨#[]⟩, ⟨#[]⟩, false, [104, 105]⟩
def exB : List UInt8 := [94, 0, 0, 0, 7, 0, 0, 0, 2, 104, 105]
theorem ex1 : encF exM = (0, exB) := by rfl
theorem ex2 : decF [81] = (0, { zeroM with kind := 81 }) := by rfl
theorem ex3 : decF [3] = (8, zeroM) := by rfl
theorem ex4 : decF [94, 0] = (3, zeroM) := by rfl
theorem hm_below {w w2 : World} {m : Int} (h : Hid (w.cell? ⟨0, 0, none⟩ = some (.int .i64 m))) (hb : Hid (Below w.heap.size w w2)) (hp : 0 < w.heap.size) : Hid (w2.cell? ⟨0, 0, none⟩ = some (.int .i64 m)) := (hb.out.cell (p := ⟨0, 0, none⟩) hp).trans h.out

theorem alive_e (w : World) : Calls Tryd.prog 11 #[.agg #[.int .i64 94, .int .u32 7, .int .u32 0, .int .u32 0, .int .u32 0, .int .u32 0, .string ⟨#[]⟩, .string ⟨#[]⟩, .bool false, .slice (some ⟨w.heap.size, 0, none⟩) 2 2]] (w.alloc (.cells #[.int .u8 104, .int .u8 105] 5 (2, 3)))
    fun e w' => ∃ A1 c1, e = .returned (.tuple #[.slice A1 11 c1, .int .i64 0]) ∧ Hid (Lies w' w'.heap.size A1 (bv exB)) ∧ Hid (Below w.heap.size w w') := by
  have hl := lit_lies w #[.int .u8 104, .int .u8 105] 5 (2, 3) w.heap.size rfl
  have hb := bel1 w (.cells #[.int .u8 104, .int .u8 105] 5 (2, 3))
  refine (encode_x (w.alloc (.cells #[.int .u8 104, .int .u8 105] 5 (2, 3))) exM (some ⟨w.heap.size, 0, none⟩) 0 0 0 2 11 exB 2 ex1 ⟨by constructor <;> decide, by decide, by decide, by decide, by decide, by decide, Nat.zero_le _, Nat.zero_le _⟩
    (TK.of_low (Nat.le_refl _) (by unfold maxLen; decide) (by simpa [bv, exM] using hl) (Nat.le_refl _)) rfl rfl).mono ?_
  rintro e w' ⟨A1, c1, rfl, ho, hb2⟩
  exact ⟨A1, c1, rfl, Lies.own ho.out, hb.trans (hb2.out.mono hb.size)⟩
theorem alive_d (w : World) (cs : List UInt8) (n : Nat) (er mm : Int) (m : Mg) (hX : decF cs = (er, m)) (hn : cs.length = n) (hl : m.data = []) (hc : n ≤ 100) (hm : Hid (w.cell? ⟨0, 0, none⟩ = some (.int .i64 mm))) :
    Calls Tryd.prog 15 #[.slice (some ⟨w.heap.size, 0, none⟩) n n] (w.alloc (.cells (bv cs).toArray 5))
    fun e w' => ∃ A1 c1, e = .returned (.tuple #[.agg #[.int .i64 m.kind, .int .u32 m.chan, .int .u32 m.sender, .int .u32 m.window, .int .u32 m.packet, .int .u32 m.code, .string m.name, .string m.lang, .bool m.want, .slice A1 0 c1], .int .i64 er]) ∧ Hid (Below w.heap.size w w') := by
  have hlies := lit_lies w (bv cs).toArray 5 (0, 0) w.heap.size rfl
  have hb := bel1 w (.cells (bv cs).toArray 5)
  have hp := World.block_lt_of_cell? w _ hm.out
  refine (decode_x (w.alloc (.cells (bv cs).toArray 5)) (some ⟨w.heap.size, 0, none⟩) n n 0 cs mm er m hX hn (by rw [hl]; rfl) ⟨by omega, by unfold maxLen; omega, by simp, by simpa using hlies⟩ (hm_below hm hb hp)).mono ?_
  rintro e w' ⟨A1, c1, rfl, _, hb2⟩
  exact ⟨A1, c1, rfl, hb.trans (hb2.out.mono hb.size)⟩
theorem alive_d1 (w : World) (mm : Int) (hm : Hid (w.cell? ⟨0, 0, none⟩ = some (.int .i64 mm))) :
    Calls Tryd.prog 15 #[.slice (some ⟨w.heap.size, 0, none⟩) 1 1] (w.alloc (.cells #[.int .u8 81] 5))
    fun e w' => ∃ A1 c1, e = .returned (.tuple #[.agg #[.int .i64 81, .int .u32 0, .int .u32 0, .int .u32 0, .int .u32 0, .int .u32 0, .string ⟨#[]⟩, .string ⟨#[]⟩, .bool false, .slice A1 0 c1], .int .i64 0]) ∧ Hid (Below w.heap.size w w') := alive_d w [81] 1 0 mm _ ex2 rfl rfl (by omega) hm
theorem alive_d2 (w : World) (o : Obj) (mm : Int) (hm : Hid (w.cell? ⟨0, 0, none⟩ = some (.int .i64 mm))) :
    Calls Tryd.prog 15 #[.slice (some ⟨w.heap.size + 1, 0, none⟩) 1 1] ((w.alloc o).alloc (.cells #[.int .u8 3] 5))
    fun e w' => ∃ A1 c1, e = .returned (.tuple #[.agg #[.int .i64 0, .int .u32 0, .int .u32 0, .int .u32 0, .int .u32 0, .int .u32 0, .string ⟨#[]⟩, .string ⟨#[]⟩, .bool false, .slice A1 0 c1], .int .i64 8]) ∧ Hid (Below (w.heap.size + 1) (w.alloc o) w') := by
  have hb := bel1 w o
  have h := alive_d (w.alloc o) [3] 1 8 mm _ ex3 rfl rfl (by omega) (hm_below hm hb (World.block_lt_of_cell? w _ hm.out))
  have e : (w.alloc o).heap.size = w.heap.size + 1 := by simp
  rw [e] at h
  refine h.mono ?_
  rintro e w' ⟨A1, c1, rfl, hb2⟩
  exact ⟨A1, c1, rfl, hb2⟩
theorem alive_d3 (w : World) (o : Obj) (mm : Int) (hm : Hid (w.cell? ⟨0, 0, none⟩ = some (.int .i64 mm))) :
    Calls Tryd.prog 15 #[.slice (some ⟨w.heap.size + 1, 0, none⟩) 2 2] ((w.alloc o).alloc (.cells #[.int .u8 94, .int .u8 0] 5))
    fun e w' => ∃ A1 c1, e = .returned (.tuple #[.agg #[.int .i64 0, .int .u32 0, .int .u32 0, .int .u32 0, .int .u32 0, .int .u32 0, .string ⟨#[]⟩, .string ⟨#[]⟩, .bool false, .slice A1 0 c1], .int .i64 3]) ∧ Hid (Below (w.heap.size + 1) (w.alloc o) w') := by
  have hb := bel1 w o
  have h := alive_d (w.alloc o) [94, 0] 2 3 mm _ ex4 rfl rfl (by omega) (hm_below hm hb (World.block_lt_of_cell? w _ hm.out))
  have e : (w.alloc o).heap.size = w.heap.size + 1 := by simp
  rw [e] at h
  refine h.mono ?_
  rintro e w' ⟨A1, c1, rfl, hb2⟩
  exact ⟨A1, c1, rfl, hb2⟩
theorem bel_o {w w' : World} {o : Obj} (h : Hid (Below (w.heap.size + 1) (w.alloc o) w')) : Hid (Below w.heap.size w w') := (bel1 w o).trans (h.out.mono (by omega))
theorem box_o {w w' : World} {t : TypeId} {cs : Array Value} (h : Hid (Below (w.heap.size + 1) (w.alloc (.cells cs t)) w')) : Hid (Box w' w.heap.size t cs) := (Box.new w t cs).same (h.out.block _ (by omega))
theorem box_p {w w' : World} {g : Nat} {t : TypeId} {cs : Array Value} (h : Hid (Box w g t cs)) (hb : Hid (Below w.heap.size w w')) : Hid (Box w' g t cs) := box_below h.out hb.out
theorem alive_b (w : World) (A : Option Addr) (c : Nat) (h : Hid (Lies w w.heap.size A (bv exB))) : Calls Tryd.prog 13 #[.slice A 11 c, .slice (some ⟨w.heap.size, 0, none⟩) 11 11] (w.alloc (.cells #[.int .u8 94, .int .u8 0, .int .u8 0, .int .u8 0, .int .u8 7, .int .u8 0, .int .u8 0, .int .u8 0, .int .u8 2, .int .u8 104, .int .u8 105] 5))
    fun e w2 => e = .returned (.bool true) ∧ Hid (Below w.heap.size w w2) := by
  have h2 := lit_lies w (bv exB).toArray 5 (0, 0) w.heap.size rfl
  refine (bytes_any (w.alloc (.cells (bv exB).toArray 5)) _ _ A (some ⟨w.heap.size, 0, none⟩) c 11 exB exB (h.out.alloc (Nat.le_refl _) _) (by simpa using h2) (by unfold maxLen; decide) (by unfold maxLen; decide)).mono ?_
  rintro e w2 ⟨rfl, n, rfl⟩
  exact ⟨by simp, bel_drewN ((Below.refl _ _).alloc (Nat.le_refl _) _) n⟩

theorem alive_b2 (w : World) (o : Obj) (A : Option Addr) (c : Nat) (h : Hid (Lies w w.heap.size A (bv exB))) : Calls Tryd.prog 13 #[.slice A 11 c, .slice (some ⟨w.heap.size + 1, 0, none⟩) 11 11] ((w.alloc o).alloc (.cells #[.int .u8 94, .int .u8 0, .int .u8 0, .int .u8 0, .int .u8 7, .int .u8 0, .int .u8 0, .int .u8 0, .int .u8 2, .int .u8 104, .int .u8 105] 5))
    fun e w2 => e = .returned (.bool true) ∧ Hid (Below w.heap.size w w2) := by
  have h1 := alive_b (w.alloc o) A c (lies_bel h (bel1 w o))
  have e : (w.alloc o).heap.size = w.heap.size + 1 := by simp
  rw [e] at h1
  refine h1.mono ?_
  rintro e w2 ⟨rfl, hb⟩
  exact ⟨rfl, (bel1 w o).trans (hb.out.mono (by omega))⟩
set_option maxHeartbeats 1000000 in
set_option maxRecDepth 100000 in
theorem alive_any (w : World) (m : Int) (hm : w.cell? ⟨0, 0, none⟩ = some (.int .i64 m)) :
    Calls Tryd.prog 8 #[] w fun e w' => e = .returned (.bool true) ∧ Below w.heap.size w w' := by
  have hcv := Lib.run_convert_bytes_const (P := Tryd.prog) w 23 5 #[.int .u8 104, .int .u8 105] 2 2 Tryd.underlying23 Tryd.underlying5
  have hpos : 0 < w.heap.size := World.block_lt_of_cell? w _ hm
  have HM := hid hm
  clear hm
  go_enter Tryd.func8, Tryd.ntmps8
  go_wp2_with (first
    | (go_at_call 11
       ((with_reducible refine (alive_e _).mono ?_); rintro e w2 ⟨A1, c1, rfl, HL1, HB2⟩))
    | (go_at_call 15
       have hM3 := hm_below HM HB2 hpos
       ((with_reducible refine (alive_d1 _ m hM3).mono ?_); rintro e w3 ⟨A3, c3, rfl, HB3⟩))
    | (go_at_call 15
       have hM4 := hm_below HM (bel_trans HB2 HB3) hpos
       ((with_reducible refine (alive_d2 _ _ m hM4).mono ?_); rintro e w4 ⟨A4, c4, rfl, HO4⟩)
       have HB4 := bel_o HO4
       have HX4 := box_o HO4)
    | (go_at_call 15
       have hM5 := hm_below HM (bel_trans (bel_trans HB2 HB3) HB4) hpos
       ((with_reducible refine (alive_d3 _ _ m hM5).mono ?_); rintro e w5 ⟨A5, c5, rfl, HO5⟩)
       have HB5 := bel_o HO5
       have HX5 := box_p HX4 HB5)
    | (go_at_call 13
       have hL := lies_bel HL1 (bel_trans (bel_trans HB3 HB4) HB5)
       ((with_reducible refine (alive_b2 _ _ _ _ hL).mono ?_); rintro e w6 ⟨rfl, HB6⟩)
       have HX6 := box_p HX5 HB6
       have k1 : w6.cell? ⟨w3.heap.size, 0, none⟩ = some (.int .i64 81) := HX6.out.cell 0))
  go_ret
  exact ⟨rfl, (bel_trans (bel_trans (bel_trans HB2 HB3) HB4) (bel_trans HB5 HB6)).out⟩

end Go.Proofs.YtlmdbcmaophhnaaDoor
