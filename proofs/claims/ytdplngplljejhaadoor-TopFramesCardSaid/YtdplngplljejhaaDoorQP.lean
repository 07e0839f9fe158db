import Derived.Test.YtdplngplljejhaaDoorQO
import Derived.Test.YtdplngplljejhaaDoorNB
import Derived.Lib.SlBytesConst
namespace Go.Proofs.YtdplngplljejhaaDoor
open Go.RowKit

theorem q_below {w w2 : World} {m : Int} (h : Hid (w.cell? ⟨0, 0, none⟩ = some (.int .i64 m))) (hb : Hid (Below w.heap.size w w2)) (hp : 0 < w.heap.size) : Hid (w2.cell? ⟨0, 0, none⟩ = some (.int .i64 m)) := (hb.out.cell (p := ⟨0, 0, none⟩) hp).trans h.out
theorem q_bel_o {w w' : World} {o : Obj} (h : Hid (Below (w.heap.size + 1) (w.alloc o) w')) : Hid (Below w.heap.size w w') := (bel1 w o).trans (h.out.mono (by omega))
theorem q_box_o {w w' : World} {t : TypeId} {cs : Array Value} (h : Hid (Below (w.heap.size + 1) (w.alloc (.cells cs t)) w')) : Hid (Box w' w.heap.size t cs) := (Box.new w t cs).same (h.out.block _ (by omega))
theorem q_box_p {w w' : World} {g : Nat} {t : TypeId} {cs : Array Value} (h : Hid (Box w g t cs)) (hb : Hid (Below w.heap.size w w')) : Hid (Box w' g t cs) := box_below h.out hb.out
theorem encodeq_x (w : World) (r : Rq) (A : Option Addr) (_c er : Int) (l k cn : Nat) (nm : ByteArray) (bs : List UInt8) (hX : Hid (encR r = (er, nm, bs))) (hm : Hid r.Ok) (hd : Hid (TK w w.heap.size A cn r.modes)) (hl : r.modes.length = l) (hn : bs.length = k) :
    Calls Tryd.prog 18 #[.agg #[.int .i64 r.kind, .string r.text, .string r.value, .string r.lang, .int .u32 r.cols, .int .u32 r.rows, .int .u32 r.width, .int .u32 r.height, .slice A l cn, .bool r.on, .int .u32 r.code]] w fun e w' => ∃ A1 c1, e = .returned (.tuple #[.string nm, .slice A1 k c1, .int .i64 er]) ∧ Hid (w'.ownsRow w.heap.size 5 1 (.slice A1 k c1) k (bv bs)) ∧ Hid (Below w.heap.size w w') := by
  subst hl; subst hn
  refine (encodeq_any w r A cn hm.out hd.out).mono ?_
  rw [hX.out]
  rintro e w' ⟨A1, c1, rfl, ho, hb⟩
  exact ⟨A1, c1, rfl, ho, hb⟩
theorem decodeq_x (w : World) (nm : ByteArray) (A : Option Addr) (c n l : Nat) (b : List UInt8) (mm er : Int) (x : Rq) (hX : Hid (decR nm b = (er, x))) (hs : nm.size ≤ maxLen) (hn : b.length = n) (hl : x.modes.length = l) (hb : Hid (SlB w w.heap.size A c b)) (hmm : Hid (w.cell? ⟨0, 0, none⟩ = some (.int .i64 mm))) :
    Calls Tryd.prog 6 #[.string nm, .slice A n c] w fun e w' => ∃ A1 c1, e = .returned (.tuple #[.agg #[.int .i64 x.kind, .string x.text, .string x.value, .string x.lang, .int .u32 x.cols, .int .u32 x.rows, .int .u32 x.width, .int .u32 x.height, .slice A1 l c1, .bool x.on, .int .u32 x.code], .int .i64 er]) ∧ Hid (w'.ownsRow w.heap.size 5 1 (.slice A1 l c1) l (bv x.modes)) ∧ Hid (Below w.heap.size w w') := by
  subst hl; subst hn
  refine (decodeq_any w nm A c b mm hs hb.out hmm.out).mono ?_
  rw [hX.out]
  rintro e w' ⟨A1, c1, rfl, ho, hb⟩
  exact ⟨A1, c1, rfl, ho, hb⟩

def exQ : Rq := { zeroR with kind := 9, code := 7 }
def exX : Rq := { zeroR with kind := 4, text := ⟨#[108, 115]⟩ }
theorem exq1 : encR exQ = (0, ⟨#[101, 120, 105, 116, 45, 115, 116, 97, 116, 117, 115]⟩, [0, 0, 0, 7]) := by kernel_rfl
theorem exq2 : decR ⟨#[101, 120, 101, 99]⟩ [0, 0, 0, 2, 108, 115] = (0, exX) := by kernel_rfl
theorem exq3 : decR ⟨#[115, 104, 101, 108, 108]⟩ [0] = (4, zeroR) := by kernel_rfl
theorem exq4 : decR ⟨#[120, 49, 49, 45, 114, 101, 113]⟩ [] = (8, zeroR) := by kernel_rfl

theorem aliveq_d (w : World) (nm : ByteArray) (cs : List UInt8) (n : Nat) (er mm : Int) (x : Rq) (hX : decR nm cs = (er, x)) (hs : nm.size ≤ maxLen) (hn : cs.length = n) (hl : x.modes = []) (hc : n ≤ 100) (hm : Hid (w.cell? ⟨0, 0, none⟩ = some (.int .i64 mm))) :
    Calls Tryd.prog 6 #[.string nm, .slice (some ⟨w.heap.size, 0, none⟩) n n] (w.alloc (.cells (bv cs).toArray 5))
    fun e w' => ∃ A1 c1, e = .returned (.tuple #[.agg #[.int .i64 x.kind, .string x.text, .string x.value, .string x.lang, .int .u32 x.cols, .int .u32 x.rows, .int .u32 x.width, .int .u32 x.height, .slice A1 0 c1, .bool x.on, .int .u32 x.code], .int .i64 er]) ∧ Hid (Below w.heap.size w w') := by
  have hlies := lit_lies w (bv cs).toArray 5 (0, 0) w.heap.size rfl
  have hb := bel1 w (.cells (bv cs).toArray 5)
  have hp := World.block_lt_of_cell? w _ hm.out
  refine (decodeq_x (w.alloc (.cells (bv cs).toArray 5)) nm (some ⟨w.heap.size, 0, none⟩) n n 0 cs mm er x hX hs hn (by rw [hl]; rfl) ⟨by omega, by unfold maxLen; omega, by simp, by simpa using hlies⟩ (q_below hm hb hp)).mono ?_
  rintro e w' ⟨A1, c1, rfl, _, hb2⟩
  exact ⟨A1, c1, rfl, hb.trans (hb2.out.mono hb.size)⟩
theorem aliveq_d1 (w : World) (mm : Int) (hm : Hid (w.cell? ⟨0, 0, none⟩ = some (.int .i64 mm))) :
    Calls Tryd.prog 6 #[.string ⟨#[101, 120, 101, 99]⟩, .slice (some ⟨w.heap.size, 0, none⟩) 6 6] (w.alloc (.cells #[.int .u8 0, .int .u8 0, .int .u8 0, .int .u8 2, .int .u8 108, .int .u8 115] 5))
    fun e w' => ∃ A1 c1, e = .returned (.tuple #[.agg #[.int .i64 4, .string ⟨#[108, 115]⟩, .string ⟨#[]⟩, .string ⟨#[]⟩, .int .u32 0, .int .u32 0, .int .u32 0, .int .u32 0, .slice A1 0 c1, .bool false, .int .u32 0], .int .i64 0]) ∧ Hid (Below w.heap.size w w') := aliveq_d w ⟨#[101, 120, 101, 99]⟩ [0, 0, 0, 2, 108, 115] 6 0 mm exX exq2 (by unfold maxLen; decide) rfl rfl (by omega) hm
theorem aliveq_d2 (w : World) (o : Obj) (mm : Int) (hm : Hid (w.cell? ⟨0, 0, none⟩ = some (.int .i64 mm))) :
    Calls Tryd.prog 6 #[.string ⟨#[115, 104, 101, 108, 108]⟩, .slice (some ⟨w.heap.size + 1, 0, none⟩) 1 1] ((w.alloc o).alloc (.cells #[.int .u8 0] 5))
    fun e w' => ∃ A1 c1, e = .returned (.tuple #[.agg #[.int .i64 0, .string ⟨#[]⟩, .string ⟨#[]⟩, .string ⟨#[]⟩, .int .u32 0, .int .u32 0, .int .u32 0, .int .u32 0, .slice A1 0 c1, .bool false, .int .u32 0], .int .i64 4]) ∧ Hid (Below (w.heap.size + 1) (w.alloc o) w') := by
  have hb := bel1 w o
  have h := aliveq_d (w.alloc o) ⟨#[115, 104, 101, 108, 108]⟩ [0] 1 4 mm zeroR exq3 (by unfold maxLen; decide) rfl rfl (by omega) (q_below hm hb (World.block_lt_of_cell? w _ hm.out))
  have e : (w.alloc o).heap.size = w.heap.size + 1 := by simp
  rw [e] at h
  refine h.mono ?_
  rintro e w' ⟨A1, c1, rfl, hb2⟩
  exact ⟨A1, c1, rfl, hb2⟩
theorem aliveq_d3 (w : World) (o : Obj) (mm : Int) (hm : Hid (w.cell? ⟨0, 0, none⟩ = some (.int .i64 mm))) :
    Calls Tryd.prog 6 #[.string ⟨#[120, 49, 49, 45, 114, 101, 113]⟩, .slice none 0 0] (w.alloc o)
    fun e w' => ∃ A1 c1, e = .returned (.tuple #[.agg #[.int .i64 0, .string ⟨#[]⟩, .string ⟨#[]⟩, .string ⟨#[]⟩, .int .u32 0, .int .u32 0, .int .u32 0, .int .u32 0, .slice A1 0 c1, .bool false, .int .u32 0], .int .i64 8]) ∧ Hid (Below (w.heap.size + 1) (w.alloc o) w') := by
  have hb := bel1 w o
  have h := decodeq_x (w.alloc o) ⟨#[120, 49, 49, 45, 114, 101, 113]⟩ none 0 0 0 [] mm 8 zeroR exq4 (by unfold maxLen; decide) rfl rfl ⟨Nat.le_refl _, Nat.zero_le _, fun _ => rfl, Lies.nil_⟩ (q_below hm hb (World.block_lt_of_cell? w _ hm.out))
  have e : (w.alloc o).heap.size = w.heap.size + 1 := by simp
  rw [e] at h
  refine h.mono ?_
  rintro e w' ⟨A1, c1, rfl, _, hb2⟩
  exact ⟨A1, c1, rfl, hb2⟩
theorem aliveq_e (w : World) (o : Obj) : Calls Tryd.prog 18 #[.agg #[.int .i64 9, .string ⟨#[]⟩, .string ⟨#[]⟩, .string ⟨#[]⟩, .int .u32 0, .int .u32 0, .int .u32 0, .int .u32 0, .slice none 0 0, .bool false, .int .u32 7]] (w.alloc o)
    fun e w' => ∃ A1 c1, e = .returned (.tuple #[.string ⟨#[101, 120, 105, 116, 45, 115, 116, 97, 116, 117, 115]⟩, .slice A1 4 c1, .int .i64 0]) ∧ Hid (Lies w' w'.heap.size A1 (bv [0, 0, 0, 7])) ∧ Hid (Below (w.heap.size + 1) (w.alloc o) w') := by
  have hok : exQ.Ok := by constructor <;> first | decide | (show (0 : Nat) ≤ maxLen; omega)
  have h := encodeq_x (w.alloc o) exQ none 0 0 0 4 0 _ [0, 0, 0, 7] exq1 hok (TK.nil_ _ _) rfl rfl
  have e : (w.alloc o).heap.size = w.heap.size + 1 := by simp
  rw [e] at h
  refine h.mono ?_
  rintro e w' ⟨A1, c1, rfl, ho, hb2⟩
  exact ⟨A1, c1, rfl, Lies.own ho.out, hb2⟩
theorem aliveq_b (w : World) (A : Option Addr) (c : Nat) (h : Hid (Lies w w.heap.size A (bv [0, 0, 0, 7]))) : Calls Tryd.prog 9 #[.slice A 4 c, .slice (some ⟨w.heap.size, 0, none⟩) 4 4] (w.alloc (.cells #[.int .u8 0, .int .u8 0, .int .u8 0, .int .u8 7] 5))
    fun e w2 => e = .returned (.bool true) ∧ Hid (Below w.heap.size w w2) := by
  have h2 := lit_lies w (bv [0, 0, 0, 7]).toArray 5 (0, 0) w.heap.size rfl
  refine (bytes_any (w.alloc (.cells (bv [0, 0, 0, 7]).toArray 5)) _ _ A (some ⟨w.heap.size, 0, none⟩) c 4 [0, 0, 0, 7] [0, 0, 0, 7] (h.out.alloc (Nat.le_refl _) _) (by simpa using h2) (by unfold maxLen; decide) (by unfold maxLen; decide)).mono ?_
  rintro e w2 ⟨rfl, n, rfl⟩
  exact ⟨by simp, bel_drewN ((Below.refl _ _).alloc (Nat.le_refl _) _) n⟩
set_option maxHeartbeats 2000000 in
set_option maxRecDepth 100000 in
theorem aliveq_any (w : World) (m : Int) (hm : w.cell? ⟨0, 0, none⟩ = some (.int .i64 m)) :
    Calls Tryd.prog 5 #[] w fun e w' => e = .returned (.bool true) ∧ Below w.heap.size w w' := by
  have hpos : 0 < w.heap.size := World.block_lt_of_cell? w _ hm
  have HM := hid hm
  clear hm
  go_enter Tryd.func5, Tryd.ntmps5
  go_wp2_with (first
    | (go_at_call 6
       ((with_reducible refine (aliveq_d1 _ m HM).mono ?_); rintro e w2 ⟨A2, c2, rfl, HB2⟩))
    | (go_at_call 6
       have hM2 := q_below HM HB2 hpos
       ((with_reducible refine (aliveq_d2 _ _ m hM2).mono ?_); rintro e w3 ⟨A3, c3, rfl, HO3⟩)
       have HB3 := q_bel_o HO3
       have HX3 := q_box_o HO3)
    | (go_at_call 6
       have hM3 := q_below HM (bel_trans HB2 HB3) hpos
       ((with_reducible refine (aliveq_d3 _ _ m hM3).mono ?_); rintro e w4 ⟨A4, c4, rfl, HO4⟩)
       have HB4 := q_bel_o HO4
       have HX4 := q_box_p HX3 HB4)
    | (go_at_call 18
       ((with_reducible refine (aliveq_e _ _).mono ?_); rintro e w5 ⟨A5, c5, rfl, HL5, HO5⟩)
       have HB5 := q_bel_o HO5
       have HX5 := q_box_p HX4 HB5
       have k0 : w5.cell? ⟨w2.heap.size, 0, none⟩ = some (.int .i64 4) := HX5.out.cell 0
       have k1 : w5.cell? ⟨w2.heap.size, 1, none⟩ = some (.string ⟨#[108, 115]⟩) := HX5.out.cell 1)
    | (go_at_call 9
       ((with_reducible refine (aliveq_b _ _ _ HL5).mono ?_); rintro e w6 ⟨rfl, HB6⟩)))
  go_ret
  exact ⟨rfl, (bel_trans (bel_trans (bel_trans HB2 HB3) HB4) (bel_trans HB5 HB6)).out⟩
end Go.Proofs.YtdplngplljejhaaDoor
