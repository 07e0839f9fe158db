import Derived.Test.YtlmdbcmaophhnaaDoorMM
import Derived.Test.YtlmdbcmaophhnaaDoorMP
namespace Go.Proofs.YtlmdbcmaophhnaaDoor
open Go.RowKit

/-- A message with another kind. -/
def mk (m : Mg) (z : Int) : Mg := { m with kind := z }
theorem mk_ok {m : Mg} (h : m.Ok) {z : Int} (h0 : 0 ≤ z) (h1 : z ≤ 255) : (mk m z).Ok := ⟨⟨by show _ ≤ z; omega, by show z ≤ _; omega⟩, h.chan, h.sender, h.window, h.packet, h.code, h.name, h.lang⟩
theorem zb_eq {z : Int} (h0 : 0 ≤ z) (h1 : z ≤ 255) : (((UInt8.ofNat z.toNat).toNat : Nat) : Int) = z := by rw [UInt8.toNat_ofNat']; omega
theorem decode_k (w : World) (z mm e1 : Int) (m1 : Mg) (l1 : Nat) (h0 : 0 ≤ z) (h1 : z ≤ 255) (hX : Hid (decF [UInt8.ofNat z.toNat] = (e1, m1))) (hl : m1.data.length = l1) (hm : Hid (w.cell? ⟨0, 0, none⟩ = some (.int .i64 mm))) :
    Calls Tryd.prog 15 #[.slice (some ⟨w.heap.size, 0, none⟩) 1 1] (w.alloc (.cells #[.int .u8 z] 5))
    fun e w' => ∃ A1 c1, e = .returned (.tuple #[.agg #[.int .i64 m1.kind, .int .u32 m1.chan, .int .u32 m1.sender, .int .u32 m1.window, .int .u32 m1.packet, .int .u32 m1.code, .string m1.name, .string m1.lang, .bool m1.want, .slice A1 l1 c1], .int .i64 e1]) ∧ Hid (Below (w.heap.size + 1) (w.alloc (.cells #[.int .u8 z] 5)) w') := by
  have hlies := lit_lies w #[.int .u8 z] 5 (0, 0) w.heap.size rfl
  have hb := bel1 w (.cells #[.int .u8 z] 5)
  have hp := World.block_lt_of_cell? w _ hm.out
  have e : (w.alloc (.cells #[.int .u8 z] 5)).heap.size = w.heap.size + 1 := by simp
  have hbv : bv [UInt8.ofNat z.toNat] = [.int .u8 z] := by simp only [bv, List.map_cons, List.map_nil, zb_eq h0 h1]
  have h := decode_x (w.alloc (.cells #[.int .u8 z] 5)) (some ⟨w.heap.size, 0, none⟩) 1 1 l1 [UInt8.ofNat z.toNat] mm e1 m1 hX rfl hl ⟨Nat.le_refl _, by unfold maxLen; omega, by simp, by rw [hbv, e]; exact hlies⟩ (hm_below hm hb hp)
  rw [e] at h
  refine h.mono ?_
  rintro e w' ⟨A1, c1, rfl, _, hb2⟩
  exact ⟨A1, c1, rfl, hb2⟩
theorem encode_m (w3 : World) (o : Obj) (g : Nat) (m : Mg) (z : Int) (A : Option Addr) (er : Int) (l k : Nat) (bs : List UInt8) (c base : Nat) (hX : Hid (encF (mk m z) = (er, bs))) (hm : Hid m.Ok) (hz0 : 0 ≤ z) (hz1 : z ≤ 255) (hbx : Hid (Box w3 g 25 #[.int .i64 m.kind, .int .u32 m.chan, .int .u32 m.sender, .int .u32 m.window, .int .u32 m.packet, .int .u32 m.code, .string m.name, .string m.lang, .bool m.want, .slice A l c])) (hd : Hid (TK w3 base A c m.data)) (hb : base ≤ g) (hl : m.data.length = l) (hn : bs.length = k) :
    Calls Tryd.prog 11 #[.agg #[.int .i64 z, .int .u32 m.chan, .int .u32 m.sender, .int .u32 m.window, .int .u32 m.packet, .int .u32 m.code, .string m.name, .string m.lang, .bool m.want, .slice A l c]] ((w3.alloc o).setCell ⟨g, 0, none⟩ (.int .i64 z)) fun e w' => ∃ A1 c1, e = .returned (.tuple #[.slice A1 k c1, .int .i64 er]) ∧ Hid (w'.ownsRow w3.heap.size 5 1 (.slice A1 k c1) k (bv bs)) ∧ Hid (Kept base [25] w3 w') ∧ Hid (Below ((w3.alloc o).setCell ⟨g, 0, none⟩ (.int .i64 z)).heap.size ((w3.alloc o).setCell ⟨g, 0, none⟩ (.int .i64 z)) w') := by
  have hx1 := box_a hbx o
  have hk : Kept base [25] w3 ((w3.alloc o).setCell ⟨g, 0, none⟩ (.int .i64 z)) := ((Kept.refl base [25] w3).alloc o).store hx1.out hb (by simp) _
  have htk : TK ((w3.alloc o).setCell ⟨g, 0, none⟩ (.int .i64 z)) base A c (mk m z).data := hd.out.kept hk (by decide)
  have hsz : ((w3.alloc o).setCell ⟨g, 0, none⟩ (.int .i64 z)).heap.size = w3.heap.size + 1 := by simp [World.setCell]
  refine (encode_x _ (mk m z) A 0 0 er l k bs c hX (mk_ok hm.out hz0 hz1) (tk_base htk (by have := hx1.out.lt; have := hbx.out.lt; omega)) hl hn).mono ?_
  rintro e w' ⟨A1, c1, rfl, ho, hb2⟩
  exact ⟨A1, c1, rfl, own_mono ho.out (by omega), hk.trans (Kept.of_below hb2.out base [25]), hb2⟩

set_option maxHeartbeats 4000000 in
set_option maxRecDepth 100000 in
theorem kinds_great (w : World) (m : Mg) (A : Option Addr) (c l : Nat) (z cut mm : Int) (hm : m.Ok) (hl : m.data.length = l) (hd : TK w w.heap.size A c m.data) (hz0 : 0 ≤ z) (hz1 : z ≤ 255) (hc0 : 0 ≤ cut) (hc1 : cut ≤ 65535) (hmm : w.cell? ⟨0, 0, none⟩ = some (.int .i64 mm)) (hg : greatB m = true) :
    Calls Tryd.prog 7 #[.agg #[.int .i64 m.kind, .int .u32 m.chan, .int .u32 m.sender, .int .u32 m.window, .int .u32 m.packet, .int .u32 m.code, .string m.name, .string m.lang, .bool m.want, .slice A l c], .int .u8 z, .int .u16 cut] w fun e w' => e = .returned (.bool true) ∧ Below w.heap.size w w' := by
  have hpos : 0 < w.heap.size := World.block_lt_of_cell? w _ hmm
  have hlm : l ≤ maxLen := by have := hd.1; have := hd.2.1; omega
  have HM := hid hm
  have HD := hid hd
  have HMM := hid hmm
  have HL := hid hl
  have hn1 := hm.name
  have hn2 := hm.lang
  clear hm hd hmm hl
  have HG := hid hg
  clear hg
  go_enter Tryd.func7, Tryd.ntmps7
  go_wp2_with (first
    | (go_at_call 8
       refine (alive_any _ mm (hm_below HMM (bel1 w _) hpos).out).mono ?_
       rintro e w1 ⟨rfl, hb⟩
       have hx : Box w1 w.heap.size 25 #[.int .i64 m.kind, .int .u32 m.chan, .int .u32 m.sender, .int .u32 m.window, .int .u32 m.packet, .int .u32 m.code, .string m.name, .string m.lang, .bool m.want, .slice A l c] := box_below (Box.new w 25 _) hb
       have p0 : w1.cell? ⟨w.heap.size, 0, none⟩ = some (.int .i64 m.kind) := hx.cell 0
       have p1 : w1.cell? ⟨w.heap.size, 1, none⟩ = some (.int .u32 m.chan) := hx.cell 1
       have p2 : w1.cell? ⟨w.heap.size, 2, none⟩ = some (.int .u32 m.sender) := hx.cell 2
       have p3 : w1.cell? ⟨w.heap.size, 3, none⟩ = some (.int .u32 m.window) := hx.cell 3
       have p4 : w1.cell? ⟨w.heap.size, 4, none⟩ = some (.int .u32 m.packet) := hx.cell 4
       have p5 : w1.cell? ⟨w.heap.size, 5, none⟩ = some (.int .u32 m.code) := hx.cell 5
       have p6 : w1.cell? ⟨w.heap.size, 6, none⟩ = some (.string m.name) := hx.cell 6
       have p7 : w1.cell? ⟨w.heap.size, 7, none⟩ = some (.string m.lang) := hx.cell 7
       have p8 : w1.cell? ⟨w.heap.size, 8, none⟩ = some (.bool m.want) := hx.cell 8
       have p9 : w1.cell? ⟨w.heap.size, 9, none⟩ = some (.slice A l c) := hx.cell 9
       have HB1 : Hid (Below w.heap.size w w1) := (bel1 w _).trans (hb.mono (by simp))
       clear hx hb)
    | (go_at_call 9
       ((with_reducible refine (great_x w1 m A c l true HG HL.out hlm hn1 hn2).mono ?_); rintro e w2 ⟨rfl, HB2⟩)))
  go_ret
  exact ⟨rfl, HB1.out.trans (HB2.out.mono HB1.out.size)⟩

set_option maxHeartbeats 4000000 in
set_option maxRecDepth 100000 in
theorem kinds_unknown (w : World) (m : Mg) (A : Option Addr) (c l : Nat) (z cut mm : Int) (hm : m.Ok) (hl : m.data.length = l) (hd : TK w w.heap.size A c m.data) (hz0 : 0 ≤ z) (hz1 : z ≤ 255) (hc0 : 0 ≤ cut) (hc1 : cut ≤ 65535) (hmm : w.cell? ⟨0, 0, none⟩ = some (.int .i64 mm)) (hg : greatB m = false) (hk : knownZ z = false) :
    Calls Tryd.prog 7 #[.agg #[.int .i64 m.kind, .int .u32 m.chan, .int .u32 m.sender, .int .u32 m.window, .int .u32 m.packet, .int .u32 m.code, .string m.name, .string m.lang, .bool m.want, .slice A l c], .int .u8 z, .int .u16 cut] w fun e w' => e = .returned (.bool true) ∧ Below w.heap.size w w' := by
  have hpos : 0 < w.heap.size := World.block_lt_of_cell? w _ hmm
  have hlm : l ≤ maxLen := by have := hd.1; have := hd.2.1; omega
  have HM := hid hm
  have HD := hid hd
  have HMM := hid hmm
  have HL := hid hl
  have hn1 := hm.name
  have hn2 := hm.lang
  clear hm hd hmm hl
  have hwz : IntKind.i64.wrap z = z := by simp [IntKind.wrap, IntKind.bits, IntKind.signed]; omega
  obtain ⟨⟨e1, m1⟩, HD1⟩ : ∃ x, Hid (decF [UInt8.ofNat z.toNat] = x) := ⟨_, hid rfl⟩
  obtain ⟨l1, HL1⟩ : ∃ k, Hid (m1.data.length = k) := ⟨_, hid rfl⟩
  obtain ⟨⟨er, bs⟩, HE⟩ : ∃ x, Hid (encF (mk m z) = x) := ⟨_, hid rfl⟩
  obtain ⟨k, HK⟩ : ∃ k, Hid (bs.length = k) := ⟨_, hid rfl⟩
  have HG := hid hg
  have hu1 := decF_unknown (z := UInt8.ofNat z.toNat) [] (by rw [zb_eq hz0 hz1]; exact hk)
  rw [HD1.out] at hu1
  injection hu1 with hu1 hu2
  have hu3 := encF_unknown (m := mk m z) hk
  rw [HE.out] at hu3
  injection hu3 with hu3 hu4
  clear hu2 hu4
  have hk' : ¬ (z = 1) ∧ (z < 80 ∨ (82 < z ∧ z < 90) ∨ 100 < z) := by
    simp only [knownZ, Bool.or_eq_false_iff, Bool.and_eq_false_iff, decide_eq_false_iff_not] at hk
    omega
  clear hg hk
  obtain ⟨hz, hzz⟩ := hk'
  have z1 : (z == 1) = false := by simpa using hz
  rcases hzz with h | ⟨h, h2⟩ | h
  all_goals
    go_enter Tryd.func7, Tryd.ntmps7
    go_wp2_with (first
      | (go_at_call 8
         refine (alive_any _ mm (hm_below HMM (bel1 w _) hpos).out).mono ?_
         rintro e w1 ⟨rfl, hb⟩
         have hx : Box w1 w.heap.size 25 #[.int .i64 m.kind, .int .u32 m.chan, .int .u32 m.sender, .int .u32 m.window, .int .u32 m.packet, .int .u32 m.code, .string m.name, .string m.lang, .bool m.want, .slice A l c] := box_below (Box.new w 25 _) hb
         have p0 : w1.cell? ⟨w.heap.size, 0, none⟩ = some (.int .i64 m.kind) := hx.cell 0
         have p1 : w1.cell? ⟨w.heap.size, 1, none⟩ = some (.int .u32 m.chan) := hx.cell 1
         have p2 : w1.cell? ⟨w.heap.size, 2, none⟩ = some (.int .u32 m.sender) := hx.cell 2
         have p3 : w1.cell? ⟨w.heap.size, 3, none⟩ = some (.int .u32 m.window) := hx.cell 3
         have p4 : w1.cell? ⟨w.heap.size, 4, none⟩ = some (.int .u32 m.packet) := hx.cell 4
         have p5 : w1.cell? ⟨w.heap.size, 5, none⟩ = some (.int .u32 m.code) := hx.cell 5
         have p6 : w1.cell? ⟨w.heap.size, 6, none⟩ = some (.string m.name) := hx.cell 6
         have p7 : w1.cell? ⟨w.heap.size, 7, none⟩ = some (.string m.lang) := hx.cell 7
         have p8 : w1.cell? ⟨w.heap.size, 8, none⟩ = some (.bool m.want) := hx.cell 8
         have p9 : w1.cell? ⟨w.heap.size, 9, none⟩ = some (.slice A l c) := hx.cell 9
         have HX1 := hid hx
         have HB1 : Hid (Below w.heap.size w w1) := (bel1 w _).trans (hb.mono (by simp))
         clear hx hb)
      | (go_at_call 9
         ((with_reducible refine (great_x w1 m A c l false HG HL.out hlm hn1 hn2).mono ?_); rintro e w2 ⟨rfl, HB2⟩)
         have HX2 := box_p HX1 HB2)
      | (go_at_call 15
         ((with_reducible refine (decode_k w2 z mm e1 m1 l1 hz0 hz1 HD1 HL1.out (hm_below HMM (bel_trans HB1 HB2) hpos)).mono ?_); rintro e w3 ⟨A1, c1, rfl, HB3'⟩)
         have HB3 := bel_o HB3'
         have HX3 := box_p HX2 HB3
         have HBW3 := bel_trans (bel_trans HB1 HB2) HB3
         have HD3 := tk_hid HD HBW3
         have s0 : ∀ u, (w3.alloc u).cell? ⟨w.heap.size, 0, none⟩ = some (.int .i64 m.kind) := fun u => (box_a HX3 u).out.cell 0
         have t0 : ∀ u, (w3.alloc u).frozen? ⟨w.heap.size, 0, none⟩ = false := fun u => (box_a HX3 u).out.frozen 0
         have k0 : ∀ u, ((w3.alloc u).setCell ⟨w.heap.size, 0, none⟩ (.int .i64 z)).cell? ⟨w.heap.size, 0, none⟩ = some (.int .i64 z) := fun u => ((box_a HX3 u).out.store 0 (.int .i64 z)).cell 0
         have k1 : ∀ u, ((w3.alloc u).setCell ⟨w.heap.size, 0, none⟩ (.int .i64 z)).cell? ⟨w.heap.size, 1, none⟩ = some (.int .u32 m.chan) := fun u => ((box_a HX3 u).out.store 0 (.int .i64 z)).cell 1
         have k2 : ∀ u, ((w3.alloc u).setCell ⟨w.heap.size, 0, none⟩ (.int .i64 z)).cell? ⟨w.heap.size, 2, none⟩ = some (.int .u32 m.sender) := fun u => ((box_a HX3 u).out.store 0 (.int .i64 z)).cell 2
         have k3 : ∀ u, ((w3.alloc u).setCell ⟨w.heap.size, 0, none⟩ (.int .i64 z)).cell? ⟨w.heap.size, 3, none⟩ = some (.int .u32 m.window) := fun u => ((box_a HX3 u).out.store 0 (.int .i64 z)).cell 3
         have k4 : ∀ u, ((w3.alloc u).setCell ⟨w.heap.size, 0, none⟩ (.int .i64 z)).cell? ⟨w.heap.size, 4, none⟩ = some (.int .u32 m.packet) := fun u => ((box_a HX3 u).out.store 0 (.int .i64 z)).cell 4
         have k5 : ∀ u, ((w3.alloc u).setCell ⟨w.heap.size, 0, none⟩ (.int .i64 z)).cell? ⟨w.heap.size, 5, none⟩ = some (.int .u32 m.code) := fun u => ((box_a HX3 u).out.store 0 (.int .i64 z)).cell 5
         have k6 : ∀ u, ((w3.alloc u).setCell ⟨w.heap.size, 0, none⟩ (.int .i64 z)).cell? ⟨w.heap.size, 6, none⟩ = some (.string m.name) := fun u => ((box_a HX3 u).out.store 0 (.int .i64 z)).cell 6
         have k7 : ∀ u, ((w3.alloc u).setCell ⟨w.heap.size, 0, none⟩ (.int .i64 z)).cell? ⟨w.heap.size, 7, none⟩ = some (.string m.lang) := fun u => ((box_a HX3 u).out.store 0 (.int .i64 z)).cell 7
         have k8 : ∀ u, ((w3.alloc u).setCell ⟨w.heap.size, 0, none⟩ (.int .i64 z)).cell? ⟨w.heap.size, 8, none⟩ = some (.bool m.want) := fun u => ((box_a HX3 u).out.store 0 (.int .i64 z)).cell 8
         have k9 : ∀ u, ((w3.alloc u).setCell ⟨w.heap.size, 0, none⟩ (.int .i64 z)).cell? ⟨w.heap.size, 9, none⟩ = some (.slice A l c) := fun u => ((box_a HX3 u).out.store 0 (.int .i64 z)).cell 9)
      | (go_at_call 11
         ((with_reducible refine (encode_m w3 (.cells #[.int .i64 m1.kind, .int .u32 m1.chan, .int .u32 m1.sender, .int .u32 m1.window, .int .u32 m1.packet, .int .u32 m1.code, .string m1.name, .string m1.lang, .bool m1.want, .slice A1 l1 c1] 25) w.heap.size m z A er l k bs c w.heap.size HE HM hz0 hz1 HX3 HD3 (Nat.le_refl _) HL.out HK.out).mono ?_); rintro e w5 ⟨A5, c5, rfl, HO5, HK5, HB5⟩)
         have HW5 : Hid (Below w.heap.size w w5) := HBW3.out.trans (HK5.out.below HBW3.out.size)))
    go_ret
    exact ⟨rfl, HW5.out⟩

end Go.Proofs.YtlmdbcmaophhnaaDoor
