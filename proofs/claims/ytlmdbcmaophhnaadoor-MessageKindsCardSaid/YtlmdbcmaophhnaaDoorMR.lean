import Derived.Test.YtlmdbcmaophhnaaDoorMQ
namespace Go.Proofs.YtlmdbcmaophhnaaDoor
open Go.RowKit

set_option maxHeartbeats 4000000 in
set_option maxRecDepth 100000 in
theorem kinds_err (w : World) (m : Mg) (A : Option Addr) (c l : Nat) (z cut mm : Int) (hm : m.Ok) (hl : m.data.length = l) (hd : TK w w.heap.size A c m.data) (hz0 : 0 ≤ z) (hz1 : z ≤ 255) (hc0 : 0 ≤ cut) (hc1 : cut ≤ 65535) (hmm : w.cell? ⟨0, 0, none⟩ = some (.int .i64 mm)) (hg : greatB m = false) (hk : knownZ z = true) (her : (encF (mk m z)).1 ≠ 0) (hz1' : z ≠ 1) :
    Calls Tryd.prog 7 #[.agg #[.int .i64 m.kind, .int .u32 m.chan, .int .u32 m.sender, .int .u32 m.window, .int .u32 m.packet, .int .u32 m.code, .string m.name, .string m.lang, .bool m.want, .slice A l c], .int .u8 z, .int .u16 cut] w fun e w' => e = .returned (.bool true) ∧ Below w.heap.size w w' := by
  have hpos : 0 < w.heap.size := World.block_lt_of_cell? w _ hmm
  have hlm : l ≤ maxLen := by have := hd.1; have := hd.2.1; omega
  have HM := hid hm
  have HD := hid hd
  have HMM := hid hmm
  have HL := hid hl
  have hn1 := hm.name
  have hn2 := hm.lang
  clear hm hd hmm hl
  have hwz : IntKind.i64.wrap z = z := by simp [IntKind.wrap, IntKind.bits, IntKind.signed] <;> omega
  obtain ⟨⟨e1, m1⟩, HD1⟩ : ∃ x, Hid (decF [UInt8.ofNat z.toNat] = x) := ⟨_, hid rfl⟩
  obtain ⟨l1, HL1⟩ : ∃ k, Hid (m1.data.length = k) := ⟨_, hid rfl⟩
  obtain ⟨⟨er, bs⟩, HE⟩ : ∃ x, Hid (encF (mk m z) = x) := ⟨_, hid rfl⟩
  obtain ⟨k, HK⟩ : ∃ k, Hid (bs.length = k) := ⟨_, hid rfl⟩
  have hne1 : (e1 == 8) = false := by
    have h := decF_known (z := UInt8.ofNat z.toNat) [] (by rw [zb_eq hz0 hz1]; exact hk)
    rw [HD1.out] at h
    simpa using h
  have hner : (er == 8) = false := by
    have h := encF_known (m := mk m z) hk
    rw [HE.out] at h
    simpa using h
  have HG := hid hg
  clear hg
  have hz : (er == 0) = false := by rw [HE.out] at her; simpa using her
  have hk' : (80 ≤ z ∧ z ≤ 82) ∨ (90 ≤ z ∧ z ≤ 100) := by
    simp only [knownZ, Bool.or_eq_true, Bool.and_eq_true, decide_eq_true_eq] at hk
    omega
  clear hk her
  rcases hk' with ⟨h, h2⟩ | ⟨h, h2⟩
  · have z1 : (z == 1) = false := by simpa using hz1'
    clear hz1'
    go_enter Tryd.func7, Tryd.ntmps7
    go_wp2_with (first
      | (go_at_call 8
         refine (alive_any _ mm (hm_below HMM (bel1 w _) hpos).out).mono ?_
         rintro e w1 ⟨rfl, hb⟩
         have hx : Box w1 w.heap.size 25 #[.int .i64 m.kind, .int .u32 m.chan, .int .u32 m.sender, .int .u32 m.window, .int .u32 m.packet, .int .u32 m.code, .string m.name, .string m.lang, .bool m.want, .slice A l c] := box_below (Box.new w 25 _) hb
         have p0 : w1.cell? ⟨w.heap.size, 0, none⟩ = some (.int .i64 m.kind) := hx.cell 0
         have p1 : w1.cell? ⟨w.heap.size, 1, none⟩ = some (.int .u32 m.chan) := hx.cell 1
         have p2 : w1.cell? ⟨w.heap.size, 2, none⟩ = some (.int .u32 m.sender) := hx.cell 2
         have p3 : w1.cell? ⟨w.heap.size, 3, none⟩ = some (.int .u32 m.window) := hx.cell 3
         have p4 : w1.cell? ⟨w.heap.size, 4, none⟩ = some (.int .u32 m.packet) := hx.cell 4
         have p5 : w1.cell? ⟨w.heap.size, 5, none⟩ = some (.int .u32 m.code) := hx.cell 5
         have p6 : w1.cell? ⟨w.heap.size, 6, none⟩ = some (.string m.name) := hx.cell 6
         have p7 : w1.cell? ⟨w.heap.size, 7, none⟩ = some (.string m.lang) := hx.cell 7
         have p8 : w1.cell? ⟨w.heap.size, 8, none⟩ = some (.bool m.want) := hx.cell 8
         have p9 : w1.cell? ⟨w.heap.size, 9, none⟩ = some (.slice A l c) := hx.cell 9
         have HX1 := hid hx
         have HB1 : Hid (Below w.heap.size w w1) := (bel1 w _).trans (hb.mono (by simp))
         clear hx hb)
      | (go_at_call 9
         ((with_reducible refine (great_x w1 m A c l false HG HL.out hlm hn1 hn2).mono ?_); rintro e w2 ⟨rfl, HB2⟩)
         have HX2 := box_p HX1 HB2)
      | (go_at_call 15
         ((with_reducible refine (decode_k w2 z mm e1 m1 l1 hz0 hz1 HD1 HL1.out (hm_below HMM (bel_trans HB1 HB2) hpos)).mono ?_); rintro e w3 ⟨A1, c1, rfl, HB3'⟩)
         have HB3 := bel_o HB3'
         have HX3 := box_p HX2 HB3
         have HBW3 := bel_trans (bel_trans HB1 HB2) HB3
         have HD3 := tk_hid HD HBW3
         have s0 : ∀ u, (w3.alloc u).cell? ⟨w.heap.size, 0, none⟩ = some (.int .i64 m.kind) := fun u => (box_a HX3 u).out.cell 0
         have t0 : ∀ u, (w3.alloc u).frozen? ⟨w.heap.size, 0, none⟩ = false := fun u => (box_a HX3 u).out.frozen 0
         have k0 : ∀ u, ((w3.alloc u).setCell ⟨w.heap.size, 0, none⟩ (.int .i64 z)).cell? ⟨w.heap.size, 0, none⟩ = some (.int .i64 z) := fun u => ((box_a HX3 u).out.store 0 (.int .i64 z)).cell 0
         have k1 : ∀ u, ((w3.alloc u).setCell ⟨w.heap.size, 0, none⟩ (.int .i64 z)).cell? ⟨w.heap.size, 1, none⟩ = some (.int .u32 m.chan) := fun u => ((box_a HX3 u).out.store 0 (.int .i64 z)).cell 1
         have k2 : ∀ u, ((w3.alloc u).setCell ⟨w.heap.size, 0, none⟩ (.int .i64 z)).cell? ⟨w.heap.size, 2, none⟩ = some (.int .u32 m.sender) := fun u => ((box_a HX3 u).out.store 0 (.int .i64 z)).cell 2
         have k3 : ∀ u, ((w3.alloc u).setCell ⟨w.heap.size, 0, none⟩ (.int .i64 z)).cell? ⟨w.heap.size, 3, none⟩ = some (.int .u32 m.window) := fun u => ((box_a HX3 u).out.store 0 (.int .i64 z)).cell 3
         have k4 : ∀ u, ((w3.alloc u).setCell ⟨w.heap.size, 0, none⟩ (.int .i64 z)).cell? ⟨w.heap.size, 4, none⟩ = some (.int .u32 m.packet) := fun u => ((box_a HX3 u).out.store 0 (.int .i64 z)).cell 4
         have k5 : ∀ u, ((w3.alloc u).setCell ⟨w.heap.size, 0, none⟩ (.int .i64 z)).cell? ⟨w.heap.size, 5, none⟩ = some (.int .u32 m.code) := fun u => ((box_a HX3 u).out.store 0 (.int .i64 z)).cell 5
         have k6 : ∀ u, ((w3.alloc u).setCell ⟨w.heap.size, 0, none⟩ (.int .i64 z)).cell? ⟨w.heap.size, 6, none⟩ = some (.string m.name) := fun u => ((box_a HX3 u).out.store 0 (.int .i64 z)).cell 6
         have k7 : ∀ u, ((w3.alloc u).setCell ⟨w.heap.size, 0, none⟩ (.int .i64 z)).cell? ⟨w.heap.size, 7, none⟩ = some (.string m.lang) := fun u => ((box_a HX3 u).out.store 0 (.int .i64 z)).cell 7
         have k8 : ∀ u, ((w3.alloc u).setCell ⟨w.heap.size, 0, none⟩ (.int .i64 z)).cell? ⟨w.heap.size, 8, none⟩ = some (.bool m.want) := fun u => ((box_a HX3 u).out.store 0 (.int .i64 z)).cell 8
         have k9 : ∀ u, ((w3.alloc u).setCell ⟨w.heap.size, 0, none⟩ (.int .i64 z)).cell? ⟨w.heap.size, 9, none⟩ = some (.slice A l c) := fun u => ((box_a HX3 u).out.store 0 (.int .i64 z)).cell 9)
      | (go_at_call 11
         ((with_reducible refine (encode_m w3 (.cells #[.int .i64 m1.kind, .int .u32 m1.chan, .int .u32 m1.sender, .int .u32 m1.window, .int .u32 m1.packet, .int .u32 m1.code, .string m1.name, .string m1.lang, .bool m1.want, .slice A1 l1 c1] 25) w.heap.size m z A er l k bs c w.heap.size HE HM hz0 hz1 HX3 HD3 (Nat.le_refl _) HL.out HK.out).mono ?_); rintro e w5 ⟨A5, c5, rfl, HO5, HK5, HB5⟩)
         have HW5 : Hid (Below w.heap.size w w5) := HBW3.out.trans (HK5.out.below HBW3.out.size)))
    go_ret
    exact ⟨rfl, HW5.out⟩
  · have z1 : (z == 1) = false := by simpa using hz1'
    have z2 : 80 ≤ z := by omega
    have z3 : decide (z ≤ 82) = false := by simp; omega
    clear hz1'
    go_enter Tryd.func7, Tryd.ntmps7
    go_wp2_with (first
      | (go_at_call 8
         refine (alive_any _ mm (hm_below HMM (bel1 w _) hpos).out).mono ?_
         rintro e w1 ⟨rfl, hb⟩
         have hx : Box w1 w.heap.size 25 #[.int .i64 m.kind, .int .u32 m.chan, .int .u32 m.sender, .int .u32 m.window, .int .u32 m.packet, .int .u32 m.code, .string m.name, .string m.lang, .bool m.want, .slice A l c] := box_below (Box.new w 25 _) hb
         have p0 : w1.cell? ⟨w.heap.size, 0, none⟩ = some (.int .i64 m.kind) := hx.cell 0
         have p1 : w1.cell? ⟨w.heap.size, 1, none⟩ = some (.int .u32 m.chan) := hx.cell 1
         have p2 : w1.cell? ⟨w.heap.size, 2, none⟩ = some (.int .u32 m.sender) := hx.cell 2
         have p3 : w1.cell? ⟨w.heap.size, 3, none⟩ = some (.int .u32 m.window) := hx.cell 3
         have p4 : w1.cell? ⟨w.heap.size, 4, none⟩ = some (.int .u32 m.packet) := hx.cell 4
         have p5 : w1.cell? ⟨w.heap.size, 5, none⟩ = some (.int .u32 m.code) := hx.cell 5
         have p6 : w1.cell? ⟨w.heap.size, 6, none⟩ = some (.string m.name) := hx.cell 6
         have p7 : w1.cell? ⟨w.heap.size, 7, none⟩ = some (.string m.lang) := hx.cell 7
         have p8 : w1.cell? ⟨w.heap.size, 8, none⟩ = some (.bool m.want) := hx.cell 8
         have p9 : w1.cell? ⟨w.heap.size, 9, none⟩ = some (.slice A l c) := hx.cell 9
         have HX1 := hid hx
         have HB1 : Hid (Below w.heap.size w w1) := (bel1 w _).trans (hb.mono (by simp))
         clear hx hb)
      | (go_at_call 9
         ((with_reducible refine (great_x w1 m A c l false HG HL.out hlm hn1 hn2).mono ?_); rintro e w2 ⟨rfl, HB2⟩)
         have HX2 := box_p HX1 HB2)
      | (go_at_call 15
         ((with_reducible refine (decode_k w2 z mm e1 m1 l1 hz0 hz1 HD1 HL1.out (hm_below HMM (bel_trans HB1 HB2) hpos)).mono ?_); rintro e w3 ⟨A1, c1, rfl, HB3'⟩)
         have HB3 := bel_o HB3'
         have HX3 := box_p HX2 HB3
         have HBW3 := bel_trans (bel_trans HB1 HB2) HB3
         have HD3 := tk_hid HD HBW3
         have s0 : ∀ u, (w3.alloc u).cell? ⟨w.heap.size, 0, none⟩ = some (.int .i64 m.kind) := fun u => (box_a HX3 u).out.cell 0
         have t0 : ∀ u, (w3.alloc u).frozen? ⟨w.heap.size, 0, none⟩ = false := fun u => (box_a HX3 u).out.frozen 0
         have k0 : ∀ u, ((w3.alloc u).setCell ⟨w.heap.size, 0, none⟩ (.int .i64 z)).cell? ⟨w.heap.size, 0, none⟩ = some (.int .i64 z) := fun u => ((box_a HX3 u).out.store 0 (.int .i64 z)).cell 0
         have k1 : ∀ u, ((w3.alloc u).setCell ⟨w.heap.size, 0, none⟩ (.int .i64 z)).cell? ⟨w.heap.size, 1, none⟩ = some (.int .u32 m.chan) := fun u => ((box_a HX3 u).out.store 0 (.int .i64 z)).cell 1
         have k2 : ∀ u, ((w3.alloc u).setCell ⟨w.heap.size, 0, none⟩ (.int .i64 z)).cell? ⟨w.heap.size, 2, none⟩ = some (.int .u32 m.sender) := fun u => ((box_a HX3 u).out.store 0 (.int .i64 z)).cell 2
         have k3 : ∀ u, ((w3.alloc u).setCell ⟨w.heap.size, 0, none⟩ (.int .i64 z)).cell? ⟨w.heap.size, 3, none⟩ = some (.int .u32 m.window) := fun u => ((box_a HX3 u).out.store 0 (.int .i64 z)).cell 3
         have k4 : ∀ u, ((w3.alloc u).setCell ⟨w.heap.size, 0, none⟩ (.int .i64 z)).cell? ⟨w.heap.size, 4, none⟩ = some (.int .u32 m.packet) := fun u => ((box_a HX3 u).out.store 0 (.int .i64 z)).cell 4
         have k5 : ∀ u, ((w3.alloc u).setCell ⟨w.heap.size, 0, none⟩ (.int .i64 z)).cell? ⟨w.heap.size, 5, none⟩ = some (.int .u32 m.code) := fun u => ((box_a HX3 u).out.store 0 (.int .i64 z)).cell 5
         have k6 : ∀ u, ((w3.alloc u).setCell ⟨w.heap.size, 0, none⟩ (.int .i64 z)).cell? ⟨w.heap.size, 6, none⟩ = some (.string m.name) := fun u => ((box_a HX3 u).out.store 0 (.int .i64 z)).cell 6
         have k7 : ∀ u, ((w3.alloc u).setCell ⟨w.heap.size, 0, none⟩ (.int .i64 z)).cell? ⟨w.heap.size, 7, none⟩ = some (.string m.lang) := fun u => ((box_a HX3 u).out.store 0 (.int .i64 z)).cell 7
         have k8 : ∀ u, ((w3.alloc u).setCell ⟨w.heap.size, 0, none⟩ (.int .i64 z)).cell? ⟨w.heap.size, 8, none⟩ = some (.bool m.want) := fun u => ((box_a HX3 u).out.store 0 (.int .i64 z)).cell 8
         have k9 : ∀ u, ((w3.alloc u).setCell ⟨w.heap.size, 0, none⟩ (.int .i64 z)).cell? ⟨w.heap.size, 9, none⟩ = some (.slice A l c) := fun u => ((box_a HX3 u).out.store 0 (.int .i64 z)).cell 9)
      | (go_at_call 11
         ((with_reducible refine (encode_m w3 (.cells #[.int .i64 m1.kind, .int .u32 m1.chan, .int .u32 m1.sender, .int .u32 m1.window, .int .u32 m1.packet, .int .u32 m1.code, .string m1.name, .string m1.lang, .bool m1.want, .slice A1 l1 c1] 25) w.heap.size m z A er l k bs c w.heap.size HE HM hz0 hz1 HX3 HD3 (Nat.le_refl _) HL.out HK.out).mono ?_); rintro e w5 ⟨A5, c5, rfl, HO5, HK5, HB5⟩)
         have HW5 : Hid (Below w.heap.size w w5) := HBW3.out.trans (HK5.out.below HBW3.out.size)))
    go_ret
    exact ⟨rfl, HW5.out⟩

set_option maxHeartbeats 4000000 in
set_option maxRecDepth 100000 in
theorem kinds_err1 (w : World) (m : Mg) (A : Option Addr) (c l : Nat) (cut mm : Int) (hm : m.Ok) (hl : m.data.length = l) (hd : TK w w.heap.size A c m.data) (hz0 : 0 ≤ (1 : Int)) (hz1 : (1 : Int) ≤ 255) (hc0 : 0 ≤ cut) (hc1 : cut ≤ 65535) (hmm : w.cell? ⟨0, 0, none⟩ = some (.int .i64 mm)) (hg : greatB m = false) (hk : knownZ (1 : Int) = true) (her : (encF (mk m (1 : Int))).1 ≠ 0) :
    Calls Tryd.prog 7 #[.agg #[.int .i64 m.kind, .int .u32 m.chan, .int .u32 m.sender, .int .u32 m.window, .int .u32 m.packet, .int .u32 m.code, .string m.name, .string m.lang, .bool m.want, .slice A l c], .int .u8 (1 : Int), .int .u16 cut] w fun e w' => e = .returned (.bool true) ∧ Below w.heap.size w w' := by
  have hpos : 0 < w.heap.size := World.block_lt_of_cell? w _ hmm
  have hlm : l ≤ maxLen := by have := hd.1; have := hd.2.1; omega
  have HM := hid hm
  have HD := hid hd
  have HMM := hid hmm
  have HL := hid hl
  have hn1 := hm.name
  have hn2 := hm.lang
  clear hm hd hmm hl
  have hwz : IntKind.i64.wrap (1 : Int) = (1 : Int) := by simp [IntKind.wrap, IntKind.bits, IntKind.signed] <;> omega
  obtain ⟨⟨e1, m1⟩, HD1⟩ : ∃ x, Hid (decF [UInt8.ofNat (1 : Int).toNat] = x) := ⟨_, hid rfl⟩
  obtain ⟨l1, HL1⟩ : ∃ k, Hid (m1.data.length = k) := ⟨_, hid rfl⟩
  obtain ⟨⟨er, bs⟩, HE⟩ : ∃ x, Hid (encF (mk m (1 : Int)) = x) := ⟨_, hid rfl⟩
  obtain ⟨k, HK⟩ : ∃ k, Hid (bs.length = k) := ⟨_, hid rfl⟩
  have hne1 : (e1 == 8) = false := by
    have h := decF_known (z := UInt8.ofNat (1 : Int).toNat) [] (by rw [zb_eq hz0 hz1]; exact hk)
    rw [HD1.out] at h
    simpa using h
  have hner : (er == 8) = false := by
    have h := encF_known (m := mk m (1 : Int)) hk
    rw [HE.out] at h
    simpa using h
  have HG := hid hg
  clear hg
  have hz : (er == 0) = false := by rw [HE.out] at her; simpa using her
  clear hk her
  go_enter Tryd.func7, Tryd.ntmps7
  go_wp2_with (first
    | (go_at_call 8
       refine (alive_any _ mm (hm_below HMM (bel1 w _) hpos).out).mono ?_
       rintro e w1 ⟨rfl, hb⟩
       have hx : Box w1 w.heap.size 25 #[.int .i64 m.kind, .int .u32 m.chan, .int .u32 m.sender, .int .u32 m.window, .int .u32 m.packet, .int .u32 m.code, .string m.name, .string m.lang, .bool m.want, .slice A l c] := box_below (Box.new w 25 _) hb
       have p0 : w1.cell? ⟨w.heap.size, 0, none⟩ = some (.int .i64 m.kind) := hx.cell 0
       have p1 : w1.cell? ⟨w.heap.size, 1, none⟩ = some (.int .u32 m.chan) := hx.cell 1
       have p2 : w1.cell? ⟨w.heap.size, 2, none⟩ = some (.int .u32 m.sender) := hx.cell 2
       have p3 : w1.cell? ⟨w.heap.size, 3, none⟩ = some (.int .u32 m.window) := hx.cell 3
       have p4 : w1.cell? ⟨w.heap.size, 4, none⟩ = some (.int .u32 m.packet) := hx.cell 4
       have p5 : w1.cell? ⟨w.heap.size, 5, none⟩ = some (.int .u32 m.code) := hx.cell 5
       have p6 : w1.cell? ⟨w.heap.size, 6, none⟩ = some (.string m.name) := hx.cell 6
       have p7 : w1.cell? ⟨w.heap.size, 7, none⟩ = some (.string m.lang) := hx.cell 7
       have p8 : w1.cell? ⟨w.heap.size, 8, none⟩ = some (.bool m.want) := hx.cell 8
       have p9 : w1.cell? ⟨w.heap.size, 9, none⟩ = some (.slice A l c) := hx.cell 9
       have HX1 := hid hx
       have HB1 : Hid (Below w.heap.size w w1) := (bel1 w _).trans (hb.mono (by simp))
       clear hx hb)
    | (go_at_call 9
       ((with_reducible refine (great_x w1 m A c l false HG HL.out hlm hn1 hn2).mono ?_); rintro e w2 ⟨rfl, HB2⟩)
       have HX2 := box_p HX1 HB2)
    | (go_at_call 15
       ((with_reducible refine (decode_k w2 (1 : Int) mm e1 m1 l1 hz0 hz1 HD1 HL1.out (hm_below HMM (bel_trans HB1 HB2) hpos)).mono ?_); rintro e w3 ⟨A1, c1, rfl, HB3'⟩)
       have HB3 := bel_o HB3'
       have HX3 := box_p HX2 HB3
       have HBW3 := bel_trans (bel_trans HB1 HB2) HB3
       have HD3 := tk_hid HD HBW3
       have s0 : ∀ u, (w3.alloc u).cell? ⟨w.heap.size, 0, none⟩ = some (.int .i64 m.kind) := fun u => (box_a HX3 u).out.cell 0
       have t0 : ∀ u, (w3.alloc u).frozen? ⟨w.heap.size, 0, none⟩ = false := fun u => (box_a HX3 u).out.frozen 0
       have k0 : ∀ u, ((w3.alloc u).setCell ⟨w.heap.size, 0, none⟩ (.int .i64 (1 : Int))).cell? ⟨w.heap.size, 0, none⟩ = some (.int .i64 (1 : Int)) := fun u => ((box_a HX3 u).out.store 0 (.int .i64 (1 : Int))).cell 0
       have k1 : ∀ u, ((w3.alloc u).setCell ⟨w.heap.size, 0, none⟩ (.int .i64 (1 : Int))).cell? ⟨w.heap.size, 1, none⟩ = some (.int .u32 m.chan) := fun u => ((box_a HX3 u).out.store 0 (.int .i64 (1 : Int))).cell 1
       have k2 : ∀ u, ((w3.alloc u).setCell ⟨w.heap.size, 0, none⟩ (.int .i64 (1 : Int))).cell? ⟨w.heap.size, 2, none⟩ = some (.int .u32 m.sender) := fun u => ((box_a HX3 u).out.store 0 (.int .i64 (1 : Int))).cell 2
       have k3 : ∀ u, ((w3.alloc u).setCell ⟨w.heap.size, 0, none⟩ (.int .i64 (1 : Int))).cell? ⟨w.heap.size, 3, none⟩ = some (.int .u32 m.window) := fun u => ((box_a HX3 u).out.store 0 (.int .i64 (1 : Int))).cell 3
       have k4 : ∀ u, ((w3.alloc u).setCell ⟨w.heap.size, 0, none⟩ (.int .i64 (1 : Int))).cell? ⟨w.heap.size, 4, none⟩ = some (.int .u32 m.packet) := fun u => ((box_a HX3 u).out.store 0 (.int .i64 (1 : Int))).cell 4
       have k5 : ∀ u, ((w3.alloc u).setCell ⟨w.heap.size, 0, none⟩ (.int .i64 (1 : Int))).cell? ⟨w.heap.size, 5, none⟩ = some (.int .u32 m.code) := fun u => ((box_a HX3 u).out.store 0 (.int .i64 (1 : Int))).cell 5
       have k6 : ∀ u, ((w3.alloc u).setCell ⟨w.heap.size, 0, none⟩ (.int .i64 (1 : Int))).cell? ⟨w.heap.size, 6, none⟩ = some (.string m.name) := fun u => ((box_a HX3 u).out.store 0 (.int .i64 (1 : Int))).cell 6
       have k7 : ∀ u, ((w3.alloc u).setCell ⟨w.heap.size, 0, none⟩ (.int .i64 (1 : Int))).cell? ⟨w.heap.size, 7, none⟩ = some (.string m.lang) := fun u => ((box_a HX3 u).out.store 0 (.int .i64 (1 : Int))).cell 7
       have k8 : ∀ u, ((w3.alloc u).setCell ⟨w.heap.size, 0, none⟩ (.int .i64 (1 : Int))).cell? ⟨w.heap.size, 8, none⟩ = some (.bool m.want) := fun u => ((box_a HX3 u).out.store 0 (.int .i64 (1 : Int))).cell 8
       have k9 : ∀ u, ((w3.alloc u).setCell ⟨w.heap.size, 0, none⟩ (.int .i64 (1 : Int))).cell? ⟨w.heap.size, 9, none⟩ = some (.slice A l c) := fun u => ((box_a HX3 u).out.store 0 (.int .i64 (1 : Int))).cell 9)
    | (go_at_call 11
       ((with_reducible refine (encode_m w3 (.cells #[.int .i64 m1.kind, .int .u32 m1.chan, .int .u32 m1.sender, .int .u32 m1.window, .int .u32 m1.packet, .int .u32 m1.code, .string m1.name, .string m1.lang, .bool m1.want, .slice A1 l1 c1] 25) w.heap.size m (1 : Int) A er l k bs c w.heap.size HE HM hz0 hz1 HX3 HD3 (Nat.le_refl _) HL.out HK.out).mono ?_); rintro e w5 ⟨A5, c5, rfl, HO5, HK5, HB5⟩)
       have HW5 : Hid (Below w.heap.size w w5) := HBW3.out.trans (HK5.out.below HBW3.out.size)))
  go_ret
  exact ⟨rfl, HW5.out⟩

end Go.Proofs.YtlmdbcmaophhnaaDoor
