import Derived.Test.YtlmdbcmaophhnaaDoorMQ
namespace Go.Proofs.YtlmdbcmaophhnaaDoor
open Go.RowKit
theorem w64_kk {kk : Nat} (h : (kk : Int) ≤ 33792) : wrap64 (kk : Int) = (kk : Int) := by
  unfold wrap64
  omega

set_option maxHeartbeats 4000000 in
set_option maxRecDepth 100000 in
theorem kinds_ok80 (w : World) (m : Mg) (A : Option Addr) (c l : Nat) (cut mm : Int) (hm : m.Ok) (hl : m.data.length = l) (hd : TK w w.heap.size A c m.data) (hz0 : 0 ≤ (80 : Int)) (hz1 : (80 : Int) ≤ 255) (hc0 : 0 ≤ cut) (hc1 : cut ≤ 65535) (hmm : w.cell? ⟨0, 0, none⟩ = some (.int .i64 mm)) (hg : greatB m = false) (hk : knownZ (80 : Int) = true) (her : (encF (mk m (80 : Int))).1 = 0) :
    Calls Tryd.prog 7 #[.agg #[.int .i64 m.kind, .int .u32 m.chan, .int .u32 m.sender, .int .u32 m.window, .int .u32 m.packet, .int .u32 m.code, .string m.name, .string m.lang, .bool m.want, .slice A l c], .int .u8 (80 : Int), .int .u16 cut] w fun e w' => e = .returned (.bool true) ∧ Below w.heap.size w w' := by
  have hpos : 0 < w.heap.size := World.block_lt_of_cell? w _ hmm
  have hlm : l ≤ maxLen := by have := hd.1; have := hd.2.1; omega
  have HM := hid hm
  have HD := hid hd
  have HMM := hid hmm
  have HL := hid hl
  have hn1 := hm.name
  have hn2 := hm.lang
  clear hm hd hmm hl
  have hwz : IntKind.i64.wrap (80 : Int) = (80 : Int) := by simp [IntKind.wrap, IntKind.bits, IntKind.signed] <;> omega
  obtain ⟨⟨e1, m1⟩, HD1⟩ : ∃ x, Hid (decF [UInt8.ofNat (80 : Int).toNat] = x) := ⟨_, hid rfl⟩
  obtain ⟨l1, HL1⟩ : ∃ k, Hid (m1.data.length = k) := ⟨_, hid rfl⟩
  obtain ⟨⟨er, bs⟩, HE⟩ : ∃ x, Hid (encF (mk m (80 : Int)) = x) := ⟨_, hid rfl⟩
  obtain ⟨k, HK⟩ : ∃ k, Hid (bs.length = k) := ⟨_, hid rfl⟩
  have hne1 : (e1 == 8) = false := by
    have h := decF_known (z := UInt8.ofNat (80 : Int).toNat) [] (by rw [zb_eq hz0 hz1]; exact hk)
    rw [HD1.out] at h
    simpa using h
  have hner : (er == 8) = false := by
    have h := encF_known (m := mk m (80 : Int)) hk
    rw [HE.out] at h
    simpa using h
  have HG := hid hg
  clear hg
  have hbm := back_math (m := mk m (80 : Int)) (mk_ok HM.out hz0 hz1) her
  rw [HE.out] at hbm her
  simp only at hbm her
  obtain ⟨hdec, hle, r, hbs⟩ := hbm
  have HDEC := hid hdec
  have hk0 : 0 < k := by have := HK.out; rw [hbs] at this; simp at this; omega
  have hk0i : (0 : Int) < (k : Int) := by omega
  have hkz : ¬ ((k : Int) = 0) := by omega
  have hkle : k ≤ 33792 := by have := HK.out; omega
  have HBS := hid hbs
  clear hdec hle hbs
  obtain ⟨q, hq⟩ : ∃ q, cut % (k : Int) = q := ⟨_, rfl⟩
  have hp1 : (0 : Int) ≤ q := by rw [← hq]; exact Int.emod_nonneg cut hkz
  have hp2 : q < (k : Int) := by rw [← hq]; exact Int.emod_lt_of_pos cut hk0i
  have hkk0 : ∃ kk : Nat, 1 + cut % (k : Int) = (kk : Int) ∧ 1 ≤ kk ∧ kk ≤ k := by
    rw [hq]
    clear hq
    exact ⟨(1 + q).toNat, by omega, by omega, by omega⟩
  obtain ⟨kk, hkk, hkk1, hkk2⟩ := hkk0
  have hki : (kk : Int) ≤ (k : Int) := Int.ofNat_le.2 hkk2
  have hk33 : (kk : Int) ≤ 33792 := by clear hkk hq hp1 hp2; omega
  have hw64 : wrap64 (kk : Int) = (kk : Int) := w64_kk hk33
  have hmin : min (kk : Int) (k : Int) = (kk : Int) := Int.min_eq_left hki
  obtain ⟨⟨e2, m2⟩, HD2⟩ : ∃ x, Hid (decF (bs.take kk) = x) := ⟨_, hid rfl⟩
  obtain ⟨l2, HL2⟩ : ∃ k, Hid (m2.data.length = k) := ⟨_, hid rfl⟩
  have HTK : Hid ((bs.take kk).length = kk) := hid (by rw [List.length_take, HK.out]; exact Nat.min_eq_left hkk2)
  have hkv : Value.int .i64 (wrap64 (1 + cut % (k : Int))) = Value.int .i64 (kk : Int) := by rw [hkk, hw64]
  clear hp1 hp2 hq hkk hw64
  clear hk
  by_cases hc : kk = k
  · have he2 : e2 = 0 := by
      have h := HD2.out
      rw [hc, List.take_of_length_le (by rw [HK.out]; omega), HDEC.out] at h
      injection h with h _
      exact h.symm
    have hge : (k : Int) ≤ (kk : Int) := by rw [hc]; exact Int.le_refl _
    have hgen : k ≤ kk := Nat.le_of_eq hc.symm
    clear hc
    go_enter Tryd.func7, Tryd.ntmps7
    go_wp2_with (first
      | (go_at_call 8
         refine (alive_any _ mm (hm_below HMM (bel1 w _) hpos).out).mono ?_
         rintro e w1 ⟨rfl, hb⟩
         have hx : Box w1 w.heap.size 25 #[.int .i64 m.kind, .int .u32 m.chan, .int .u32 m.sender, .int .u32 m.window, .int .u32 m.packet, .int .u32 m.code, .string m.name, .string m.lang, .bool m.want, .slice A l c] := box_below (Box.new w 25 _) hb
         have p0 : w1.cell? ⟨w.heap.size, 0, none⟩ = some (.int .i64 m.kind) := hx.cell 0
         have p1 : w1.cell? ⟨w.heap.size, 1, none⟩ = some (.int .u32 m.chan) := hx.cell 1
         have p2 : w1.cell? ⟨w.heap.size, 2, none⟩ = some (.int .u32 m.sender) := hx.cell 2
         have p3 : w1.cell? ⟨w.heap.size, 3, none⟩ = some (.int .u32 m.window) := hx.cell 3
         have p4 : w1.cell? ⟨w.heap.size, 4, none⟩ = some (.int .u32 m.packet) := hx.cell 4
         have p5 : w1.cell? ⟨w.heap.size, 5, none⟩ = some (.int .u32 m.code) := hx.cell 5
         have p6 : w1.cell? ⟨w.heap.size, 6, none⟩ = some (.string m.name) := hx.cell 6
         have p7 : w1.cell? ⟨w.heap.size, 7, none⟩ = some (.string m.lang) := hx.cell 7
         have p8 : w1.cell? ⟨w.heap.size, 8, none⟩ = some (.bool m.want) := hx.cell 8
         have p9 : w1.cell? ⟨w.heap.size, 9, none⟩ = some (.slice A l c) := hx.cell 9
         have HX1 := hid hx
         have HB1 : Hid (Below w.heap.size w w1) := (bel1 w _).trans (hb.mono (by simp))
         clear hx hb)
      | (go_at_call 9
         ((with_reducible refine (great_x w1 m A c l false HG HL.out hlm hn1 hn2).mono ?_); rintro e w2 ⟨rfl, HB2⟩)
         have HX2 := box_p HX1 HB2)
      | (go_at_call 15
         ((with_reducible refine (decode_k w2 (80 : Int) mm e1 m1 l1 hz0 hz1 HD1 HL1.out (hm_below HMM (bel_trans HB1 HB2) hpos)).mono ?_); rintro e w3 ⟨A1, c1, rfl, HB3'⟩)
         have HB3 := bel_o HB3'
         have HX3 := box_p HX2 HB3
         have HBW3 := bel_trans (bel_trans HB1 HB2) HB3
         have HD3 := tk_hid HD HBW3
         have s0 : ∀ u, (w3.alloc u).cell? ⟨w.heap.size, 0, none⟩ = some (.int .i64 m.kind) := fun u => (box_a HX3 u).out.cell 0
         have t0 : ∀ u, (w3.alloc u).frozen? ⟨w.heap.size, 0, none⟩ = false := fun u => (box_a HX3 u).out.frozen 0
         have k0 : ∀ u, ((w3.alloc u).setCell ⟨w.heap.size, 0, none⟩ (.int .i64 (80 : Int))).cell? ⟨w.heap.size, 0, none⟩ = some (.int .i64 (80 : Int)) := fun u => ((box_a HX3 u).out.store 0 (.int .i64 (80 : Int))).cell 0
         have k1 : ∀ u, ((w3.alloc u).setCell ⟨w.heap.size, 0, none⟩ (.int .i64 (80 : Int))).cell? ⟨w.heap.size, 1, none⟩ = some (.int .u32 m.chan) := fun u => ((box_a HX3 u).out.store 0 (.int .i64 (80 : Int))).cell 1
         have k2 : ∀ u, ((w3.alloc u).setCell ⟨w.heap.size, 0, none⟩ (.int .i64 (80 : Int))).cell? ⟨w.heap.size, 2, none⟩ = some (.int .u32 m.sender) := fun u => ((box_a HX3 u).out.store 0 (.int .i64 (80 : Int))).cell 2
         have k3 : ∀ u, ((w3.alloc u).setCell ⟨w.heap.size, 0, none⟩ (.int .i64 (80 : Int))).cell? ⟨w.heap.size, 3, none⟩ = some (.int .u32 m.window) := fun u => ((box_a HX3 u).out.store 0 (.int .i64 (80 : Int))).cell 3
         have k4 : ∀ u, ((w3.alloc u).setCell ⟨w.heap.size, 0, none⟩ (.int .i64 (80 : Int))).cell? ⟨w.heap.size, 4, none⟩ = some (.int .u32 m.packet) := fun u => ((box_a HX3 u).out.store 0 (.int .i64 (80 : Int))).cell 4
         have k5 : ∀ u, ((w3.alloc u).setCell ⟨w.heap.size, 0, none⟩ (.int .i64 (80 : Int))).cell? ⟨w.heap.size, 5, none⟩ = some (.int .u32 m.code) := fun u => ((box_a HX3 u).out.store 0 (.int .i64 (80 : Int))).cell 5
         have k6 : ∀ u, ((w3.alloc u).setCell ⟨w.heap.size, 0, none⟩ (.int .i64 (80 : Int))).cell? ⟨w.heap.size, 6, none⟩ = some (.string m.name) := fun u => ((box_a HX3 u).out.store 0 (.int .i64 (80 : Int))).cell 6
         have k7 : ∀ u, ((w3.alloc u).setCell ⟨w.heap.size, 0, none⟩ (.int .i64 (80 : Int))).cell? ⟨w.heap.size, 7, none⟩ = some (.string m.lang) := fun u => ((box_a HX3 u).out.store 0 (.int .i64 (80 : Int))).cell 7
         have k8 : ∀ u, ((w3.alloc u).setCell ⟨w.heap.size, 0, none⟩ (.int .i64 (80 : Int))).cell? ⟨w.heap.size, 8, none⟩ = some (.bool m.want) := fun u => ((box_a HX3 u).out.store 0 (.int .i64 (80 : Int))).cell 8
         have k9 : ∀ u, ((w3.alloc u).setCell ⟨w.heap.size, 0, none⟩ (.int .i64 (80 : Int))).cell? ⟨w.heap.size, 9, none⟩ = some (.slice A l c) := fun u => ((box_a HX3 u).out.store 0 (.int .i64 (80 : Int))).cell 9)
      | (go_at_call 11
         ((with_reducible refine (encode_m w3 (.cells #[.int .i64 m1.kind, .int .u32 m1.chan, .int .u32 m1.sender, .int .u32 m1.window, .int .u32 m1.packet, .int .u32 m1.code, .string m1.name, .string m1.lang, .bool m1.want, .slice A1 l1 c1] 25) w.heap.size m (80 : Int) A er l k bs c w.heap.size HE HM hz0 hz1 HX3 HD3 (Nat.le_refl _) HL.out HK.out).mono ?_); rintro e w5 ⟨A5, c5, rfl, HO5, HK5, HB5⟩)
         have HW5 : Hid (Below w.heap.size w w5) := HBW3.out.trans (HK5.out.below HBW3.out.size)
         have hcap := own_caps HO5.out
         have hkc2 : kk ≤ c5 := Nat.le_trans hkk2 hcap.1
         have hkc : (kk : Int) ≤ (c5 : Int) := Int.ofNat_le.2 hkc2)
      | (go_at_call 15
         have hsl : Hid (SlB w5 w5.heap.size A5 c5 (bs.take kk)) := by have h := HO5.out; rw [← HK.out] at h; exact (own_slb (n := 0) h).take kk
         ((with_reducible refine (decode_x w5 A5 c5 kk l2 (bs.take kk) mm e2 m2 HD2 HTK.out HL2.out hsl (hm_below HMM HW5 hpos)).mono ?_); rintro e w6 ⟨A6, c6, rfl, HO6, HB6⟩)))
    go_ret
    exact ⟨rfl, (HW5.out.trans (HB6.out.mono HW5.out.size)).alloc (by have := HW5.out.size; have := HB6.out.size; omega) _⟩
  · have hlt : kk < k := Nat.lt_of_le_of_ne hkk2 hc
    have hlti : (kk : Int) < (k : Int) := Int.ofNat_lt.2 hlt
    have hge : decide ((k : Int) ≤ (kk : Int)) = false := decide_eq_false (Int.not_le.2 hlti)
    have hgen : decide (k ≤ kk) = false := decide_eq_false (Nat.not_le.2 hlt)
    clear hc
    go_enter Tryd.func7, Tryd.ntmps7
    go_wp2_with (first
      | (go_at_call 8
         refine (alive_any _ mm (hm_below HMM (bel1 w _) hpos).out).mono ?_
         rintro e w1 ⟨rfl, hb⟩
         have hx : Box w1 w.heap.size 25 #[.int .i64 m.kind, .int .u32 m.chan, .int .u32 m.sender, .int .u32 m.window, .int .u32 m.packet, .int .u32 m.code, .string m.name, .string m.lang, .bool m.want, .slice A l c] := box_below (Box.new w 25 _) hb
         have p0 : w1.cell? ⟨w.heap.size, 0, none⟩ = some (.int .i64 m.kind) := hx.cell 0
         have p1 : w1.cell? ⟨w.heap.size, 1, none⟩ = some (.int .u32 m.chan) := hx.cell 1
         have p2 : w1.cell? ⟨w.heap.size, 2, none⟩ = some (.int .u32 m.sender) := hx.cell 2
         have p3 : w1.cell? ⟨w.heap.size, 3, none⟩ = some (.int .u32 m.window) := hx.cell 3
         have p4 : w1.cell? ⟨w.heap.size, 4, none⟩ = some (.int .u32 m.packet) := hx.cell 4
         have p5 : w1.cell? ⟨w.heap.size, 5, none⟩ = some (.int .u32 m.code) := hx.cell 5
         have p6 : w1.cell? ⟨w.heap.size, 6, none⟩ = some (.string m.name) := hx.cell 6
         have p7 : w1.cell? ⟨w.heap.size, 7, none⟩ = some (.string m.lang) := hx.cell 7
         have p8 : w1.cell? ⟨w.heap.size, 8, none⟩ = some (.bool m.want) := hx.cell 8
         have p9 : w1.cell? ⟨w.heap.size, 9, none⟩ = some (.slice A l c) := hx.cell 9
         have HX1 := hid hx
         have HB1 : Hid (Below w.heap.size w w1) := (bel1 w _).trans (hb.mono (by simp))
         clear hx hb)
      | (go_at_call 9
         ((with_reducible refine (great_x w1 m A c l false HG HL.out hlm hn1 hn2).mono ?_); rintro e w2 ⟨rfl, HB2⟩)
         have HX2 := box_p HX1 HB2)
      | (go_at_call 15
         ((with_reducible refine (decode_k w2 (80 : Int) mm e1 m1 l1 hz0 hz1 HD1 HL1.out (hm_below HMM (bel_trans HB1 HB2) hpos)).mono ?_); rintro e w3 ⟨A1, c1, rfl, HB3'⟩)
         have HB3 := bel_o HB3'
         have HX3 := box_p HX2 HB3
         have HBW3 := bel_trans (bel_trans HB1 HB2) HB3
         have HD3 := tk_hid HD HBW3
         have s0 : ∀ u, (w3.alloc u).cell? ⟨w.heap.size, 0, none⟩ = some (.int .i64 m.kind) := fun u => (box_a HX3 u).out.cell 0
         have t0 : ∀ u, (w3.alloc u).frozen? ⟨w.heap.size, 0, none⟩ = false := fun u => (box_a HX3 u).out.frozen 0
         have k0 : ∀ u, ((w3.alloc u).setCell ⟨w.heap.size, 0, none⟩ (.int .i64 (80 : Int))).cell? ⟨w.heap.size, 0, none⟩ = some (.int .i64 (80 : Int)) := fun u => ((box_a HX3 u).out.store 0 (.int .i64 (80 : Int))).cell 0
         have k1 : ∀ u, ((w3.alloc u).setCell ⟨w.heap.size, 0, none⟩ (.int .i64 (80 : Int))).cell? ⟨w.heap.size, 1, none⟩ = some (.int .u32 m.chan) := fun u => ((box_a HX3 u).out.store 0 (.int .i64 (80 : Int))).cell 1
         have k2 : ∀ u, ((w3.alloc u).setCell ⟨w.heap.size, 0, none⟩ (.int .i64 (80 : Int))).cell? ⟨w.heap.size, 2, none⟩ = some (.int .u32 m.sender) := fun u => ((box_a HX3 u).out.store 0 (.int .i64 (80 : Int))).cell 2
         have k3 : ∀ u, ((w3.alloc u).setCell ⟨w.heap.size, 0, none⟩ (.int .i64 (80 : Int))).cell? ⟨w.heap.size, 3, none⟩ = some (.int .u32 m.window) := fun u => ((box_a HX3 u).out.store 0 (.int .i64 (80 : Int))).cell 3
         have k4 : ∀ u, ((w3.alloc u).setCell ⟨w.heap.size, 0, none⟩ (.int .i64 (80 : Int))).cell? ⟨w.heap.size, 4, none⟩ = some (.int .u32 m.packet) := fun u => ((box_a HX3 u).out.store 0 (.int .i64 (80 : Int))).cell 4
         have k5 : ∀ u, ((w3.alloc u).setCell ⟨w.heap.size, 0, none⟩ (.int .i64 (80 : Int))).cell? ⟨w.heap.size, 5, none⟩ = some (.int .u32 m.code) := fun u => ((box_a HX3 u).out.store 0 (.int .i64 (80 : Int))).cell 5
         have k6 : ∀ u, ((w3.alloc u).setCell ⟨w.heap.size, 0, none⟩ (.int .i64 (80 : Int))).cell? ⟨w.heap.size, 6, none⟩ = some (.string m.name) := fun u => ((box_a HX3 u).out.store 0 (.int .i64 (80 : Int))).cell 6
         have k7 : ∀ u, ((w3.alloc u).setCell ⟨w.heap.size, 0, none⟩ (.int .i64 (80 : Int))).cell? ⟨w.heap.size, 7, none⟩ = some (.string m.lang) := fun u => ((box_a HX3 u).out.store 0 (.int .i64 (80 : Int))).cell 7
         have k8 : ∀ u, ((w3.alloc u).setCell ⟨w.heap.size, 0, none⟩ (.int .i64 (80 : Int))).cell? ⟨w.heap.size, 8, none⟩ = some (.bool m.want) := fun u => ((box_a HX3 u).out.store 0 (.int .i64 (80 : Int))).cell 8
         have k9 : ∀ u, ((w3.alloc u).setCell ⟨w.heap.size, 0, none⟩ (.int .i64 (80 : Int))).cell? ⟨w.heap.size, 9, none⟩ = some (.slice A l c) := fun u => ((box_a HX3 u).out.store 0 (.int .i64 (80 : Int))).cell 9)
      | (go_at_call 11
         ((with_reducible refine (encode_m w3 (.cells #[.int .i64 m1.kind, .int .u32 m1.chan, .int .u32 m1.sender, .int .u32 m1.window, .int .u32 m1.packet, .int .u32 m1.code, .string m1.name, .string m1.lang, .bool m1.want, .slice A1 l1 c1] 25) w.heap.size m (80 : Int) A er l k bs c w.heap.size HE HM hz0 hz1 HX3 HD3 (Nat.le_refl _) HL.out HK.out).mono ?_); rintro e w5 ⟨A5, c5, rfl, HO5, HK5, HB5⟩)
         have HW5 : Hid (Below w.heap.size w w5) := HBW3.out.trans (HK5.out.below HBW3.out.size)
         have hcap := own_caps HO5.out
         have hkc2 : kk ≤ c5 := Nat.le_trans hkk2 hcap.1
         have hkc : (kk : Int) ≤ (c5 : Int) := Int.ofNat_le.2 hkc2)
      | (go_at_call 15
         have hsl : Hid (SlB w5 w5.heap.size A5 c5 (bs.take kk)) := by have h := HO5.out; rw [← HK.out] at h; exact (own_slb (n := 0) h).take kk
         ((with_reducible refine (decode_x w5 A5 c5 kk l2 (bs.take kk) mm e2 m2 HD2 HTK.out HL2.out hsl (hm_below HMM HW5 hpos)).mono ?_); rintro e w6 ⟨A6, c6, rfl, HO6, HB6⟩)))
    go_ret
    exact ⟨rfl, (HW5.out.trans (HB6.out.mono HW5.out.size)).alloc (by have := HW5.out.size; have := HB6.out.size; omega) _⟩

set_option maxHeartbeats 4000000 in
set_option maxRecDepth 100000 in
theorem kinds_ok81 (w : World) (m : Mg) (A : Option Addr) (c l : Nat) (cut mm : Int) (hm : m.Ok) (hl : m.data.length = l) (hd : TK w w.heap.size A c m.data) (hz0 : 0 ≤ (81 : Int)) (hz1 : (81 : Int) ≤ 255) (hc0 : 0 ≤ cut) (hc1 : cut ≤ 65535) (hmm : w.cell? ⟨0, 0, none⟩ = some (.int .i64 mm)) (hg : greatB m = false) (hk : knownZ (81 : Int) = true) (her : (encF (mk m (81 : Int))).1 = 0) :
    Calls Tryd.prog 7 #[.agg #[.int .i64 m.kind, .int .u32 m.chan, .int .u32 m.sender, .int .u32 m.window, .int .u32 m.packet, .int .u32 m.code, .string m.name, .string m.lang, .bool m.want, .slice A l c], .int .u8 (81 : Int), .int .u16 cut] w fun e w' => e = .returned (.bool true) ∧ Below w.heap.size w w' := by
  have hpos : 0 < w.heap.size := World.block_lt_of_cell? w _ hmm
  have hlm : l ≤ maxLen := by have := hd.1; have := hd.2.1; omega
  have HM := hid hm
  have HD := hid hd
  have HMM := hid hmm
  have HL := hid hl
  have hn1 := hm.name
  have hn2 := hm.lang
  clear hm hd hmm hl
  have hwz : IntKind.i64.wrap (81 : Int) = (81 : Int) := by simp [IntKind.wrap, IntKind.bits, IntKind.signed] <;> omega
  obtain ⟨⟨e1, m1⟩, HD1⟩ : ∃ x, Hid (decF [UInt8.ofNat (81 : Int).toNat] = x) := ⟨_, hid rfl⟩
  obtain ⟨l1, HL1⟩ : ∃ k, Hid (m1.data.length = k) := ⟨_, hid rfl⟩
  obtain ⟨⟨er, bs⟩, HE⟩ : ∃ x, Hid (encF (mk m (81 : Int)) = x) := ⟨_, hid rfl⟩
  obtain ⟨k, HK⟩ : ∃ k, Hid (bs.length = k) := ⟨_, hid rfl⟩
  have hne1 : (e1 == 8) = false := by
    have h := decF_known (z := UInt8.ofNat (81 : Int).toNat) [] (by rw [zb_eq hz0 hz1]; exact hk)
    rw [HD1.out] at h
    simpa using h
  have hner : (er == 8) = false := by
    have h := encF_known (m := mk m (81 : Int)) hk
    rw [HE.out] at h
    simpa using h
  have HG := hid hg
  clear hg
  have hbm := back_math (m := mk m (81 : Int)) (mk_ok HM.out hz0 hz1) her
  rw [HE.out] at hbm her
  simp only at hbm her
  obtain ⟨hdec, hle, r, hbs⟩ := hbm
  have HDEC := hid hdec
  have hk0 : 0 < k := by have := HK.out; rw [hbs] at this; simp at this; omega
  have hk0i : (0 : Int) < (k : Int) := by omega
  have hkz : ¬ ((k : Int) = 0) := by omega
  have hkle : k ≤ 33792 := by have := HK.out; omega
  have HBS := hid hbs
  clear hdec hle hbs
  obtain ⟨q, hq⟩ : ∃ q, cut % (k : Int) = q := ⟨_, rfl⟩
  have hp1 : (0 : Int) ≤ q := by rw [← hq]; exact Int.emod_nonneg cut hkz
  have hp2 : q < (k : Int) := by rw [← hq]; exact Int.emod_lt_of_pos cut hk0i
  have hkk0 : ∃ kk : Nat, 1 + cut % (k : Int) = (kk : Int) ∧ 1 ≤ kk ∧ kk ≤ k := by
    rw [hq]
    clear hq
    exact ⟨(1 + q).toNat, by omega, by omega, by omega⟩
  obtain ⟨kk, hkk, hkk1, hkk2⟩ := hkk0
  have hki : (kk : Int) ≤ (k : Int) := Int.ofNat_le.2 hkk2
  have hk33 : (kk : Int) ≤ 33792 := by clear hkk hq hp1 hp2; omega
  have hw64 : wrap64 (kk : Int) = (kk : Int) := w64_kk hk33
  have hmin : min (kk : Int) (k : Int) = (kk : Int) := Int.min_eq_left hki
  obtain ⟨⟨e2, m2⟩, HD2⟩ : ∃ x, Hid (decF (bs.take kk) = x) := ⟨_, hid rfl⟩
  obtain ⟨l2, HL2⟩ : ∃ k, Hid (m2.data.length = k) := ⟨_, hid rfl⟩
  have HTK : Hid ((bs.take kk).length = kk) := hid (by rw [List.length_take, HK.out]; exact Nat.min_eq_left hkk2)
  have hkv : Value.int .i64 (wrap64 (1 + cut % (k : Int))) = Value.int .i64 (kk : Int) := by rw [hkk, hw64]
  clear hp1 hp2 hq hkk hw64
  clear hk
  by_cases hc : kk = k
  · have he2 : e2 = 0 := by
      have h := HD2.out
      rw [hc, List.take_of_length_le (by rw [HK.out]; omega), HDEC.out] at h
      injection h with h _
      exact h.symm
    have hge : (k : Int) ≤ (kk : Int) := by rw [hc]; exact Int.le_refl _
    have hgen : k ≤ kk := Nat.le_of_eq hc.symm
    clear hc
    go_enter Tryd.func7, Tryd.ntmps7
    go_wp2_with (first
      | (go_at_call 8
         refine (alive_any _ mm (hm_below HMM (bel1 w _) hpos).out).mono ?_
         rintro e w1 ⟨rfl, hb⟩
         have hx : Box w1 w.heap.size 25 #[.int .i64 m.kind, .int .u32 m.chan, .int .u32 m.sender, .int .u32 m.window, .int .u32 m.packet, .int .u32 m.code, .string m.name, .string m.lang, .bool m.want, .slice A l c] := box_below (Box.new w 25 _) hb
         have p0 : w1.cell? ⟨w.heap.size, 0, none⟩ = some (.int .i64 m.kind) := hx.cell 0
         have p1 : w1.cell? ⟨w.heap.size, 1, none⟩ = some (.int .u32 m.chan) := hx.cell 1
         have p2 : w1.cell? ⟨w.heap.size, 2, none⟩ = some (.int .u32 m.sender) := hx.cell 2
         have p3 : w1.cell? ⟨w.heap.size, 3, none⟩ = some (.int .u32 m.window) := hx.cell 3
         have p4 : w1.cell? ⟨w.heap.size, 4, none⟩ = some (.int .u32 m.packet) := hx.cell 4
         have p5 : w1.cell? ⟨w.heap.size, 5, none⟩ = some (.int .u32 m.code) := hx.cell 5
         have p6 : w1.cell? ⟨w.heap.size, 6, none⟩ = some (.string m.name) := hx.cell 6
         have p7 : w1.cell? ⟨w.heap.size, 7, none⟩ = some (.string m.lang) := hx.cell 7
         have p8 : w1.cell? ⟨w.heap.size, 8, none⟩ = some (.bool m.want) := hx.cell 8
         have p9 : w1.cell? ⟨w.heap.size, 9, none⟩ = some (.slice A l c) := hx.cell 9
         have HX1 := hid hx
         have HB1 : Hid (Below w.heap.size w w1) := (bel1 w _).trans (hb.mono (by simp))
         clear hx hb)
      | (go_at_call 9
         ((with_reducible refine (great_x w1 m A c l false HG HL.out hlm hn1 hn2).mono ?_); rintro e w2 ⟨rfl, HB2⟩)
         have HX2 := box_p HX1 HB2)
      | (go_at_call 15
         ((with_reducible refine (decode_k w2 (81 : Int) mm e1 m1 l1 hz0 hz1 HD1 HL1.out (hm_below HMM (bel_trans HB1 HB2) hpos)).mono ?_); rintro e w3 ⟨A1, c1, rfl, HB3'⟩)
         have HB3 := bel_o HB3'
         have HX3 := box_p HX2 HB3
         have HBW3 := bel_trans (bel_trans HB1 HB2) HB3
         have HD3 := tk_hid HD HBW3
         have s0 : ∀ u, (w3.alloc u).cell? ⟨w.heap.size, 0, none⟩ = some (.int .i64 m.kind) := fun u => (box_a HX3 u).out.cell 0
         have t0 : ∀ u, (w3.alloc u).frozen? ⟨w.heap.size, 0, none⟩ = false := fun u => (box_a HX3 u).out.frozen 0
         have k0 : ∀ u, ((w3.alloc u).setCell ⟨w.heap.size, 0, none⟩ (.int .i64 (81 : Int))).cell? ⟨w.heap.size, 0, none⟩ = some (.int .i64 (81 : Int)) := fun u => ((box_a HX3 u).out.store 0 (.int .i64 (81 : Int))).cell 0
         have k1 : ∀ u, ((w3.alloc u).setCell ⟨w.heap.size, 0, none⟩ (.int .i64 (81 : Int))).cell? ⟨w.heap.size, 1, none⟩ = some (.int .u32 m.chan) := fun u => ((box_a HX3 u).out.store 0 (.int .i64 (81 : Int))).cell 1
         have k2 : ∀ u, ((w3.alloc u).setCell ⟨w.heap.size, 0, none⟩ (.int .i64 (81 : Int))).cell? ⟨w.heap.size, 2, none⟩ = some (.int .u32 m.sender) := fun u => ((box_a HX3 u).out.store 0 (.int .i64 (81 : Int))).cell 2
         have k3 : ∀ u, ((w3.alloc u).setCell ⟨w.heap.size, 0, none⟩ (.int .i64 (81 : Int))).cell? ⟨w.heap.size, 3, none⟩ = some (.int .u32 m.window) := fun u => ((box_a HX3 u).out.store 0 (.int .i64 (81 : Int))).cell 3
         have k4 : ∀ u, ((w3.alloc u).setCell ⟨w.heap.size, 0, none⟩ (.int .i64 (81 : Int))).cell? ⟨w.heap.size, 4, none⟩ = some (.int .u32 m.packet) := fun u => ((box_a HX3 u).out.store 0 (.int .i64 (81 : Int))).cell 4
         have k5 : ∀ u, ((w3.alloc u).setCell ⟨w.heap.size, 0, none⟩ (.int .i64 (81 : Int))).cell? ⟨w.heap.size, 5, none⟩ = some (.int .u32 m.code) := fun u => ((box_a HX3 u).out.store 0 (.int .i64 (81 : Int))).cell 5
         have k6 : ∀ u, ((w3.alloc u).setCell ⟨w.heap.size, 0, none⟩ (.int .i64 (81 : Int))).cell? ⟨w.heap.size, 6, none⟩ = some (.string m.name) := fun u => ((box_a HX3 u).out.store 0 (.int .i64 (81 : Int))).cell 6
         have k7 : ∀ u, ((w3.alloc u).setCell ⟨w.heap.size, 0, none⟩ (.int .i64 (81 : Int))).cell? ⟨w.heap.size, 7, none⟩ = some (.string m.lang) := fun u => ((box_a HX3 u).out.store 0 (.int .i64 (81 : Int))).cell 7
         have k8 : ∀ u, ((w3.alloc u).setCell ⟨w.heap.size, 0, none⟩ (.int .i64 (81 : Int))).cell? ⟨w.heap.size, 8, none⟩ = some (.bool m.want) := fun u => ((box_a HX3 u).out.store 0 (.int .i64 (81 : Int))).cell 8
         have k9 : ∀ u, ((w3.alloc u).setCell ⟨w.heap.size, 0, none⟩ (.int .i64 (81 : Int))).cell? ⟨w.heap.size, 9, none⟩ = some (.slice A l c) := fun u => ((box_a HX3 u).out.store 0 (.int .i64 (81 : Int))).cell 9)
      | (go_at_call 11
         ((with_reducible refine (encode_m w3 (.cells #[.int .i64 m1.kind, .int .u32 m1.chan, .int .u32 m1.sender, .int .u32 m1.window, .int .u32 m1.packet, .int .u32 m1.code, .string m1.name, .string m1.lang, .bool m1.want, .slice A1 l1 c1] 25) w.heap.size m (81 : Int) A er l k bs c w.heap.size HE HM hz0 hz1 HX3 HD3 (Nat.le_refl _) HL.out HK.out).mono ?_); rintro e w5 ⟨A5, c5, rfl, HO5, HK5, HB5⟩)
         have HW5 : Hid (Below w.heap.size w w5) := HBW3.out.trans (HK5.out.below HBW3.out.size)
         have hcap := own_caps HO5.out
         have hkc2 : kk ≤ c5 := Nat.le_trans hkk2 hcap.1
         have hkc : (kk : Int) ≤ (c5 : Int) := Int.ofNat_le.2 hkc2)
      | (go_at_call 15
         have hsl : Hid (SlB w5 w5.heap.size A5 c5 (bs.take kk)) := by have h := HO5.out; rw [← HK.out] at h; exact (own_slb (n := 0) h).take kk
         ((with_reducible refine (decode_x w5 A5 c5 kk l2 (bs.take kk) mm e2 m2 HD2 HTK.out HL2.out hsl (hm_below HMM HW5 hpos)).mono ?_); rintro e w6 ⟨A6, c6, rfl, HO6, HB6⟩)))
    go_ret
    exact ⟨rfl, (HW5.out.trans (HB6.out.mono HW5.out.size)).alloc (by have := HW5.out.size; have := HB6.out.size; omega) _⟩
  · have hlt : kk < k := Nat.lt_of_le_of_ne hkk2 hc
    have hlti : (kk : Int) < (k : Int) := Int.ofNat_lt.2 hlt
    have hge : decide ((k : Int) ≤ (kk : Int)) = false := decide_eq_false (Int.not_le.2 hlti)
    have hgen : decide (k ≤ kk) = false := decide_eq_false (Nat.not_le.2 hlt)
    clear hc
    go_enter Tryd.func7, Tryd.ntmps7
    go_wp2_with (first
      | (go_at_call 8
         refine (alive_any _ mm (hm_below HMM (bel1 w _) hpos).out).mono ?_
         rintro e w1 ⟨rfl, hb⟩
         have hx : Box w1 w.heap.size 25 #[.int .i64 m.kind, .int .u32 m.chan, .int .u32 m.sender, .int .u32 m.window, .int .u32 m.packet, .int .u32 m.code, .string m.name, .string m.lang, .bool m.want, .slice A l c] := box_below (Box.new w 25 _) hb
         have p0 : w1.cell? ⟨w.heap.size, 0, none⟩ = some (.int .i64 m.kind) := hx.cell 0
         have p1 : w1.cell? ⟨w.heap.size, 1, none⟩ = some (.int .u32 m.chan) := hx.cell 1
         have p2 : w1.cell? ⟨w.heap.size, 2, none⟩ = some (.int .u32 m.sender) := hx.cell 2
         have p3 : w1.cell? ⟨w.heap.size, 3, none⟩ = some (.int .u32 m.window) := hx.cell 3
         have p4 : w1.cell? ⟨w.heap.size, 4, none⟩ = some (.int .u32 m.packet) := hx.cell 4
         have p5 : w1.cell? ⟨w.heap.size, 5, none⟩ = some (.int .u32 m.code) := hx.cell 5
         have p6 : w1.cell? ⟨w.heap.size, 6, none⟩ = some (.string m.name) := hx.cell 6
         have p7 : w1.cell? ⟨w.heap.size, 7, none⟩ = some (.string m.lang) := hx.cell 7
         have p8 : w1.cell? ⟨w.heap.size, 8, none⟩ = some (.bool m.want) := hx.cell 8
         have p9 : w1.cell? ⟨w.heap.size, 9, none⟩ = some (.slice A l c) := hx.cell 9
         have HX1 := hid hx
         have HB1 : Hid (Below w.heap.size w w1) := (bel1 w _).trans (hb.mono (by simp))
         clear hx hb)
      | (go_at_call 9
         ((with_reducible refine (great_x w1 m A c l false HG HL.out hlm hn1 hn2).mono ?_); rintro e w2 ⟨rfl, HB2⟩)
         have HX2 := box_p HX1 HB2)
      | (go_at_call 15
         ((with_reducible refine (decode_k w2 (81 : Int) mm e1 m1 l1 hz0 hz1 HD1 HL1.out (hm_below HMM (bel_trans HB1 HB2) hpos)).mono ?_); rintro e w3 ⟨A1, c1, rfl, HB3'⟩)
         have HB3 := bel_o HB3'
         have HX3 := box_p HX2 HB3
         have HBW3 := bel_trans (bel_trans HB1 HB2) HB3
         have HD3 := tk_hid HD HBW3
         have s0 : ∀ u, (w3.alloc u).cell? ⟨w.heap.size, 0, none⟩ = some (.int .i64 m.kind) := fun u => (box_a HX3 u).out.cell 0
         have t0 : ∀ u, (w3.alloc u).frozen? ⟨w.heap.size, 0, none⟩ = false := fun u => (box_a HX3 u).out.frozen 0
         have k0 : ∀ u, ((w3.alloc u).setCell ⟨w.heap.size, 0, none⟩ (.int .i64 (81 : Int))).cell? ⟨w.heap.size, 0, none⟩ = some (.int .i64 (81 : Int)) := fun u => ((box_a HX3 u).out.store 0 (.int .i64 (81 : Int))).cell 0
         have k1 : ∀ u, ((w3.alloc u).setCell ⟨w.heap.size, 0, none⟩ (.int .i64 (81 : Int))).cell? ⟨w.heap.size, 1, none⟩ = some (.int .u32 m.chan) := fun u => ((box_a HX3 u).out.store 0 (.int .i64 (81 : Int))).cell 1
         have k2 : ∀ u, ((w3.alloc u).setCell ⟨w.heap.size, 0, none⟩ (.int .i64 (81 : Int))).cell? ⟨w.heap.size, 2, none⟩ = some (.int .u32 m.sender) := fun u => ((box_a HX3 u).out.store 0 (.int .i64 (81 : Int))).cell 2
         have k3 : ∀ u, ((w3.alloc u).setCell ⟨w.heap.size, 0, none⟩ (.int .i64 (81 : Int))).cell? ⟨w.heap.size, 3, none⟩ = some (.int .u32 m.window) := fun u => ((box_a HX3 u).out.store 0 (.int .i64 (81 : Int))).cell 3
         have k4 : ∀ u, ((w3.alloc u).setCell ⟨w.heap.size, 0, none⟩ (.int .i64 (81 : Int))).cell? ⟨w.heap.size, 4, none⟩ = some (.int .u32 m.packet) := fun u => ((box_a HX3 u).out.store 0 (.int .i64 (81 : Int))).cell 4
         have k5 : ∀ u, ((w3.alloc u).setCell ⟨w.heap.size, 0, none⟩ (.int .i64 (81 : Int))).cell? ⟨w.heap.size, 5, none⟩ = some (.int .u32 m.code) := fun u => ((box_a HX3 u).out.store 0 (.int .i64 (81 : Int))).cell 5
         have k6 : ∀ u, ((w3.alloc u).setCell ⟨w.heap.size, 0, none⟩ (.int .i64 (81 : Int))).cell? ⟨w.heap.size, 6, none⟩ = some (.string m.name) := fun u => ((box_a HX3 u).out.store 0 (.int .i64 (81 : Int))).cell 6
         have k7 : ∀ u, ((w3.alloc u).setCell ⟨w.heap.size, 0, none⟩ (.int .i64 (81 : Int))).cell? ⟨w.heap.size, 7, none⟩ = some (.string m.lang) := fun u => ((box_a HX3 u).out.store 0 (.int .i64 (81 : Int))).cell 7
         have k8 : ∀ u, ((w3.alloc u).setCell ⟨w.heap.size, 0, none⟩ (.int .i64 (81 : Int))).cell? ⟨w.heap.size, 8, none⟩ = some (.bool m.want) := fun u => ((box_a HX3 u).out.store 0 (.int .i64 (81 : Int))).cell 8
         have k9 : ∀ u, ((w3.alloc u).setCell ⟨w.heap.size, 0, none⟩ (.int .i64 (81 : Int))).cell? ⟨w.heap.size, 9, none⟩ = some (.slice A l c) := fun u => ((box_a HX3 u).out.store 0 (.int .i64 (81 : Int))).cell 9)
      | (go_at_call 11
         ((with_reducible refine (encode_m w3 (.cells #[.int .i64 m1.kind, .int .u32 m1.chan, .int .u32 m1.sender, .int .u32 m1.window, .int .u32 m1.packet, .int .u32 m1.code, .string m1.name, .string m1.lang, .bool m1.want, .slice A1 l1 c1] 25) w.heap.size m (81 : Int) A er l k bs c w.heap.size HE HM hz0 hz1 HX3 HD3 (Nat.le_refl _) HL.out HK.out).mono ?_); rintro e w5 ⟨A5, c5, rfl, HO5, HK5, HB5⟩)
         have HW5 : Hid (Below w.heap.size w w5) := HBW3.out.trans (HK5.out.below HBW3.out.size)
         have hcap := own_caps HO5.out
         have hkc2 : kk ≤ c5 := Nat.le_trans hkk2 hcap.1
         have hkc : (kk : Int) ≤ (c5 : Int) := Int.ofNat_le.2 hkc2)
      | (go_at_call 15
         have hsl : Hid (SlB w5 w5.heap.size A5 c5 (bs.take kk)) := by have h := HO5.out; rw [← HK.out] at h; exact (own_slb (n := 0) h).take kk
         ((with_reducible refine (decode_x w5 A5 c5 kk l2 (bs.take kk) mm e2 m2 HD2 HTK.out HL2.out hsl (hm_below HMM HW5 hpos)).mono ?_); rintro e w6 ⟨A6, c6, rfl, HO6, HB6⟩)))
    go_ret
    exact ⟨rfl, (HW5.out.trans (HB6.out.mono HW5.out.size)).alloc (by have := HW5.out.size; have := HB6.out.size; omega) _⟩

set_option maxHeartbeats 4000000 in
set_option maxRecDepth 100000 in
theorem kinds_ok90 (w : World) (m : Mg) (A : Option Addr) (c l : Nat) (cut mm : Int) (hm : m.Ok) (hl : m.data.length = l) (hd : TK w w.heap.size A c m.data) (hz0 : 0 ≤ (90 : Int)) (hz1 : (90 : Int) ≤ 255) (hc0 : 0 ≤ cut) (hc1 : cut ≤ 65535) (hmm : w.cell? ⟨0, 0, none⟩ = some (.int .i64 mm)) (hg : greatB m = false) (hk : knownZ (90 : Int) = true) (her : (encF (mk m (90 : Int))).1 = 0) :
    Calls Tryd.prog 7 #[.agg #[.int .i64 m.kind, .int .u32 m.chan, .int .u32 m.sender, .int .u32 m.window, .int .u32 m.packet, .int .u32 m.code, .string m.name, .string m.lang, .bool m.want, .slice A l c], .int .u8 (90 : Int), .int .u16 cut] w fun e w' => e = .returned (.bool true) ∧ Below w.heap.size w w' := by
  have hpos : 0 < w.heap.size := World.block_lt_of_cell? w _ hmm
  have hlm : l ≤ maxLen := by have := hd.1; have := hd.2.1; omega
  have HM := hid hm
  have HD := hid hd
  have HMM := hid hmm
  have HL := hid hl
  have hn1 := hm.name
  have hn2 := hm.lang
  clear hm hd hmm hl
  have hwz : IntKind.i64.wrap (90 : Int) = (90 : Int) := by simp [IntKind.wrap, IntKind.bits, IntKind.signed] <;> omega
  obtain ⟨⟨e1, m1⟩, HD1⟩ : ∃ x, Hid (decF [UInt8.ofNat (90 : Int).toNat] = x) := ⟨_, hid rfl⟩
  obtain ⟨l1, HL1⟩ : ∃ k, Hid (m1.data.length = k) := ⟨_, hid rfl⟩
  obtain ⟨⟨er, bs⟩, HE⟩ : ∃ x, Hid (encF (mk m (90 : Int)) = x) := ⟨_, hid rfl⟩
  obtain ⟨k, HK⟩ : ∃ k, Hid (bs.length = k) := ⟨_, hid rfl⟩
  have hne1 : (e1 == 8) = false := by
    have h := decF_known (z := UInt8.ofNat (90 : Int).toNat) [] (by rw [zb_eq hz0 hz1]; exact hk)
    rw [HD1.out] at h
    simpa using h
  have hner : (er == 8) = false := by
    have h := encF_known (m := mk m (90 : Int)) hk
    rw [HE.out] at h
    simpa using h
  have HG := hid hg
  clear hg
  have hbm := back_math (m := mk m (90 : Int)) (mk_ok HM.out hz0 hz1) her
  rw [HE.out] at hbm her
  simp only at hbm her
  obtain ⟨hdec, hle, r, hbs⟩ := hbm
  have HDEC := hid hdec
  have hk0 : 0 < k := by have := HK.out; rw [hbs] at this; simp at this; omega
  have hk0i : (0 : Int) < (k : Int) := by omega
  have hkz : ¬ ((k : Int) = 0) := by omega
  have hkle : k ≤ 33792 := by have := HK.out; omega
  have HBS := hid hbs
  clear hdec hle hbs
  obtain ⟨q, hq⟩ : ∃ q, cut % (k : Int) = q := ⟨_, rfl⟩
  have hp1 : (0 : Int) ≤ q := by rw [← hq]; exact Int.emod_nonneg cut hkz
  have hp2 : q < (k : Int) := by rw [← hq]; exact Int.emod_lt_of_pos cut hk0i
  have hkk0 : ∃ kk : Nat, 1 + cut % (k : Int) = (kk : Int) ∧ 1 ≤ kk ∧ kk ≤ k := by
    rw [hq]
    clear hq
    exact ⟨(1 + q).toNat, by omega, by omega, by omega⟩
  obtain ⟨kk, hkk, hkk1, hkk2⟩ := hkk0
  have hki : (kk : Int) ≤ (k : Int) := Int.ofNat_le.2 hkk2
  have hk33 : (kk : Int) ≤ 33792 := by clear hkk hq hp1 hp2; omega
  have hw64 : wrap64 (kk : Int) = (kk : Int) := w64_kk hk33
  have hmin : min (kk : Int) (k : Int) = (kk : Int) := Int.min_eq_left hki
  obtain ⟨⟨e2, m2⟩, HD2⟩ : ∃ x, Hid (decF (bs.take kk) = x) := ⟨_, hid rfl⟩
  obtain ⟨l2, HL2⟩ : ∃ k, Hid (m2.data.length = k) := ⟨_, hid rfl⟩
  have HTK : Hid ((bs.take kk).length = kk) := hid (by rw [List.length_take, HK.out]; exact Nat.min_eq_left hkk2)
  have hkv : Value.int .i64 (wrap64 (1 + cut % (k : Int))) = Value.int .i64 (kk : Int) := by rw [hkk, hw64]
  clear hp1 hp2 hq hkk hw64
  clear hk
  by_cases hc : kk = k
  · have he2 : e2 = 0 := by
      have h := HD2.out
      rw [hc, List.take_of_length_le (by rw [HK.out]; omega), HDEC.out] at h
      injection h with h _
      exact h.symm
    have hge : (k : Int) ≤ (kk : Int) := by rw [hc]; exact Int.le_refl _
    have hgen : k ≤ kk := Nat.le_of_eq hc.symm
    clear hc
    go_enter Tryd.func7, Tryd.ntmps7
    go_wp2_with (first
      | (go_at_call 8
         refine (alive_any _ mm (hm_below HMM (bel1 w _) hpos).out).mono ?_
         rintro e w1 ⟨rfl, hb⟩
         have hx : Box w1 w.heap.size 25 #[.int .i64 m.kind, .int .u32 m.chan, .int .u32 m.sender, .int .u32 m.window, .int .u32 m.packet, .int .u32 m.code, .string m.name, .string m.lang, .bool m.want, .slice A l c] := box_below (Box.new w 25 _) hb
         have p0 : w1.cell? ⟨w.heap.size, 0, none⟩ = some (.int .i64 m.kind) := hx.cell 0
         have p1 : w1.cell? ⟨w.heap.size, 1, none⟩ = some (.int .u32 m.chan) := hx.cell 1
         have p2 : w1.cell? ⟨w.heap.size, 2, none⟩ = some (.int .u32 m.sender) := hx.cell 2
         have p3 : w1.cell? ⟨w.heap.size, 3, none⟩ = some (.int .u32 m.window) := hx.cell 3
         have p4 : w1.cell? ⟨w.heap.size, 4, none⟩ = some (.int .u32 m.packet) := hx.cell 4
         have p5 : w1.cell? ⟨w.heap.size, 5, none⟩ = some (.int .u32 m.code) := hx.cell 5
         have p6 : w1.cell? ⟨w.heap.size, 6, none⟩ = some (.string m.name) := hx.cell 6
         have p7 : w1.cell? ⟨w.heap.size, 7, none⟩ = some (.string m.lang) := hx.cell 7
         have p8 : w1.cell? ⟨w.heap.size, 8, none⟩ = some (.bool m.want) := hx.cell 8
         have p9 : w1.cell? ⟨w.heap.size, 9, none⟩ = some (.slice A l c) := hx.cell 9
         have HX1 := hid hx
         have HB1 : Hid (Below w.heap.size w w1) := (bel1 w _).trans (hb.mono (by simp))
         clear hx hb)
      | (go_at_call 9
         ((with_reducible refine (great_x w1 m A c l false HG HL.out hlm hn1 hn2).mono ?_); rintro e w2 ⟨rfl, HB2⟩)
         have HX2 := box_p HX1 HB2)
      | (go_at_call 15
         ((with_reducible refine (decode_k w2 (90 : Int) mm e1 m1 l1 hz0 hz1 HD1 HL1.out (hm_below HMM (bel_trans HB1 HB2) hpos)).mono ?_); rintro e w3 ⟨A1, c1, rfl, HB3'⟩)
         have HB3 := bel_o HB3'
         have HX3 := box_p HX2 HB3
         have HBW3 := bel_trans (bel_trans HB1 HB2) HB3
         have HD3 := tk_hid HD HBW3
         have s0 : ∀ u, (w3.alloc u).cell? ⟨w.heap.size, 0, none⟩ = some (.int .i64 m.kind) := fun u => (box_a HX3 u).out.cell 0
         have t0 : ∀ u, (w3.alloc u).frozen? ⟨w.heap.size, 0, none⟩ = false := fun u => (box_a HX3 u).out.frozen 0
         have k0 : ∀ u, ((w3.alloc u).setCell ⟨w.heap.size, 0, none⟩ (.int .i64 (90 : Int))).cell? ⟨w.heap.size, 0, none⟩ = some (.int .i64 (90 : Int)) := fun u => ((box_a HX3 u).out.store 0 (.int .i64 (90 : Int))).cell 0
         have k1 : ∀ u, ((w3.alloc u).setCell ⟨w.heap.size, 0, none⟩ (.int .i64 (90 : Int))).cell? ⟨w.heap.size, 1, none⟩ = some (.int .u32 m.chan) := fun u => ((box_a HX3 u).out.store 0 (.int .i64 (90 : Int))).cell 1
         have k2 : ∀ u, ((w3.alloc u).setCell ⟨w.heap.size, 0, none⟩ (.int .i64 (90 : Int))).cell? ⟨w.heap.size, 2, none⟩ = some (.int .u32 m.sender) := fun u => ((box_a HX3 u).out.store 0 (.int .i64 (90 : Int))).cell 2
         have k3 : ∀ u, ((w3.alloc u).setCell ⟨w.heap.size, 0, none⟩ (.int .i64 (90 : Int))).cell? ⟨w.heap.size, 3, none⟩ = some (.int .u32 m.window) := fun u => ((box_a HX3 u).out.store 0 (.int .i64 (90 : Int))).cell 3
         have k4 : ∀ u, ((w3.alloc u).setCell ⟨w.heap.size, 0, none⟩ (.int .i64 (90 : Int))).cell? ⟨w.heap.size, 4, none⟩ = some (.int .u32 m.packet) := fun u => ((box_a HX3 u).out.store 0 (.int .i64 (90 : Int))).cell 4
         have k5 : ∀ u, ((w3.alloc u).setCell ⟨w.heap.size, 0, none⟩ (.int .i64 (90 : Int))).cell? ⟨w.heap.size, 5, none⟩ = some (.int .u32 m.code) := fun u => ((box_a HX3 u).out.store 0 (.int .i64 (90 : Int))).cell 5
         have k6 : ∀ u, ((w3.alloc u).setCell ⟨w.heap.size, 0, none⟩ (.int .i64 (90 : Int))).cell? ⟨w.heap.size, 6, none⟩ = some (.string m.name) := fun u => ((box_a HX3 u).out.store 0 (.int .i64 (90 : Int))).cell 6
         have k7 : ∀ u, ((w3.alloc u).setCell ⟨w.heap.size, 0, none⟩ (.int .i64 (90 : Int))).cell? ⟨w.heap.size, 7, none⟩ = some (.string m.lang) := fun u => ((box_a HX3 u).out.store 0 (.int .i64 (90 : Int))).cell 7
         have k8 : ∀ u, ((w3.alloc u).setCell ⟨w.heap.size, 0, none⟩ (.int .i64 (90 : Int))).cell? ⟨w.heap.size, 8, none⟩ = some (.bool m.want) := fun u => ((box_a HX3 u).out.store 0 (.int .i64 (90 : Int))).cell 8
         have k9 : ∀ u, ((w3.alloc u).setCell ⟨w.heap.size, 0, none⟩ (.int .i64 (90 : Int))).cell? ⟨w.heap.size, 9, none⟩ = some (.slice A l c) := fun u => ((box_a HX3 u).out.store 0 (.int .i64 (90 : Int))).cell 9)
      | (go_at_call 11
         ((with_reducible refine (encode_m w3 (.cells #[.int .i64 m1.kind, .int .u32 m1.chan, .int .u32 m1.sender, .int .u32 m1.window, .int .u32 m1.packet, .int .u32 m1.code, .string m1.name, .string m1.lang, .bool m1.want, .slice A1 l1 c1] 25) w.heap.size m (90 : Int) A er l k bs c w.heap.size HE HM hz0 hz1 HX3 HD3 (Nat.le_refl _) HL.out HK.out).mono ?_); rintro e w5 ⟨A5, c5, rfl, HO5, HK5, HB5⟩)
         have HW5 : Hid (Below w.heap.size w w5) := HBW3.out.trans (HK5.out.below HBW3.out.size)
         have hcap := own_caps HO5.out
         have hkc2 : kk ≤ c5 := Nat.le_trans hkk2 hcap.1
         have hkc : (kk : Int) ≤ (c5 : Int) := Int.ofNat_le.2 hkc2)
      | (go_at_call 15
         have hsl : Hid (SlB w5 w5.heap.size A5 c5 (bs.take kk)) := by have h := HO5.out; rw [← HK.out] at h; exact (own_slb (n := 0) h).take kk
         ((with_reducible refine (decode_x w5 A5 c5 kk l2 (bs.take kk) mm e2 m2 HD2 HTK.out HL2.out hsl (hm_below HMM HW5 hpos)).mono ?_); rintro e w6 ⟨A6, c6, rfl, HO6, HB6⟩)))
    go_ret
    exact ⟨rfl, (HW5.out.trans (HB6.out.mono HW5.out.size)).alloc (by have := HW5.out.size; have := HB6.out.size; omega) _⟩
  · have hlt : kk < k := Nat.lt_of_le_of_ne hkk2 hc
    have hlti : (kk : Int) < (k : Int) := Int.ofNat_lt.2 hlt
    have hge : decide ((k : Int) ≤ (kk : Int)) = false := decide_eq_false (Int.not_le.2 hlti)
    have hgen : decide (k ≤ kk) = false := decide_eq_false (Nat.not_le.2 hlt)
    clear hc
    go_enter Tryd.func7, Tryd.ntmps7
    go_wp2_with (first
      | (go_at_call 8
         refine (alive_any _ mm (hm_below HMM (bel1 w _) hpos).out).mono ?_
         rintro e w1 ⟨rfl, hb⟩
         have hx : Box w1 w.heap.size 25 #[.int .i64 m.kind, .int .u32 m.chan, .int .u32 m.sender, .int .u32 m.window, .int .u32 m.packet, .int .u32 m.code, .string m.name, .string m.lang, .bool m.want, .slice A l c] := box_below (Box.new w 25 _) hb
         have p0 : w1.cell? ⟨w.heap.size, 0, none⟩ = some (.int .i64 m.kind) := hx.cell 0
         have p1 : w1.cell? ⟨w.heap.size, 1, none⟩ = some (.int .u32 m.chan) := hx.cell 1
         have p2 : w1.cell? ⟨w.heap.size, 2, none⟩ = some (.int .u32 m.sender) := hx.cell 2
         have p3 : w1.cell? ⟨w.heap.size, 3, none⟩ = some (.int .u32 m.window) := hx.cell 3
         have p4 : w1.cell? ⟨w.heap.size, 4, none⟩ = some (.int .u32 m.packet) := hx.cell 4
         have p5 : w1.cell? ⟨w.heap.size, 5, none⟩ = some (.int .u32 m.code) := hx.cell 5
         have p6 : w1.cell? ⟨w.heap.size, 6, none⟩ = some (.string m.name) := hx.cell 6
         have p7 : w1.cell? ⟨w.heap.size, 7, none⟩ = some (.string m.lang) := hx.cell 7
         have p8 : w1.cell? ⟨w.heap.size, 8, none⟩ = some (.bool m.want) := hx.cell 8
         have p9 : w1.cell? ⟨w.heap.size, 9, none⟩ = some (.slice A l c) := hx.cell 9
         have HX1 := hid hx
         have HB1 : Hid (Below w.heap.size w w1) := (bel1 w _).trans (hb.mono (by simp))
         clear hx hb)
      | (go_at_call 9
         ((with_reducible refine (great_x w1 m A c l false HG HL.out hlm hn1 hn2).mono ?_); rintro e w2 ⟨rfl, HB2⟩)
         have HX2 := box_p HX1 HB2)
      | (go_at_call 15
         ((with_reducible refine (decode_k w2 (90 : Int) mm e1 m1 l1 hz0 hz1 HD1 HL1.out (hm_below HMM (bel_trans HB1 HB2) hpos)).mono ?_); rintro e w3 ⟨A1, c1, rfl, HB3'⟩)
         have HB3 := bel_o HB3'
         have HX3 := box_p HX2 HB3
         have HBW3 := bel_trans (bel_trans HB1 HB2) HB3
         have HD3 := tk_hid HD HBW3
         have s0 : ∀ u, (w3.alloc u).cell? ⟨w.heap.size, 0, none⟩ = some (.int .i64 m.kind) := fun u => (box_a HX3 u).out.cell 0
         have t0 : ∀ u, (w3.alloc u).frozen? ⟨w.heap.size, 0, none⟩ = false := fun u => (box_a HX3 u).out.frozen 0
         have k0 : ∀ u, ((w3.alloc u).setCell ⟨w.heap.size, 0, none⟩ (.int .i64 (90 : Int))).cell? ⟨w.heap.size, 0, none⟩ = some (.int .i64 (90 : Int)) := fun u => ((box_a HX3 u).out.store 0 (.int .i64 (90 : Int))).cell 0
         have k1 : ∀ u, ((w3.alloc u).setCell ⟨w.heap.size, 0, none⟩ (.int .i64 (90 : Int))).cell? ⟨w.heap.size, 1, none⟩ = some (.int .u32 m.chan) := fun u => ((box_a HX3 u).out.store 0 (.int .i64 (90 : Int))).cell 1
         have k2 : ∀ u, ((w3.alloc u).setCell ⟨w.heap.size, 0, none⟩ (.int .i64 (90 : Int))).cell? ⟨w.heap.size, 2, none⟩ = some (.int .u32 m.sender) := fun u => ((box_a HX3 u).out.store 0 (.int .i64 (90 : Int))).cell 2
         have k3 : ∀ u, ((w3.alloc u).setCell ⟨w.heap.size, 0, none⟩ (.int .i64 (90 : Int))).cell? ⟨w.heap.size, 3, none⟩ = some (.int .u32 m.window) := fun u => ((box_a HX3 u).out.store 0 (.int .i64 (90 : Int))).cell 3
         have k4 : ∀ u, ((w3.alloc u).setCell ⟨w.heap.size, 0, none⟩ (.int .i64 (90 : Int))).cell? ⟨w.heap.size, 4, none⟩ = some (.int .u32 m.packet) := fun u => ((box_a HX3 u).out.store 0 (.int .i64 (90 : Int))).cell 4
         have k5 : ∀ u, ((w3.alloc u).setCell ⟨w.heap.size, 0, none⟩ (.int .i64 (90 : Int))).cell? ⟨w.heap.size, 5, none⟩ = some (.int .u32 m.code) := fun u => ((box_a HX3 u).out.store 0 (.int .i64 (90 : Int))).cell 5
         have k6 : ∀ u, ((w3.alloc u).setCell ⟨w.heap.size, 0, none⟩ (.int .i64 (90 : Int))).cell? ⟨w.heap.size, 6, none⟩ = some (.string m.name) := fun u => ((box_a HX3 u).out.store 0 (.int .i64 (90 : Int))).cell 6
         have k7 : ∀ u, ((w3.alloc u).setCell ⟨w.heap.size, 0, none⟩ (.int .i64 (90 : Int))).cell? ⟨w.heap.size, 7, none⟩ = some (.string m.lang) := fun u => ((box_a HX3 u).out.store 0 (.int .i64 (90 : Int))).cell 7
         have k8 : ∀ u, ((w3.alloc u).setCell ⟨w.heap.size, 0, none⟩ (.int .i64 (90 : Int))).cell? ⟨w.heap.size, 8, none⟩ = some (.bool m.want) := fun u => ((box_a HX3 u).out.store 0 (.int .i64 (90 : Int))).cell 8
         have k9 : ∀ u, ((w3.alloc u).setCell ⟨w.heap.size, 0, none⟩ (.int .i64 (90 : Int))).cell? ⟨w.heap.size, 9, none⟩ = some (.slice A l c) := fun u => ((box_a HX3 u).out.store 0 (.int .i64 (90 : Int))).cell 9)
      | (go_at_call 11
         ((with_reducible refine (encode_m w3 (.cells #[.int .i64 m1.kind, .int .u32 m1.chan, .int .u32 m1.sender, .int .u32 m1.window, .int .u32 m1.packet, .int .u32 m1.code, .string m1.name, .string m1.lang, .bool m1.want, .slice A1 l1 c1] 25) w.heap.size m (90 : Int) A er l k bs c w.heap.size HE HM hz0 hz1 HX3 HD3 (Nat.le_refl _) HL.out HK.out).mono ?_); rintro e w5 ⟨A5, c5, rfl, HO5, HK5, HB5⟩)
         have HW5 : Hid (Below w.heap.size w w5) := HBW3.out.trans (HK5.out.below HBW3.out.size)
         have hcap := own_caps HO5.out
         have hkc2 : kk ≤ c5 := Nat.le_trans hkk2 hcap.1
         have hkc : (kk : Int) ≤ (c5 : Int) := Int.ofNat_le.2 hkc2)
      | (go_at_call 15
         have hsl : Hid (SlB w5 w5.heap.size A5 c5 (bs.take kk)) := by have h := HO5.out; rw [← HK.out] at h; exact (own_slb (n := 0) h).take kk
         ((with_reducible refine (decode_x w5 A5 c5 kk l2 (bs.take kk) mm e2 m2 HD2 HTK.out HL2.out hsl (hm_below HMM HW5 hpos)).mono ?_); rintro e w6 ⟨A6, c6, rfl, HO6, HB6⟩)))
    go_ret
    exact ⟨rfl, (HW5.out.trans (HB6.out.mono HW5.out.size)).alloc (by have := HW5.out.size; have := HB6.out.size; omega) _⟩

set_option maxHeartbeats 4000000 in
set_option maxRecDepth 100000 in
theorem kinds_ok91 (w : World) (m : Mg) (A : Option Addr) (c l : Nat) (cut mm : Int) (hm : m.Ok) (hl : m.data.length = l) (hd : TK w w.heap.size A c m.data) (hz0 : 0 ≤ (91 : Int)) (hz1 : (91 : Int) ≤ 255) (hc0 : 0 ≤ cut) (hc1 : cut ≤ 65535) (hmm : w.cell? ⟨0, 0, none⟩ = some (.int .i64 mm)) (hg : greatB m = false) (hk : knownZ (91 : Int) = true) (her : (encF (mk m (91 : Int))).1 = 0) :
    Calls Tryd.prog 7 #[.agg #[.int .i64 m.kind, .int .u32 m.chan, .int .u32 m.sender, .int .u32 m.window, .int .u32 m.packet, .int .u32 m.code, .string m.name, .string m.lang, .bool m.want, .slice A l c], .int .u8 (91 : Int), .int .u16 cut] w fun e w' => e = .returned (.bool true) ∧ Below w.heap.size w w' := by
  have hpos : 0 < w.heap.size := World.block_lt_of_cell? w _ hmm
  have hlm : l ≤ maxLen := by have := hd.1; have := hd.2.1; omega
  have HM := hid hm
  have HD := hid hd
  have HMM := hid hmm
  have HL := hid hl
  have hn1 := hm.name
  have hn2 := hm.lang
  clear hm hd hmm hl
  have hwz : IntKind.i64.wrap (91 : Int) = (91 : Int) := by simp [IntKind.wrap, IntKind.bits, IntKind.signed] <;> omega
  obtain ⟨⟨e1, m1⟩, HD1⟩ : ∃ x, Hid (decF [UInt8.ofNat (91 : Int).toNat] = x) := ⟨_, hid rfl⟩
  obtain ⟨l1, HL1⟩ : ∃ k, Hid (m1.data.length = k) := ⟨_, hid rfl⟩
  obtain ⟨⟨er, bs⟩, HE⟩ : ∃ x, Hid (encF (mk m (91 : Int)) = x) := ⟨_, hid rfl⟩
  obtain ⟨k, HK⟩ : ∃ k, Hid (bs.length = k) := ⟨_, hid rfl⟩
  have hne1 : (e1 == 8) = false := by
    have h := decF_known (z := UInt8.ofNat (91 : Int).toNat) [] (by rw [zb_eq hz0 hz1]; exact hk)
    rw [HD1.out] at h
    simpa using h
  have hner : (er == 8) = false := by
    have h := encF_known (m := mk m (91 : Int)) hk
    rw [HE.out] at h
    simpa using h
  have HG := hid hg
  clear hg
  have hbm := back_math (m := mk m (91 : Int)) (mk_ok HM.out hz0 hz1) her
  rw [HE.out] at hbm her
  simp only at hbm her
  obtain ⟨hdec, hle, r, hbs⟩ := hbm
  have HDEC := hid hdec
  have hk0 : 0 < k := by have := HK.out; rw [hbs] at this; simp at this; omega
  have hk0i : (0 : Int) < (k : Int) := by omega
  have hkz : ¬ ((k : Int) = 0) := by omega
  have hkle : k ≤ 33792 := by have := HK.out; omega
  have HBS := hid hbs
  clear hdec hle hbs
  obtain ⟨q, hq⟩ : ∃ q, cut % (k : Int) = q := ⟨_, rfl⟩
  have hp1 : (0 : Int) ≤ q := by rw [← hq]; exact Int.emod_nonneg cut hkz
  have hp2 : q < (k : Int) := by rw [← hq]; exact Int.emod_lt_of_pos cut hk0i
  have hkk0 : ∃ kk : Nat, 1 + cut % (k : Int) = (kk : Int) ∧ 1 ≤ kk ∧ kk ≤ k := by
    rw [hq]
    clear hq
    exact ⟨(1 + q).toNat, by omega, by omega, by omega⟩
  obtain ⟨kk, hkk, hkk1, hkk2⟩ := hkk0
  have hki : (kk : Int) ≤ (k : Int) := Int.ofNat_le.2 hkk2
  have hk33 : (kk : Int) ≤ 33792 := by clear hkk hq hp1 hp2; omega
  have hw64 : wrap64 (kk : Int) = (kk : Int) := w64_kk hk33
  have hmin : min (kk : Int) (k : Int) = (kk : Int) := Int.min_eq_left hki
  obtain ⟨⟨e2, m2⟩, HD2⟩ : ∃ x, Hid (decF (bs.take kk) = x) := ⟨_, hid rfl⟩
  obtain ⟨l2, HL2⟩ : ∃ k, Hid (m2.data.length = k) := ⟨_, hid rfl⟩
  have HTK : Hid ((bs.take kk).length = kk) := hid (by rw [List.length_take, HK.out]; exact Nat.min_eq_left hkk2)
  have hkv : Value.int .i64 (wrap64 (1 + cut % (k : Int))) = Value.int .i64 (kk : Int) := by rw [hkk, hw64]
  clear hp1 hp2 hq hkk hw64
  clear hk
  by_cases hc : kk = k
  · have he2 : e2 = 0 := by
      have h := HD2.out
      rw [hc, List.take_of_length_le (by rw [HK.out]; omega), HDEC.out] at h
      injection h with h _
      exact h.symm
    have hge : (k : Int) ≤ (kk : Int) := by rw [hc]; exact Int.le_refl _
    have hgen : k ≤ kk := Nat.le_of_eq hc.symm
    clear hc
    go_enter Tryd.func7, Tryd.ntmps7
    go_wp2_with (first
      | (go_at_call 8
         refine (alive_any _ mm (hm_below HMM (bel1 w _) hpos).out).mono ?_
         rintro e w1 ⟨rfl, hb⟩
         have hx : Box w1 w.heap.size 25 #[.int .i64 m.kind, .int .u32 m.chan, .int .u32 m.sender, .int .u32 m.window, .int .u32 m.packet, .int .u32 m.code, .string m.name, .string m.lang, .bool m.want, .slice A l c] := box_below (Box.new w 25 _) hb
         have p0 : w1.cell? ⟨w.heap.size, 0, none⟩ = some (.int .i64 m.kind) := hx.cell 0
         have p1 : w1.cell? ⟨w.heap.size, 1, none⟩ = some (.int .u32 m.chan) := hx.cell 1
         have p2 : w1.cell? ⟨w.heap.size, 2, none⟩ = some (.int .u32 m.sender) := hx.cell 2
         have p3 : w1.cell? ⟨w.heap.size, 3, none⟩ = some (.int .u32 m.window) := hx.cell 3
         have p4 : w1.cell? ⟨w.heap.size, 4, none⟩ = some (.int .u32 m.packet) := hx.cell 4
         have p5 : w1.cell? ⟨w.heap.size, 5, none⟩ = some (.int .u32 m.code) := hx.cell 5
         have p6 : w1.cell? ⟨w.heap.size, 6, none⟩ = some (.string m.name) := hx.cell 6
         have p7 : w1.cell? ⟨w.heap.size, 7, none⟩ = some (.string m.lang) := hx.cell 7
         have p8 : w1.cell? ⟨w.heap.size, 8, none⟩ = some (.bool m.want) := hx.cell 8
         have p9 : w1.cell? ⟨w.heap.size, 9, none⟩ = some (.slice A l c) := hx.cell 9
         have HX1 := hid hx
         have HB1 : Hid (Below w.heap.size w w1) := (bel1 w _).trans (hb.mono (by simp))
         clear hx hb)
      | (go_at_call 9
         ((with_reducible refine (great_x w1 m A c l false HG HL.out hlm hn1 hn2).mono ?_); rintro e w2 ⟨rfl, HB2⟩)
         have HX2 := box_p HX1 HB2)
      | (go_at_call 15
         ((with_reducible refine (decode_k w2 (91 : Int) mm e1 m1 l1 hz0 hz1 HD1 HL1.out (hm_below HMM (bel_trans HB1 HB2) hpos)).mono ?_); rintro e w3 ⟨A1, c1, rfl, HB3'⟩)
         have HB3 := bel_o HB3'
         have HX3 := box_p HX2 HB3
         have HBW3 := bel_trans (bel_trans HB1 HB2) HB3
         have HD3 := tk_hid HD HBW3
         have s0 : ∀ u, (w3.alloc u).cell? ⟨w.heap.size, 0, none⟩ = some (.int .i64 m.kind) := fun u => (box_a HX3 u).out.cell 0
         have t0 : ∀ u, (w3.alloc u).frozen? ⟨w.heap.size, 0, none⟩ = false := fun u => (box_a HX3 u).out.frozen 0
         have k0 : ∀ u, ((w3.alloc u).setCell ⟨w.heap.size, 0, none⟩ (.int .i64 (91 : Int))).cell? ⟨w.heap.size, 0, none⟩ = some (.int .i64 (91 : Int)) := fun u => ((box_a HX3 u).out.store 0 (.int .i64 (91 : Int))).cell 0
         have k1 : ∀ u, ((w3.alloc u).setCell ⟨w.heap.size, 0, none⟩ (.int .i64 (91 : Int))).cell? ⟨w.heap.size, 1, none⟩ = some (.int .u32 m.chan) := fun u => ((box_a HX3 u).out.store 0 (.int .i64 (91 : Int))).cell 1
         have k2 : ∀ u, ((w3.alloc u).setCell ⟨w.heap.size, 0, none⟩ (.int .i64 (91 : Int))).cell? ⟨w.heap.size, 2, none⟩ = some (.int .u32 m.sender) := fun u => ((box_a HX3 u).out.store 0 (.int .i64 (91 : Int))).cell 2
         have k3 : ∀ u, ((w3.alloc u).setCell ⟨w.heap.size, 0, none⟩ (.int .i64 (91 : Int))).cell? ⟨w.heap.size, 3, none⟩ = some (.int .u32 m.window) := fun u => ((box_a HX3 u).out.store 0 (.int .i64 (91 : Int))).cell 3
         have k4 : ∀ u, ((w3.alloc u).setCell ⟨w.heap.size, 0, none⟩ (.int .i64 (91 : Int))).cell? ⟨w.heap.size, 4, none⟩ = some (.int .u32 m.packet) := fun u => ((box_a HX3 u).out.store 0 (.int .i64 (91 : Int))).cell 4
         have k5 : ∀ u, ((w3.alloc u).setCell ⟨w.heap.size, 0, none⟩ (.int .i64 (91 : Int))).cell? ⟨w.heap.size, 5, none⟩ = some (.int .u32 m.code) := fun u => ((box_a HX3 u).out.store 0 (.int .i64 (91 : Int))).cell 5
         have k6 : ∀ u, ((w3.alloc u).setCell ⟨w.heap.size, 0, none⟩ (.int .i64 (91 : Int))).cell? ⟨w.heap.size, 6, none⟩ = some (.string m.name) := fun u => ((box_a HX3 u).out.store 0 (.int .i64 (91 : Int))).cell 6
         have k7 : ∀ u, ((w3.alloc u).setCell ⟨w.heap.size, 0, none⟩ (.int .i64 (91 : Int))).cell? ⟨w.heap.size, 7, none⟩ = some (.string m.lang) := fun u => ((box_a HX3 u).out.store 0 (.int .i64 (91 : Int))).cell 7
         have k8 : ∀ u, ((w3.alloc u).setCell ⟨w.heap.size, 0, none⟩ (.int .i64 (91 : Int))).cell? ⟨w.heap.size, 8, none⟩ = some (.bool m.want) := fun u => ((box_a HX3 u).out.store 0 (.int .i64 (91 : Int))).cell 8
         have k9 : ∀ u, ((w3.alloc u).setCell ⟨w.heap.size, 0, none⟩ (.int .i64 (91 : Int))).cell? ⟨w.heap.size, 9, none⟩ = some (.slice A l c) := fun u => ((box_a HX3 u).out.store 0 (.int .i64 (91 : Int))).cell 9)
      | (go_at_call 11
         ((with_reducible refine (encode_m w3 (.cells #[.int .i64 m1.kind, .int .u32 m1.chan, .int .u32 m1.sender, .int .u32 m1.window, .int .u32 m1.packet, .int .u32 m1.code, .string m1.name, .string m1.lang, .bool m1.want, .slice A1 l1 c1] 25) w.heap.size m (91 : Int) A er l k bs c w.heap.size HE HM hz0 hz1 HX3 HD3 (Nat.le_refl _) HL.out HK.out).mono ?_); rintro e w5 ⟨A5, c5, rfl, HO5, HK5, HB5⟩)
         have HW5 : Hid (Below w.heap.size w w5) := HBW3.out.trans (HK5.out.below HBW3.out.size)
         have hcap := own_caps HO5.out
         have hkc2 : kk ≤ c5 := Nat.le_trans hkk2 hcap.1
         have hkc : (kk : Int) ≤ (c5 : Int) := Int.ofNat_le.2 hkc2)
      | (go_at_call 15
         have hsl : Hid (SlB w5 w5.heap.size A5 c5 (bs.take kk)) := by have h := HO5.out; rw [← HK.out] at h; exact (own_slb (n := 0) h).take kk
         ((with_reducible refine (decode_x w5 A5 c5 kk l2 (bs.take kk) mm e2 m2 HD2 HTK.out HL2.out hsl (hm_below HMM HW5 hpos)).mono ?_); rintro e w6 ⟨A6, c6, rfl, HO6, HB6⟩)))
    go_ret
    exact ⟨rfl, (HW5.out.trans (HB6.out.mono HW5.out.size)).alloc (by have := HW5.out.size; have := HB6.out.size; omega) _⟩
  · have hlt : kk < k := Nat.lt_of_le_of_ne hkk2 hc
    have hlti : (kk : Int) < (k : Int) := Int.ofNat_lt.2 hlt
    have hge : decide ((k : Int) ≤ (kk : Int)) = false := decide_eq_false (Int.not_le.2 hlti)
    have hgen : decide (k ≤ kk) = false := decide_eq_false (Nat.not_le.2 hlt)
    clear hc
    go_enter Tryd.func7, Tryd.ntmps7
    go_wp2_with (first
      | (go_at_call 8
         refine (alive_any _ mm (hm_below HMM (bel1 w _) hpos).out).mono ?_
         rintro e w1 ⟨rfl, hb⟩
         have hx : Box w1 w.heap.size 25 #[.int .i64 m.kind, .int .u32 m.chan, .int .u32 m.sender, .int .u32 m.window, .int .u32 m.packet, .int .u32 m.code, .string m.name, .string m.lang, .bool m.want, .slice A l c] := box_below (Box.new w 25 _) hb
         have p0 : w1.cell? ⟨w.heap.size, 0, none⟩ = some (.int .i64 m.kind) := hx.cell 0
         have p1 : w1.cell? ⟨w.heap.size, 1, none⟩ = some (.int .u32 m.chan) := hx.cell 1
         have p2 : w1.cell? ⟨w.heap.size, 2, none⟩ = some (.int .u32 m.sender) := hx.cell 2
         have p3 : w1.cell? ⟨w.heap.size, 3, none⟩ = some (.int .u32 m.window) := hx.cell 3
         have p4 : w1.cell? ⟨w.heap.size, 4, none⟩ = some (.int .u32 m.packet) := hx.cell 4
         have p5 : w1.cell? ⟨w.heap.size, 5, none⟩ = some (.int .u32 m.code) := hx.cell 5
         have p6 : w1.cell? ⟨w.heap.size, 6, none⟩ = some (.string m.name) := hx.cell 6
         have p7 : w1.cell? ⟨w.heap.size, 7, none⟩ = some (.string m.lang) := hx.cell 7
         have p8 : w1.cell? ⟨w.heap.size, 8, none⟩ = some (.bool m.want) := hx.cell 8
         have p9 : w1.cell? ⟨w.heap.size, 9, none⟩ = some (.slice A l c) := hx.cell 9
         have HX1 := hid hx
         have HB1 : Hid (Below w.heap.size w w1) := (bel1 w _).trans (hb.mono (by simp))
         clear hx hb)
      | (go_at_call 9
         ((with_reducible refine (great_x w1 m A c l false HG HL.out hlm hn1 hn2).mono ?_); rintro e w2 ⟨rfl, HB2⟩)
         have HX2 := box_p HX1 HB2)
      | (go_at_call 15
         ((with_reducible refine (decode_k w2 (91 : Int) mm e1 m1 l1 hz0 hz1 HD1 HL1.out (hm_below HMM (bel_trans HB1 HB2) hpos)).mono ?_); rintro e w3 ⟨A1, c1, rfl, HB3'⟩)
         have HB3 := bel_o HB3'
         have HX3 := box_p HX2 HB3
         have HBW3 := bel_trans (bel_trans HB1 HB2) HB3
         have HD3 := tk_hid HD HBW3
         have s0 : ∀ u, (w3.alloc u).cell? ⟨w.heap.size, 0, none⟩ = some (.int .i64 m.kind) := fun u => (box_a HX3 u).out.cell 0
         have t0 : ∀ u, (w3.alloc u).frozen? ⟨w.heap.size, 0, none⟩ = false := fun u => (box_a HX3 u).out.frozen 0
         have k0 : ∀ u, ((w3.alloc u).setCell ⟨w.heap.size, 0, none⟩ (.int .i64 (91 : Int))).cell? ⟨w.heap.size, 0, none⟩ = some (.int .i64 (91 : Int)) := fun u => ((box_a HX3 u).out.store 0 (.int .i64 (91 : Int))).cell 0
         have k1 : ∀ u, ((w3.alloc u).setCell ⟨w.heap.size, 0, none⟩ (.int .i64 (91 : Int))).cell? ⟨w.heap.size, 1, none⟩ = some (.int .u32 m.chan) := fun u => ((box_a HX3 u).out.store 0 (.int .i64 (91 : Int))).cell 1
         have k2 : ∀ u, ((w3.alloc u).setCell ⟨w.heap.size, 0, none⟩ (.int .i64 (91 : Int))).cell? ⟨w.heap.size, 2, none⟩ = some (.int .u32 m.sender) := fun u => ((box_a HX3 u).out.store 0 (.int .i64 (91 : Int))).cell 2
         have k3 : ∀ u, ((w3.alloc u).setCell ⟨w.heap.size, 0, none⟩ (.int .i64 (91 : Int))).cell? ⟨w.heap.size, 3, none⟩ = some (.int .u32 m.window) := fun u => ((box_a HX3 u).out.store 0 (.int .i64 (91 : Int))).cell 3
         have k4 : ∀ u, ((w3.alloc u).setCell ⟨w.heap.size, 0, none⟩ (.int .i64 (91 : Int))).cell? ⟨w.heap.size, 4, none⟩ = some (.int .u32 m.packet) := fun u => ((box_a HX3 u).out.store 0 (.int .i64 (91 : Int))).cell 4
         have k5 : ∀ u, ((w3.alloc u).setCell ⟨w.heap.size, 0, none⟩ (.int .i64 (91 : Int))).cell? ⟨w.heap.size, 5, none⟩ = some (.int .u32 m.code) := fun u => ((box_a HX3 u).out.store 0 (.int .i64 (91 : Int))).cell 5
         have k6 : ∀ u, ((w3.alloc u).setCell ⟨w.heap.size, 0, none⟩ (.int .i64 (91 : Int))).cell? ⟨w.heap.size, 6, none⟩ = some (.string m.name) := fun u => ((box_a HX3 u).out.store 0 (.int .i64 (91 : Int))).cell 6
         have k7 : ∀ u, ((w3.alloc u).setCell ⟨w.heap.size, 0, none⟩ (.int .i64 (91 : Int))).cell? ⟨w.heap.size, 7, none⟩ = some (.string m.lang) := fun u => ((box_a HX3 u).out.store 0 (.int .i64 (91 : Int))).cell 7
         have k8 : ∀ u, ((w3.alloc u).setCell ⟨w.heap.size, 0, none⟩ (.int .i64 (91 : Int))).cell? ⟨w.heap.size, 8, none⟩ = some (.bool m.want) := fun u => ((box_a HX3 u).out.store 0 (.int .i64 (91 : Int))).cell 8
         have k9 : ∀ u, ((w3.alloc u).setCell ⟨w.heap.size, 0, none⟩ (.int .i64 (91 : Int))).cell? ⟨w.heap.size, 9, none⟩ = some (.slice A l c) := fun u => ((box_a HX3 u).out.store 0 (.int .i64 (91 : Int))).cell 9)
      | (go_at_call 11
         ((with_reducible refine (encode_m w3 (.cells #[.int .i64 m1.kind, .int .u32 m1.chan, .int .u32 m1.sender, .int .u32 m1.window, .int .u32 m1.packet, .int .u32 m1.code, .string m1.name, .string m1.lang, .bool m1.want, .slice A1 l1 c1] 25) w.heap.size m (91 : Int) A er l k bs c w.heap.size HE HM hz0 hz1 HX3 HD3 (Nat.le_refl _) HL.out HK.out).mono ?_); rintro e w5 ⟨A5, c5, rfl, HO5, HK5, HB5⟩)
         have HW5 : Hid (Below w.heap.size w w5) := HBW3.out.trans (HK5.out.below HBW3.out.size)
         have hcap := own_caps HO5.out
         have hkc2 : kk ≤ c5 := Nat.le_trans hkk2 hcap.1
         have hkc : (kk : Int) ≤ (c5 : Int) := Int.ofNat_le.2 hkc2)
      | (go_at_call 15
         have hsl : Hid (SlB w5 w5.heap.size A5 c5 (bs.take kk)) := by have h := HO5.out; rw [← HK.out] at h; exact (own_slb (n := 0) h).take kk
         ((with_reducible refine (decode_x w5 A5 c5 kk l2 (bs.take kk) mm e2 m2 HD2 HTK.out HL2.out hsl (hm_below HMM HW5 hpos)).mono ?_); rintro e w6 ⟨A6, c6, rfl, HO6, HB6⟩)))
    go_ret
    exact ⟨rfl, (HW5.out.trans (HB6.out.mono HW5.out.size)).alloc (by have := HW5.out.size; have := HB6.out.size; omega) _⟩

set_option maxHeartbeats 4000000 in
set_option maxRecDepth 100000 in
theorem kinds_ok98 (w : World) (m : Mg) (A : Option Addr) (c l : Nat) (cut mm : Int) (hm : m.Ok) (hl : m.data.length = l) (hd : TK w w.heap.size A c m.data) (hz0 : 0 ≤ (98 : Int)) (hz1 : (98 : Int) ≤ 255) (hc0 : 0 ≤ cut) (hc1 : cut ≤ 65535) (hmm : w.cell? ⟨0, 0, none⟩ = some (.int .i64 mm)) (hg : greatB m = false) (hk : knownZ (98 : Int) = true) (her : (encF (mk m (98 : Int))).1 = 0) :
    Calls Tryd.prog 7 #[.agg #[.int .i64 m.kind, .int .u32 m.chan, .int .u32 m.sender, .int .u32 m.window, .int .u32 m.packet, .int .u32 m.code, .string m.name, .string m.lang, .bool m.want, .slice A l c], .int .u8 (98 : Int), .int .u16 cut] w fun e w' => e = .returned (.bool true) ∧ Below w.heap.size w w' := by
  have hpos : 0 < w.heap.size := World.block_lt_of_cell? w _ hmm
  have hlm : l ≤ maxLen := by have := hd.1; have := hd.2.1; omega
  have HM := hid hm
  have HD := hid hd
  have HMM := hid hmm
  have HL := hid hl
  have hn1 := hm.name
  have hn2 := hm.lang
  clear hm hd hmm hl
  have hwz : IntKind.i64.wrap (98 : Int) = (98 : Int) := by simp [IntKind.wrap, IntKind.bits, IntKind.signed] <;> omega
  obtain ⟨⟨e1, m1⟩, HD1⟩ : ∃ x, Hid (decF [UInt8.ofNat (98 : Int).toNat] = x) := ⟨_, hid rfl⟩
  obtain ⟨l1, HL1⟩ : ∃ k, Hid (m1.data.length = k) := ⟨_, hid rfl⟩
  obtain ⟨⟨er, bs⟩, HE⟩ : ∃ x, Hid (encF (mk m (98 : Int)) = x) := ⟨_, hid rfl⟩
  obtain ⟨k, HK⟩ : ∃ k, Hid (bs.length = k) := ⟨_, hid rfl⟩
  have hne1 : (e1 == 8) = false := by
    have h := decF_known (z := UInt8.ofNat (98 : Int).toNat) [] (by rw [zb_eq hz0 hz1]; exact hk)
    rw [HD1.out] at h
    simpa using h
  have hner : (er == 8) = false := by
    have h := encF_known (m := mk m (98 : Int)) hk
    rw [HE.out] at h
    simpa using h
  have HG := hid hg
  clear hg
  have hbm := back_math (m := mk m (98 : Int)) (mk_ok HM.out hz0 hz1) her
  rw [HE.out] at hbm her
  simp only at hbm her
  obtain ⟨hdec, hle, r, hbs⟩ := hbm
  have HDEC := hid hdec
  have hk0 : 0 < k := by have := HK.out; rw [hbs] at this; simp at this; omega
  have hk0i : (0 : Int) < (k : Int) := by omega
  have hkz : ¬ ((k : Int) = 0) := by omega
  have hkle : k ≤ 33792 := by have := HK.out; omega
  have HBS := hid hbs
  clear hdec hle hbs
  obtain ⟨q, hq⟩ : ∃ q, cut % (k : Int) = q := ⟨_, rfl⟩
  have hp1 : (0 : Int) ≤ q := by rw [← hq]; exact Int.emod_nonneg cut hkz
  have hp2 : q < (k : Int) := by rw [← hq]; exact Int.emod_lt_of_pos cut hk0i
  have hkk0 : ∃ kk : Nat, 1 + cut % (k : Int) = (kk : Int) ∧ 1 ≤ kk ∧ kk ≤ k := by
    rw [hq]
    clear hq
    exact ⟨(1 + q).toNat, by omega, by omega, by omega⟩
  obtain ⟨kk, hkk, hkk1, hkk2⟩ := hkk0
  have hki : (kk : Int) ≤ (k : Int) := Int.ofNat_le.2 hkk2
  have hk33 : (kk : Int) ≤ 33792 := by clear hkk hq hp1 hp2; omega
  have hw64 : wrap64 (kk : Int) = (kk : Int) := w64_kk hk33
  have hmin : min (kk : Int) (k : Int) = (kk : Int) := Int.min_eq_left hki
  obtain ⟨⟨e2, m2⟩, HD2⟩ : ∃ x, Hid (decF (bs.take kk) = x) := ⟨_, hid rfl⟩
  obtain ⟨l2, HL2⟩ : ∃ k, Hid (m2.data.length = k) := ⟨_, hid rfl⟩
  have HTK : Hid ((bs.take kk).length = kk) := hid (by rw [List.length_take, HK.out]; exact Nat.min_eq_left hkk2)
  have hkv : Value.int .i64 (wrap64 (1 + cut % (k : Int))) = Value.int .i64 (kk : Int) := by rw [hkk, hw64]
  clear hp1 hp2 hq hkk hw64
  clear hk
  by_cases hc : kk = k
  · have he2 : e2 = 0 := by
      have h := HD2.out
      rw [hc, List.take_of_length_le (by rw [HK.out]; omega), HDEC.out] at h
      injection h with h _
      exact h.symm
    have hge : (k : Int) ≤ (kk : Int) := by rw [hc]; exact Int.le_refl _
    have hgen : k ≤ kk := Nat.le_of_eq hc.symm
    clear hc
    go_enter Tryd.func7, Tryd.ntmps7
    go_wp2_with (first
      | (go_at_call 8
         refine (alive_any _ mm (hm_below HMM (bel1 w _) hpos).out).mono ?_
         rintro e w1 ⟨rfl, hb⟩
         have hx : Box w1 w.heap.size 25 #[.int .i64 m.kind, .int .u32 m.chan, .int .u32 m.sender, .int .u32 m.window, .int .u32 m.packet, .int .u32 m.code, .string m.name, .string m.lang, .bool m.want, .slice A l c] := box_below (Box.new w 25 _) hb
         have p0 : w1.cell? ⟨w.heap.size, 0, none⟩ = some (.int .i64 m.kind) := hx.cell 0
         have p1 : w1.cell? ⟨w.heap.size, 1, none⟩ = some (.int .u32 m.chan) := hx.cell 1
         have p2 : w1.cell? ⟨w.heap.size, 2, none⟩ = some (.int .u32 m.sender) := hx.cell 2
         have p3 : w1.cell? ⟨w.heap.size, 3, none⟩ = some (.int .u32 m.window) := hx.cell 3
         have p4 : w1.cell? ⟨w.heap.size, 4, none⟩ = some (.int .u32 m.packet) := hx.cell 4
         have p5 : w1.cell? ⟨w.heap.size, 5, none⟩ = some (.int .u32 m.code) := hx.cell 5
         have p6 : w1.cell? ⟨w.heap.size, 6, none⟩ = some (.string m.name) := hx.cell 6
         have p7 : w1.cell? ⟨w.heap.size, 7, none⟩ = some (.string m.lang) := hx.cell 7
         have p8 : w1.cell? ⟨w.heap.size, 8, none⟩ = some (.bool m.want) := hx.cell 8
         have p9 : w1.cell? ⟨w.heap.size, 9, none⟩ = some (.slice A l c) := hx.cell 9
         have HX1 := hid hx
         have HB1 : Hid (Below w.heap.size w w1) := (bel1 w _).trans (hb.mono (by simp))
         clear hx hb)
      | (go_at_call 9
         ((with_reducible refine (great_x w1 m A c l false HG HL.out hlm hn1 hn2).mono ?_); rintro e w2 ⟨rfl, HB2⟩)
         have HX2 := box_p HX1 HB2)
      | (go_at_call 15
         ((with_reducible refine (decode_k w2 (98 : Int) mm e1 m1 l1 hz0 hz1 HD1 HL1.out (hm_below HMM (bel_trans HB1 HB2) hpos)).mono ?_); rintro e w3 ⟨A1, c1, rfl, HB3'⟩)
         have HB3 := bel_o HB3'
         have HX3 := box_p HX2 HB3
         have HBW3 := bel_trans (bel_trans HB1 HB2) HB3
         have HD3 := tk_hid HD HBW3
         have s0 : ∀ u, (w3.alloc u).cell? ⟨w.heap.size, 0, none⟩ = some (.int .i64 m.kind) := fun u => (box_a HX3 u).out.cell 0
         have t0 : ∀ u, (w3.alloc u).frozen? ⟨w.heap.size, 0, none⟩ = false := fun u => (box_a HX3 u).out.frozen 0
         have k0 : ∀ u, ((w3.alloc u).setCell ⟨w.heap.size, 0, none⟩ (.int .i64 (98 : Int))).cell? ⟨w.heap.size, 0, none⟩ = some (.int .i64 (98 : Int)) := fun u => ((box_a HX3 u).out.store 0 (.int .i64 (98 : Int))).cell 0
         have k1 : ∀ u, ((w3.alloc u).setCell ⟨w.heap.size, 0, none⟩ (.int .i64 (98 : Int))).cell? ⟨w.heap.size, 1, none⟩ = some (.int .u32 m.chan) := fun u => ((box_a HX3 u).out.store 0 (.int .i64 (98 : Int))).cell 1
         have k2 : ∀ u, ((w3.alloc u).setCell ⟨w.heap.size, 0, none⟩ (.int .i64 (98 : Int))).cell? ⟨w.heap.size, 2, none⟩ = some (.int .u32 m.sender) := fun u => ((box_a HX3 u).out.store 0 (.int .i64 (98 : Int))).cell 2
         have k3 : ∀ u, ((w3.alloc u).setCell ⟨w.heap.size, 0, none⟩ (.int .i64 (98 : Int))).cell? ⟨w.heap.size, 3, none⟩ = some (.int .u32 m.window) := fun u => ((box_a HX3 u).out.store 0 (.int .i64 (98 : Int))).cell 3
         have k4 : ∀ u, ((w3.alloc u).setCell ⟨w.heap.size, 0, none⟩ (.int .i64 (98 : Int))).cell? ⟨w.heap.size, 4, none⟩ = some (.int .u32 m.packet) := fun u => ((box_a HX3 u).out.store 0 (.int .i64 (98 : Int))).cell 4
         have k5 : ∀ u, ((w3.alloc u).setCell ⟨w.heap.size, 0, none⟩ (.int .i64 (98 : Int))).cell? ⟨w.heap.size, 5, none⟩ = some (.int .u32 m.code) := fun u => ((box_a HX3 u).out.store 0 (.int .i64 (98 : Int))).cell 5
         have k6 : ∀ u, ((w3.alloc u).setCell ⟨w.heap.size, 0, none⟩ (.int .i64 (98 : Int))).cell? ⟨w.heap.size, 6, none⟩ = some (.string m.name) := fun u => ((box_a HX3 u).out.store 0 (.int .i64 (98 : Int))).cell 6
         have k7 : ∀ u, ((w3.alloc u).setCell ⟨w.heap.size, 0, none⟩ (.int .i64 (98 : Int))).cell? ⟨w.heap.size, 7, none⟩ = some (.string m.lang) := fun u => ((box_a HX3 u).out.store 0 (.int .i64 (98 : Int))).cell 7
         have k8 : ∀ u, ((w3.alloc u).setCell ⟨w.heap.size, 0, none⟩ (.int .i64 (98 : Int))).cell? ⟨w.heap.size, 8, none⟩ = some (.bool m.want) := fun u => ((box_a HX3 u).out.store 0 (.int .i64 (98 : Int))).cell 8
         have k9 : ∀ u, ((w3.alloc u).setCell ⟨w.heap.size, 0, none⟩ (.int .i64 (98 : Int))).cell? ⟨w.heap.size, 9, none⟩ = some (.slice A l c) := fun u => ((box_a HX3 u).out.store 0 (.int .i64 (98 : Int))).cell 9)
      | (go_at_call 11
         ((with_reducible refine (encode_m w3 (.cells #[.int .i64 m1.kind, .int .u32 m1.chan, .int .u32 m1.sender, .int .u32 m1.window, .int .u32 m1.packet, .int .u32 m1.code, .string m1.name, .string m1.lang, .bool m1.want, .slice A1 l1 c1] 25) w.heap.size m (98 : Int) A er l k bs c w.heap.size HE HM hz0 hz1 HX3 HD3 (Nat.le_refl _) HL.out HK.out).mono ?_); rintro e w5 ⟨A5, c5, rfl, HO5, HK5, HB5⟩)
         have HW5 : Hid (Below w.heap.size w w5) := HBW3.out.trans (HK5.out.below HBW3.out.size)
         have hcap := own_caps HO5.out
         have hkc2 : kk ≤ c5 := Nat.le_trans hkk2 hcap.1
         have hkc : (kk : Int) ≤ (c5 : Int) := Int.ofNat_le.2 hkc2)
      | (go_at_call 15
         have hsl : Hid (SlB w5 w5.heap.size A5 c5 (bs.take kk)) := by have h := HO5.out; rw [← HK.out] at h; exact (own_slb (n := 0) h).take kk
         ((with_reducible refine (decode_x w5 A5 c5 kk l2 (bs.take kk) mm e2 m2 HD2 HTK.out HL2.out hsl (hm_below HMM HW5 hpos)).mono ?_); rintro e w6 ⟨A6, c6, rfl, HO6, HB6⟩)))
    go_ret
    exact ⟨rfl, (HW5.out.trans (HB6.out.mono HW5.out.size)).alloc (by have := HW5.out.size; have := HB6.out.size; omega) _⟩
  · have hlt : kk < k := Nat.lt_of_le_of_ne hkk2 hc
    have hlti : (kk : Int) < (k : Int) := Int.ofNat_lt.2 hlt
    have hge : decide ((k : Int) ≤ (kk : Int)) = false := decide_eq_false (Int.not_le.2 hlti)
    have hgen : decide (k ≤ kk) = false := decide_eq_false (Nat.not_le.2 hlt)
    clear hc
    go_enter Tryd.func7, Tryd.ntmps7
    go_wp2_with (first
      | (go_at_call 8
         refine (alive_any _ mm (hm_below HMM (bel1 w _) hpos).out).mono ?_
         rintro e w1 ⟨rfl, hb⟩
         have hx : Box w1 w.heap.size 25 #[.int .i64 m.kind, .int .u32 m.chan, .int .u32 m.sender, .int .u32 m.window, .int .u32 m.packet, .int .u32 m.code, .string m.name, .string m.lang, .bool m.want, .slice A l c] := box_below (Box.new w 25 _) hb
         have p0 : w1.cell? ⟨w.heap.size, 0, none⟩ = some (.int .i64 m.kind) := hx.cell 0
         have p1 : w1.cell? ⟨w.heap.size, 1, none⟩ = some (.int .u32 m.chan) := hx.cell 1
         have p2 : w1.cell? ⟨w.heap.size, 2, none⟩ = some (.int .u32 m.sender) := hx.cell 2
         have p3 : w1.cell? ⟨w.heap.size, 3, none⟩ = some (.int .u32 m.window) := hx.cell 3
         have p4 : w1.cell? ⟨w.heap.size, 4, none⟩ = some (.int .u32 m.packet) := hx.cell 4
         have p5 : w1.cell? ⟨w.heap.size, 5, none⟩ = some (.int .u32 m.code) := hx.cell 5
         have p6 : w1.cell? ⟨w.heap.size, 6, none⟩ = some (.string m.name) := hx.cell 6
         have p7 : w1.cell? ⟨w.heap.size, 7, none⟩ = some (.string m.lang) := hx.cell 7
         have p8 : w1.cell? ⟨w.heap.size, 8, none⟩ = some (.bool m.want) := hx.cell 8
         have p9 : w1.cell? ⟨w.heap.size, 9, none⟩ = some (.slice A l c) := hx.cell 9
         have HX1 := hid hx
         have HB1 : Hid (Below w.heap.size w w1) := (bel1 w _).trans (hb.mono (by simp))
         clear hx hb)
      | (go_at_call 9
         ((with_reducible refine (great_x w1 m A c l false HG HL.out hlm hn1 hn2).mono ?_); rintro e w2 ⟨rfl, HB2⟩)
         have HX2 := box_p HX1 HB2)
      | (go_at_call 15
         ((with_reducible refine (decode_k w2 (98 : Int) mm e1 m1 l1 hz0 hz1 HD1 HL1.out (hm_below HMM (bel_trans HB1 HB2) hpos)).mono ?_); rintro e w3 ⟨A1, c1, rfl, HB3'⟩)
         have HB3 := bel_o HB3'
         have HX3 := box_p HX2 HB3
         have HBW3 := bel_trans (bel_trans HB1 HB2) HB3
         have HD3 := tk_hid HD HBW3
         have s0 : ∀ u, (w3.alloc u).cell? ⟨w.heap.size, 0, none⟩ = some (.int .i64 m.kind) := fun u => (box_a HX3 u).out.cell 0
         have t0 : ∀ u, (w3.alloc u).frozen? ⟨w.heap.size, 0, none⟩ = false := fun u => (box_a HX3 u).out.frozen 0
         have k0 : ∀ u, ((w3.alloc u).setCell ⟨w.heap.size, 0, none⟩ (.int .i64 (98 : Int))).cell? ⟨w.heap.size, 0, none⟩ = some (.int .i64 (98 : Int)) := fun u => ((box_a HX3 u).out.store 0 (.int .i64 (98 : Int))).cell 0
         have k1 : ∀ u, ((w3.alloc u).setCell ⟨w.heap.size, 0, none⟩ (.int .i64 (98 : Int))).cell? ⟨w.heap.size, 1, none⟩ = some (.int .u32 m.chan) := fun u => ((box_a HX3 u).out.store 0 (.int .i64 (98 : Int))).cell 1
         have k2 : ∀ u, ((w3.alloc u).setCell ⟨w.heap.size, 0, none⟩ (.int .i64 (98 : Int))).cell? ⟨w.heap.size, 2, none⟩ = some (.int .u32 m.sender) := fun u => ((box_a HX3 u).out.store 0 (.int .i64 (98 : Int))).cell 2
         have k3 : ∀ u, ((w3.alloc u).setCell ⟨w.heap.size, 0, none⟩ (.int .i64 (98 : Int))).cell? ⟨w.heap.size, 3, none⟩ = some (.int .u32 m.window) := fun u => ((box_a HX3 u).out.store 0 (.int .i64 (98 : Int))).cell 3
         have k4 : ∀ u, ((w3.alloc u).setCell ⟨w.heap.size, 0, none⟩ (.int .i64 (98 : Int))).cell? ⟨w.heap.size, 4, none⟩ = some (.int .u32 m.packet) := fun u => ((box_a HX3 u).out.store 0 (.int .i64 (98 : Int))).cell 4
         have k5 : ∀ u, ((w3.alloc u).setCell ⟨w.heap.size, 0, none⟩ (.int .i64 (98 : Int))).cell? ⟨w.heap.size, 5, none⟩ = some (.int .u32 m.code) := fun u => ((box_a HX3 u).out.store 0 (.int .i64 (98 : Int))).cell 5
         have k6 : ∀ u, ((w3.alloc u).setCell ⟨w.heap.size, 0, none⟩ (.int .i64 (98 : Int))).cell? ⟨w.heap.size, 6, none⟩ = some (.string m.name) := fun u => ((box_a HX3 u).out.store 0 (.int .i64 (98 : Int))).cell 6
         have k7 : ∀ u, ((w3.alloc u).setCell ⟨w.heap.size, 0, none⟩ (.int .i64 (98 : Int))).cell? ⟨w.heap.size, 7, none⟩ = some (.string m.lang) := fun u => ((box_a HX3 u).out.store 0 (.int .i64 (98 : Int))).cell 7
         have k8 : ∀ u, ((w3.alloc u).setCell ⟨w.heap.size, 0, none⟩ (.int .i64 (98 : Int))).cell? ⟨w.heap.size, 8, none⟩ = some (.bool m.want) := fun u => ((box_a HX3 u).out.store 0 (.int .i64 (98 : Int))).cell 8
         have k9 : ∀ u, ((w3.alloc u).setCell ⟨w.heap.size, 0, none⟩ (.int .i64 (98 : Int))).cell? ⟨w.heap.size, 9, none⟩ = some (.slice A l c) := fun u => ((box_a HX3 u).out.store 0 (.int .i64 (98 : Int))).cell 9)
      | (go_at_call 11
         ((with_reducible refine (encode_m w3 (.cells #[.int .i64 m1.kind, .int .u32 m1.chan, .int .u32 m1.sender, .int .u32 m1.window, .int .u32 m1.packet, .int .u32 m1.code, .string m1.name, .string m1.lang, .bool m1.want, .slice A1 l1 c1] 25) w.heap.size m (98 : Int) A er l k bs c w.heap.size HE HM hz0 hz1 HX3 HD3 (Nat.le_refl _) HL.out HK.out).mono ?_); rintro e w5 ⟨A5, c5, rfl, HO5, HK5, HB5⟩)
         have HW5 : Hid (Below w.heap.size w w5) := HBW3.out.trans (HK5.out.below HBW3.out.size)
         have hcap := own_caps HO5.out
         have hkc2 : kk ≤ c5 := Nat.le_trans hkk2 hcap.1
         have hkc : (kk : Int) ≤ (c5 : Int) := Int.ofNat_le.2 hkc2)
      | (go_at_call 15
         have hsl : Hid (SlB w5 w5.heap.size A5 c5 (bs.take kk)) := by have h := HO5.out; rw [← HK.out] at h; exact (own_slb (n := 0) h).take kk
         ((with_reducible refine (decode_x w5 A5 c5 kk l2 (bs.take kk) mm e2 m2 HD2 HTK.out HL2.out hsl (hm_below HMM HW5 hpos)).mono ?_); rintro e w6 ⟨A6, c6, rfl, HO6, HB6⟩)))
    go_ret
    exact ⟨rfl, (HW5.out.trans (HB6.out.mono HW5.out.size)).alloc (by have := HW5.out.size; have := HB6.out.size; omega) _⟩

end Go.Proofs.YtlmdbcmaophhnaaDoor
