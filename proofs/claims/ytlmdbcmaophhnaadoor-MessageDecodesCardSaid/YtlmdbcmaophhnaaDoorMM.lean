import Derived.Test.YtlmdbcmaophhnaaDoorML
import Derived.Deep.RegionHeld3
namespace Go.Proofs.YtlmdbcmaophhnaaDoor
open Go.RowKit

theorem tk_hid {w w' : World} {base c : Nat} {A : Option Addr} {bs : List UInt8} (h : Hid (TK w base A c bs)) (hb : Hid (Below w.heap.size w w')) : Hid (TK w' base A c bs) := h.out.below hb.out
theorem tk_base {w : World} {base base' c : Nat} {A : Option Addr} {bs : List UInt8} (h : Hid (TK w base A c bs)) (hb : base ≤ base') : Hid (TK w base' A c bs) :=
  ⟨h.out.1, h.out.2.1, fun hn => by obtain ⟨b, o, e, h1, h2, h3⟩ := h.out.2.2 hn; exact ⟨b, o, e, h1, h2.imp (fun x => by omega) id, h3⟩⟩
theorem box_a {w : World} {g : Nat} {t : TypeId} {cs : Array Value} (h : Hid (Box w g t cs)) (o : Obj) : Hid (Box (w.alloc o) g t cs) := box_below h.out (bel1 w o)

set_option maxHeartbeats 4000000 in
set_option maxRecDepth 100000 in
theorem back_any (w : World) (m : Mg) (A : Option Addr) (c l : Nat) (mm : Int) (hm : m.Ok) (hl : m.data.length = l) (hd : TK w w.heap.size A c m.data) (hmm : w.cell? ⟨0, 0, none⟩ = some (.int .i64 mm)) :
    Calls Tryd.prog 5 #[.agg #[.int .i64 m.kind, .int .u32 m.chan, .int .u32 m.sender, .int .u32 m.window, .int .u32 m.packet, .int .u32 m.code, .string m.name, .string m.lang, .bool m.want, .slice A l c]] w fun e w' => e = .returned (.bool true) ∧ Below w.heap.size w w' := by
  have hpos : 0 < w.heap.size := World.block_lt_of_cell? w _ hmm
  have hlm : l ≤ maxLen := by have := hd.1; have := hd.2.1; omega
  have HM := hid hm
  have HD := hid hd
  have HMM := hid hmm
  have HL := hid hl
  have hn1 := hm.name
  have hn2 := hm.lang
  clear hm hd hmm hl
  obtain ⟨gb, HG⟩ : ∃ g, Hid (greatB m = g) := ⟨_, hid rfl⟩
  obtain ⟨⟨er, bs⟩, HE⟩ : ∃ x, Hid (encF m = x) := ⟨_, hid rfl⟩
  obtain ⟨k, HK⟩ : ∃ k, Hid (bs.length = k) := ⟨_, hid rfl⟩
  cases gb with
  | true =>
    go_enter Tryd.func5, Tryd.ntmps5
    go_wp2_with (first
      | (go_at_call 8
         refine (alive_any _ mm (hm_below HMM (bel1 w _) hpos).out).mono ?_
         rintro e w1 ⟨rfl, hb⟩
         have hx : Box w1 w.heap.size 25 #[.int .i64 m.kind, .int .u32 m.chan, .int .u32 m.sender, .int .u32 m.window, .int .u32 m.packet, .int .u32 m.code, .string m.name, .string m.lang, .bool m.want, .slice A l c] := box_below (Box.new w 25 _) hb
         have p0 : w1.cell? ⟨w.heap.size, 0, none⟩ = some (.int .i64 m.kind) := hx.cell 0
         have p1 : w1.cell? ⟨w.heap.size, 1, none⟩ = some (.int .u32 m.chan) := hx.cell 1
         have p2 : w1.cell? ⟨w.heap.size, 2, none⟩ = some (.int .u32 m.sender) := hx.cell 2
         have p3 : w1.cell? ⟨w.heap.size, 3, none⟩ = some (.int .u32 m.window) := hx.cell 3
         have p4 : w1.cell? ⟨w.heap.size, 4, none⟩ = some (.int .u32 m.packet) := hx.cell 4
         have p5 : w1.cell? ⟨w.heap.size, 5, none⟩ = some (.int .u32 m.code) := hx.cell 5
         have p6 : w1.cell? ⟨w.heap.size, 6, none⟩ = some (.string m.name) := hx.cell 6
         have p7 : w1.cell? ⟨w.heap.size, 7, none⟩ = some (.string m.lang) := hx.cell 7
         have p8 : w1.cell? ⟨w.heap.size, 8, none⟩ = some (.bool m.want) := hx.cell 8
         have p9 : w1.cell? ⟨w.heap.size, 9, none⟩ = some (.slice A l c) := hx.cell 9
         have HB1 : Hid (Below w.heap.size w w1) := (bel1 w _).trans (hb.mono (by simp))
         clear hx hb)
      | (go_at_call 9
         ((with_reducible refine (great_x w1 m A c l true HG HL.out hlm hn1 hn2).mono ?_); rintro e w2 ⟨rfl, HB2⟩)))
    go_ret
    exact ⟨rfl, HB1.out.trans (HB2.out.mono HB1.out.size)⟩
  | false =>
    by_cases her : er = 0
    · subst her
      have hbm := back_math HM.out (by rw [HE.out])
      rw [HE.out] at hbm
      simp only at hbm
      obtain ⟨hdec, hle, r, hbs⟩ := hbm
      have hkind : 1 ≤ m.kind ∧ m.kind ≤ 100 := by
        obtain ⟨ps, hps, _⟩ := encF_some (m := m) (by rw [HE.out])
        exact look_some hps
      obtain ⟨X, HX⟩ : ∃ X, Hid (ownM m = X) := ⟨_, hid rfl⟩
      rw [HX.out] at hdec
      have HDC := hid hdec
      obtain ⟨lx, HLX⟩ : ∃ lx, Hid (X.data.length = lx) := ⟨_, hid rfl⟩
      have hk0 : (0 : Int) < (k : Int) := by have := HK.out; rw [hbs] at this; simp at this; omega
      have hk1 : (k : Int) ≤ 33792 := by have := HK.out; omega
      have hkn : ((UInt8.ofNat m.kind.toNat).toNat : Int) = m.kind := ofNat_kind hkind
      have HBS := hid hbs
      have hk0n : 0 < k := by omega
      have hwk : IntKind.i64.wrap m.kind = m.kind := by simp [IntKind.wrap, IntKind.bits, IntKind.signed]; omega
      have hk1n : k ≤ 33792 := by omega
      have HKN := hid hkn
      clear hdec hle hbs hkn
      go_enter Tryd.func5, Tryd.ntmps5
      go_wp2_with (first
        | (go_at_call 8
           refine (alive_any _ mm (hm_below HMM (bel1 w _) hpos).out).mono ?_
           rintro e w1 ⟨rfl, hb⟩
           have hx : Box w1 w.heap.size 25 #[.int .i64 m.kind, .int .u32 m.chan, .int .u32 m.sender, .int .u32 m.window, .int .u32 m.packet, .int .u32 m.code, .string m.name, .string m.lang, .bool m.want, .slice A l c] := box_below (Box.new w 25 _) hb
           have p0 : w1.cell? ⟨w.heap.size, 0, none⟩ = some (.int .i64 m.kind) := hx.cell 0
           have p1 : w1.cell? ⟨w.heap.size, 1, none⟩ = some (.int .u32 m.chan) := hx.cell 1
           have p2 : w1.cell? ⟨w.heap.size, 2, none⟩ = some (.int .u32 m.sender) := hx.cell 2
           have p3 : w1.cell? ⟨w.heap.size, 3, none⟩ = some (.int .u32 m.window) := hx.cell 3
           have p4 : w1.cell? ⟨w.heap.size, 4, none⟩ = some (.int .u32 m.packet) := hx.cell 4
           have p5 : w1.cell? ⟨w.heap.size, 5, none⟩ = some (.int .u32 m.code) := hx.cell 5
           have p6 : w1.cell? ⟨w.heap.size, 6, none⟩ = some (.string m.name) := hx.cell 6
           have p7 : w1.cell? ⟨w.heap.size, 7, none⟩ = some (.string m.lang) := hx.cell 7
           have p8 : w1.cell? ⟨w.heap.size, 8, none⟩ = some (.bool m.want) := hx.cell 8
           have p9 : w1.cell? ⟨w.heap.size, 9, none⟩ = some (.slice A l c) := hx.cell 9
           have HX1 := hid hx
           have HB1 : Hid (Below w.heap.size w w1) := (bel1 w _).trans (hb.mono (by simp))
           clear hx hb)
        | (go_at_call 9
           ((with_reducible refine (great_x w1 m A c l false HG HL.out hlm hn1 hn2).mono ?_); rintro e w2 ⟨rfl, HB2⟩)
           have HX2 := box_p HX1 HB2
           have q0 : w2.cell? ⟨w.heap.size, 0, none⟩ = some (.int .i64 m.kind) := HX2.out.cell 0
           have q1 : w2.cell? ⟨w.heap.size, 1, none⟩ = some (.int .u32 m.chan) := HX2.out.cell 1
           have q2 : w2.cell? ⟨w.heap.size, 2, none⟩ = some (.int .u32 m.sender) := HX2.out.cell 2
           have q3 : w2.cell? ⟨w.heap.size, 3, none⟩ = some (.int .u32 m.window) := HX2.out.cell 3
           have q4 : w2.cell? ⟨w.heap.size, 4, none⟩ = some (.int .u32 m.packet) := HX2.out.cell 4
           have q5 : w2.cell? ⟨w.heap.size, 5, none⟩ = some (.int .u32 m.code) := HX2.out.cell 5
           have q6 : w2.cell? ⟨w.heap.size, 6, none⟩ = some (.string m.name) := HX2.out.cell 6
           have q7 : w2.cell? ⟨w.heap.size, 7, none⟩ = some (.string m.lang) := HX2.out.cell 7
           have q8 : w2.cell? ⟨w.heap.size, 8, none⟩ = some (.bool m.want) := HX2.out.cell 8
           have q9 : w2.cell? ⟨w.heap.size, 9, none⟩ = some (.slice A l c) := HX2.out.cell 9
           have HD2 := tk_base (tk_hid HD (bel_trans HB1 HB2)) (bel_trans HB1 HB2).out.size)
        | (go_at_call 11
           ((with_reducible refine (encode_x w2 m A 0 0 0 l k bs c HE HM HD2 HL.out HK.out).mono ?_); rintro e w3 ⟨A1, c1, rfl, HO3, HB3⟩)
           have HX3 := box_p HX2 HB3)
        | (go_at_call 15
           have hsl : Hid (SlB w3 w3.heap.size A1 c1 bs) := by have h := HO3.out; rw [← HK.out] at h; exact own_slb (n := 0) h
           ((with_reducible refine (decode_x w3 A1 c1 k lx bs mm 0 X HDC HK.out HLX.out hsl (hm_below HMM (bel_trans (bel_trans HB1 HB2) HB3) hpos)).mono ?_); rintro e w4 ⟨A2, c2, rfl, HO4, HB4⟩)
           have HX4 := box_p HX3 HB4))
      have hlx : lx ≤ maxLen := by have h := own_caps HO4.out; omega
      obtain ⟨bk, bo, rfl, hbk, hbc⟩ := Lies.own HO3.out (by rw [HBS.out]; simp [bv])
      have hb0 : w3.cell? ⟨bk, bo, none⟩ = some (.int .u8 m.kind) := by rw [← HKN.out]; exact hbc 0 _ (by rw [HBS.out]; rfl)
      have y0 := (HB4.out.cell (p := ⟨bk, bo, none⟩) hbk).trans hb0
      clear hbc hb0
      have HY5 : Hid (Box (w4.alloc (.cells #[.int .i64 X.kind, .int .u32 X.chan, .int .u32 X.sender, .int .u32 X.window, .int .u32 X.packet, .int .u32 X.code, .string X.name, .string X.lang, .bool X.want, .slice A2 lx c2] 25)) w4.heap.size 25 #[.int .i64 X.kind, .int .u32 X.chan, .int .u32 X.sender, .int .u32 X.window, .int .u32 X.packet, .int .u32 X.code, .string X.name, .string X.lang, .bool X.want, .slice A2 lx c2]) := hid (Box.new w4 25 _)
      have HX5 := box_a HX4 (.cells #[.int .i64 X.kind, .int .u32 X.chan, .int .u32 X.sender, .int .u32 X.window, .int .u32 X.packet, .int .u32 X.code, .string X.name, .string X.lang, .bool X.want, .slice A2 lx c2] 25)
      have hy0 := ((bel1 w4 (.cells #[.int .i64 X.kind, .int .u32 X.chan, .int .u32 X.sender, .int .u32 X.window, .int .u32 X.packet, .int .u32 X.code, .string X.name, .string X.lang, .bool X.want, .slice A2 lx c2] 25)).cell (p := ⟨bk, bo, none⟩) (Nat.lt_of_lt_of_le hbk HB4.out.size)).trans y0
      have HB5 : Hid (Below w4.heap.size w4 (w4.alloc (.cells #[.int .i64 X.kind, .int .u32 X.chan, .int .u32 X.sender, .int .u32 X.window, .int .u32 X.packet, .int .u32 X.code, .string X.name, .string X.lang, .bool X.want, .slice A2 lx c2] 25))) := bel1 w4 _
      generalize hW : w4.alloc _ = w5 at HY5 HX5 hy0 HB5
      have HW := hid hW
      clear hW y0
      have s0 : w5.cell? ⟨w.heap.size, 0, none⟩ = some (.int .i64 m.kind) := HX5.out.cell 0
      have s1 : w5.cell? ⟨w.heap.size, 1, none⟩ = some (.int .u32 m.chan) := HX5.out.cell 1
      have s2 : w5.cell? ⟨w.heap.size, 2, none⟩ = some (.int .u32 m.sender) := HX5.out.cell 2
      have s3 : w5.cell? ⟨w.heap.size, 3, none⟩ = some (.int .u32 m.window) := HX5.out.cell 3
      have s4 : w5.cell? ⟨w.heap.size, 4, none⟩ = some (.int .u32 m.packet) := HX5.out.cell 4
      have s5 : w5.cell? ⟨w.heap.size, 5, none⟩ = some (.int .u32 m.code) := HX5.out.cell 5
      have s6 : w5.cell? ⟨w.heap.size, 6, none⟩ = some (.string m.name) := HX5.out.cell 6
      have s7 : w5.cell? ⟨w.heap.size, 7, none⟩ = some (.string m.lang) := HX5.out.cell 7
      have s8 : w5.cell? ⟨w.heap.size, 8, none⟩ = some (.bool m.want) := HX5.out.cell 8
      have s9 : w5.cell? ⟨w.heap.size, 9, none⟩ = some (.slice A l c) := HX5.out.cell 9
      have t0 : w5.cell? ⟨w4.heap.size, 0, none⟩ = some (.int .i64 X.kind) := HY5.out.cell 0
      have t1 : w5.cell? ⟨w4.heap.size, 1, none⟩ = some (.int .u32 X.chan) := HY5.out.cell 1
      have t2 : w5.cell? ⟨w4.heap.size, 2, none⟩ = some (.int .u32 X.sender) := HY5.out.cell 2
      have t3 : w5.cell? ⟨w4.heap.size, 3, none⟩ = some (.int .u32 X.window) := HY5.out.cell 3
      have t4 : w5.cell? ⟨w4.heap.size, 4, none⟩ = some (.int .u32 X.packet) := HY5.out.cell 4
      have t5 : w5.cell? ⟨w4.heap.size, 5, none⟩ = some (.int .u32 X.code) := HY5.out.cell 5
      have t6 : w5.cell? ⟨w4.heap.size, 6, none⟩ = some (.string X.name) := HY5.out.cell 6
      have t7 : w5.cell? ⟨w4.heap.size, 7, none⟩ = some (.string X.lang) := HY5.out.cell 7
      have t8 : w5.cell? ⟨w4.heap.size, 8, none⟩ = some (.bool X.want) := HY5.out.cell 8
      have t9 : w5.cell? ⟨w4.heap.size, 9, none⟩ = some (.slice A2 lx c2) := HY5.out.cell 9
      have HT5 : Hid (TK w5.drew w5.heap.size A c m.data) := hid (tk_base (tk_hid HD (bel_trans (bel_trans (bel_trans HB1 HB2) (bel_trans HB3 HB4)) HB5)) (bel_trans (bel_trans (bel_trans HB1 HB2) (bel_trans HB3 HB4)) HB5).out.size).out
      have HS5 : w5.cell? ⟨w.heap.size, 0, none⟩ = some (.int .i64 m.kind) ∧ w5.cell? ⟨w.heap.size, 1, none⟩ = some (.int .u32 m.chan) ∧ w5.cell? ⟨w.heap.size, 2, none⟩ = some (.int .u32 m.sender) ∧ w5.cell? ⟨w.heap.size, 3, none⟩ = some (.int .u32 m.window) ∧ w5.cell? ⟨w.heap.size, 4, none⟩ = some (.int .u32 m.packet) ∧ w5.cell? ⟨w.heap.size, 5, none⟩ = some (.int .u32 m.code) ∧ w5.cell? ⟨w.heap.size, 6, none⟩ = some (.string m.name) ∧ w5.cell? ⟨w.heap.size, 7, none⟩ = some (.string m.lang) ∧ w5.cell? ⟨w.heap.size, 8, none⟩ = some (.bool m.want) ∧ w5.cell? ⟨w.heap.size, 9, none⟩ = some (.slice A l c) ∧ w5.cell? ⟨w4.heap.size, 0, none⟩ = some (.int .i64 X.kind) ∧ w5.cell? ⟨w4.heap.size, 1, none⟩ = some (.int .u32 X.chan) ∧ w5.cell? ⟨w4.heap.size, 2, none⟩ = some (.int .u32 X.sender) ∧ w5.cell? ⟨w4.heap.size, 3, none⟩ = some (.int .u32 X.window) ∧ w5.cell? ⟨w4.heap.size, 4, none⟩ = some (.int .u32 X.packet) ∧ w5.cell? ⟨w4.heap.size, 5, none⟩ = some (.int .u32 X.code) ∧ w5.cell? ⟨w4.heap.size, 6, none⟩ = some (.string X.name) ∧ w5.cell? ⟨w4.heap.size, 7, none⟩ = some (.string X.lang) ∧ w5.cell? ⟨w4.heap.size, 8, none⟩ = some (.bool X.want) ∧ w5.cell? ⟨w4.heap.size, 9, none⟩ = some (.slice A2 lx c2) ∧ w5.cell? ⟨bk, bo, none⟩ = some (.int .u8 m.kind) := ⟨HX5.out.cell 0, HX5.out.cell 1, HX5.out.cell 2, HX5.out.cell 3, HX5.out.cell 4, HX5.out.cell 5, HX5.out.cell 6, HX5.out.cell 7, HX5.out.cell 8, HX5.out.cell 9, HY5.out.cell 0, HY5.out.cell 1, HY5.out.cell 2, HY5.out.cell 3, HY5.out.cell 4, HY5.out.cell 5, HY5.out.cell 6, HY5.out.cell 7, HY5.out.cell 8, HY5.out.cell 9, hy0⟩
      go_region_held3 (fun u => u.cell? ⟨w.heap.size, 0, none⟩ = some (.int .i64 m.kind) ∧ u.cell? ⟨w.heap.size, 1, none⟩ = some (.int .u32 m.chan) ∧ u.cell? ⟨w.heap.size, 2, none⟩ = some (.int .u32 m.sender) ∧ u.cell? ⟨w.heap.size, 3, none⟩ = some (.int .u32 m.window) ∧ u.cell? ⟨w.heap.size, 4, none⟩ = some (.int .u32 m.packet) ∧ u.cell? ⟨w.heap.size, 5, none⟩ = some (.int .u32 m.code) ∧ u.cell? ⟨w.heap.size, 6, none⟩ = some (.string m.name) ∧ u.cell? ⟨w.heap.size, 7, none⟩ = some (.string m.lang) ∧ u.cell? ⟨w.heap.size, 8, none⟩ = some (.bool m.want) ∧ u.cell? ⟨w.heap.size, 9, none⟩ = some (.slice A l c) ∧ u.cell? ⟨w4.heap.size, 0, none⟩ = some (.int .i64 X.kind) ∧ u.cell? ⟨w4.heap.size, 1, none⟩ = some (.int .u32 X.chan) ∧ u.cell? ⟨w4.heap.size, 2, none⟩ = some (.int .u32 X.sender) ∧ u.cell? ⟨w4.heap.size, 3, none⟩ = some (.int .u32 X.window) ∧ u.cell? ⟨w4.heap.size, 4, none⟩ = some (.int .u32 X.packet) ∧ u.cell? ⟨w4.heap.size, 5, none⟩ = some (.int .u32 X.code) ∧ u.cell? ⟨w4.heap.size, 6, none⟩ = some (.string X.name) ∧ u.cell? ⟨w4.heap.size, 7, none⟩ = some (.string X.lang) ∧ u.cell? ⟨w4.heap.size, 8, none⟩ = some (.bool X.want) ∧ u.cell? ⟨w4.heap.size, 9, none⟩ = some (.slice A2 lx c2) ∧ u.cell? ⟨bk, bo, none⟩ = some (.int .u8 m.kind)) (first | exact HS5 | exact HS6 | exact HS7) ((first
        | (go_at_call 17
           ((with_reducible refine (own_x w5.drew m X A c l lx w5.heap.size HX HL.out HLX.out HT5).mono ?_); rintro e w6 ⟨A3, c3, rfl, HB6', HT6⟩)
           have HB6 : Hid (Below w5.heap.size w5 w6) := hid ⟨HB6'.out.os, HB6'.out.tape, HB6'.out.output, HB6'.out.size, HB6'.out.block⟩
           have HY6 := box_p HY5 HB6
           have HX6 := box_p HX5 HB6
           have hy6 := (HB6.out.cell (p := ⟨bk, bo, none⟩) (Nat.lt_of_lt_of_le (Nat.lt_of_lt_of_le hbk HB4.out.size) HB5.out.size)).trans hy0
           have HS6 : w6.cell? ⟨w.heap.size, 0, none⟩ = some (.int .i64 m.kind) ∧ w6.cell? ⟨w.heap.size, 1, none⟩ = some (.int .u32 m.chan) ∧ w6.cell? ⟨w.heap.size, 2, none⟩ = some (.int .u32 m.sender) ∧ w6.cell? ⟨w.heap.size, 3, none⟩ = some (.int .u32 m.window) ∧ w6.cell? ⟨w.heap.size, 4, none⟩ = some (.int .u32 m.packet) ∧ w6.cell? ⟨w.heap.size, 5, none⟩ = some (.int .u32 m.code) ∧ w6.cell? ⟨w.heap.size, 6, none⟩ = some (.string m.name) ∧ w6.cell? ⟨w.heap.size, 7, none⟩ = some (.string m.lang) ∧ w6.cell? ⟨w.heap.size, 8, none⟩ = some (.bool m.want) ∧ w6.cell? ⟨w.heap.size, 9, none⟩ = some (.slice A l c) ∧ w6.cell? ⟨w4.heap.size, 0, none⟩ = some (.int .i64 X.kind) ∧ w6.cell? ⟨w4.heap.size, 1, none⟩ = some (.int .u32 X.chan) ∧ w6.cell? ⟨w4.heap.size, 2, none⟩ = some (.int .u32 X.sender) ∧ w6.cell? ⟨w4.heap.size, 3, none⟩ = some (.int .u32 X.window) ∧ w6.cell? ⟨w4.heap.size, 4, none⟩ = some (.int .u32 X.packet) ∧ w6.cell? ⟨w4.heap.size, 5, none⟩ = some (.int .u32 X.code) ∧ w6.cell? ⟨w4.heap.size, 6, none⟩ = some (.string X.name) ∧ w6.cell? ⟨w4.heap.size, 7, none⟩ = some (.string X.lang) ∧ w6.cell? ⟨w4.heap.size, 8, none⟩ = some (.bool X.want) ∧ w6.cell? ⟨w4.heap.size, 9, none⟩ = some (.slice A2 lx c2) ∧ w6.cell? ⟨bk, bo, none⟩ = some (.int .u8 m.kind) := ⟨HX6.out.cell 0, HX6.out.cell 1, HX6.out.cell 2, HX6.out.cell 3, HX6.out.cell 4, HX6.out.cell 5, HX6.out.cell 6, HX6.out.cell 7, HX6.out.cell 8, HX6.out.cell 9, HY6.out.cell 0, HY6.out.cell 1, HY6.out.cell 2, HY6.out.cell 3, HY6.out.cell 4, HY6.out.cell 5, HY6.out.cell 6, HY6.out.cell 7, HY6.out.cell 8, HY6.out.cell 9, hy6⟩
           have hL6 : Hid (Lies w6 w6.heap.size A2 (bv X.data)) := Lies.own (own_keep HO4.out (bel_trans HB5 HB6).out))
        | (go_at_call 14
           ((with_reducible refine (same_x w6 X A2 A3 c2 c3 lx HLX.out hL6 (hid HT6.out.lies) hlx).mono ?_); rintro e w7 ⟨rfl, HB7⟩)
           have HY7 := box_p HY6 HB7
           have HX7 := box_p HX6 HB7
           have hy7 := (HB7.out.cell (p := ⟨bk, bo, none⟩) (Nat.lt_of_lt_of_le (Nat.lt_of_lt_of_le (Nat.lt_of_lt_of_le hbk HB4.out.size) HB5.out.size) HB6.out.size)).trans hy6
           have HS7 : w7.cell? ⟨w.heap.size, 0, none⟩ = some (.int .i64 m.kind) ∧ w7.cell? ⟨w.heap.size, 1, none⟩ = some (.int .u32 m.chan) ∧ w7.cell? ⟨w.heap.size, 2, none⟩ = some (.int .u32 m.sender) ∧ w7.cell? ⟨w.heap.size, 3, none⟩ = some (.int .u32 m.window) ∧ w7.cell? ⟨w.heap.size, 4, none⟩ = some (.int .u32 m.packet) ∧ w7.cell? ⟨w.heap.size, 5, none⟩ = some (.int .u32 m.code) ∧ w7.cell? ⟨w.heap.size, 6, none⟩ = some (.string m.name) ∧ w7.cell? ⟨w.heap.size, 7, none⟩ = some (.string m.lang) ∧ w7.cell? ⟨w.heap.size, 8, none⟩ = some (.bool m.want) ∧ w7.cell? ⟨w.heap.size, 9, none⟩ = some (.slice A l c) ∧ w7.cell? ⟨w4.heap.size, 0, none⟩ = some (.int .i64 X.kind) ∧ w7.cell? ⟨w4.heap.size, 1, none⟩ = some (.int .u32 X.chan) ∧ w7.cell? ⟨w4.heap.size, 2, none⟩ = some (.int .u32 X.sender) ∧ w7.cell? ⟨w4.heap.size, 3, none⟩ = some (.int .u32 X.window) ∧ w7.cell? ⟨w4.heap.size, 4, none⟩ = some (.int .u32 X.packet) ∧ w7.cell? ⟨w4.heap.size, 5, none⟩ = some (.int .u32 X.code) ∧ w7.cell? ⟨w4.heap.size, 6, none⟩ = some (.string X.name) ∧ w7.cell? ⟨w4.heap.size, 7, none⟩ = some (.string X.lang) ∧ w7.cell? ⟨w4.heap.size, 8, none⟩ = some (.bool X.want) ∧ w7.cell? ⟨w4.heap.size, 9, none⟩ = some (.slice A2 lx c2) ∧ w7.cell? ⟨bk, bo, none⟩ = some (.int .u8 m.kind) := ⟨HX7.out.cell 0, HX7.out.cell 1, HX7.out.cell 2, HX7.out.cell 3, HX7.out.cell 4, HX7.out.cell 5, HX7.out.cell 6, HX7.out.cell 7, HX7.out.cell 8, HX7.out.cell 9, HY7.out.cell 0, HY7.out.cell 1, HY7.out.cell 2, HY7.out.cell 3, HY7.out.cell 4, HY7.out.cell 5, HY7.out.cell 6, HY7.out.cell 7, HY7.out.cell 8, HY7.out.cell 9, hy7⟩)))
      all_goals
        go_wp2
        go_ret
        exact ⟨rfl, (bel_trans (bel_trans (bel_trans (bel_trans HB1 HB2) (bel_trans HB3 HB4)) HB5) (bel_trans HB6 HB7)).out⟩
    · have hbs : bs = [] := by
        have h := encF_err m (by rw [HE.out]; exact her)
        rw [HE.out] at h
        exact h
      have hk0 : k = 0 := by have := HK.out; rw [hbs] at this; simpa using this.symm
      subst hk0
      have hz : (er == 0) = false := by simpa using her
      clear her hbs
      go_enter Tryd.func5, Tryd.ntmps5
      go_wp2_with (first
        | (go_at_call 8
           refine (alive_any _ mm (hm_below HMM (bel1 w _) hpos).out).mono ?_
           rintro e w1 ⟨rfl, hb⟩
           have hx : Box w1 w.heap.size 25 #[.int .i64 m.kind, .int .u32 m.chan, .int .u32 m.sender, .int .u32 m.window, .int .u32 m.packet, .int .u32 m.code, .string m.name, .string m.lang, .bool m.want, .slice A l c] := box_below (Box.new w 25 _) hb
           have p0 : w1.cell? ⟨w.heap.size, 0, none⟩ = some (.int .i64 m.kind) := hx.cell 0
           have p1 : w1.cell? ⟨w.heap.size, 1, none⟩ = some (.int .u32 m.chan) := hx.cell 1
           have p2 : w1.cell? ⟨w.heap.size, 2, none⟩ = some (.int .u32 m.sender) := hx.cell 2
           have p3 : w1.cell? ⟨w.heap.size, 3, none⟩ = some (.int .u32 m.window) := hx.cell 3
           have p4 : w1.cell? ⟨w.heap.size, 4, none⟩ = some (.int .u32 m.packet) := hx.cell 4
           have p5 : w1.cell? ⟨w.heap.size, 5, none⟩ = some (.int .u32 m.code) := hx.cell 5
           have p6 : w1.cell? ⟨w.heap.size, 6, none⟩ = some (.string m.name) := hx.cell 6
           have p7 : w1.cell? ⟨w.heap.size, 7, none⟩ = some (.string m.lang) := hx.cell 7
           have p8 : w1.cell? ⟨w.heap.size, 8, none⟩ = some (.bool m.want) := hx.cell 8
           have p9 : w1.cell? ⟨w.heap.size, 9, none⟩ = some (.slice A l c) := hx.cell 9
           have HX1 := hid hx
           have HB1 : Hid (Below w.heap.size w w1) := (bel1 w _).trans (hb.mono (by simp))
           clear hx hb)
        | (go_at_call 9
           ((with_reducible refine (great_x w1 m A c l false HG HL.out hlm hn1 hn2).mono ?_); rintro e w2 ⟨rfl, HB2⟩)
           have HX2 := box_p HX1 HB2
           have q0 : w2.cell? ⟨w.heap.size, 0, none⟩ = some (.int .i64 m.kind) := HX2.out.cell 0
           have q1 : w2.cell? ⟨w.heap.size, 1, none⟩ = some (.int .u32 m.chan) := HX2.out.cell 1
           have q2 : w2.cell? ⟨w.heap.size, 2, none⟩ = some (.int .u32 m.sender) := HX2.out.cell 2
           have q3 : w2.cell? ⟨w.heap.size, 3, none⟩ = some (.int .u32 m.window) := HX2.out.cell 3
           have q4 : w2.cell? ⟨w.heap.size, 4, none⟩ = some (.int .u32 m.packet) := HX2.out.cell 4
           have q5 : w2.cell? ⟨w.heap.size, 5, none⟩ = some (.int .u32 m.code) := HX2.out.cell 5
           have q6 : w2.cell? ⟨w.heap.size, 6, none⟩ = some (.string m.name) := HX2.out.cell 6
           have q7 : w2.cell? ⟨w.heap.size, 7, none⟩ = some (.string m.lang) := HX2.out.cell 7
           have q8 : w2.cell? ⟨w.heap.size, 8, none⟩ = some (.bool m.want) := HX2.out.cell 8
           have q9 : w2.cell? ⟨w.heap.size, 9, none⟩ = some (.slice A l c) := HX2.out.cell 9
           have HD2 := tk_base (tk_hid HD (bel_trans HB1 HB2)) (bel_trans HB1 HB2).out.size)
        | (go_at_call 11
           ((with_reducible refine (encode_x w2 m A 0 0 er l 0 bs c HE HM HD2 HL.out HK.out).mono ?_); rintro e w3 ⟨A1, c1, rfl, HO3, HB3⟩)))
      go_ret
      exact ⟨rfl, (bel_trans (bel_trans HB1 HB2) HB3).out⟩

end Go.Proofs.YtlmdbcmaophhnaaDoor
