import Derived.Test.YtlmdbcmaophhnaaDoorRD
namespace Go.Proofs.YtlmdbcmaophhnaaDoor
open Go.RowKit

theorem bytes_t (W : World) (A A2 : Option Addr) (c c2 n : Nat) (bs : List UInt8) (h1 : Hid (Lies W W.heap.size A (bv bs))) (h2 : Hid (Lies W W.heap.size A2 (bv bs))) (hn : bs.length = n) (hl : n ≤ 100000) :
    Calls Tryd.prog 13 #[.slice A n c, .slice A2 n c2] W fun e w' => e = .returned (.bool true) ∧ Hid (Below W.heap.size W w') := by
  subst hn
  refine (bytes_any W _ _ A A2 c c2 bs bs h1.out h2.out (by unfold maxLen; omega) (by unfold maxLen; omega)).mono ?_
  rintro e w2 ⟨rfl, n, rfl⟩
  exact ⟨by simp, bel_drewN (Below.refl _ _) n⟩
theorem rencode_x (w : World) (m : Mg) (A : Option Addr) (er : Int) (l k : Nat) (bs : List UInt8) (cn : Nat) (hX : Hid (encF m = (er, bs))) (hm : Hid m.Ok) (hd : Hid (TK w w.heap.size A cn m.data)) (hl : m.data.length = l) (hn : bs.length = k) :
    Calls Tryd.prog 12 #[.agg #[.int .i64 m.kind, .int .u32 m.chan, .int .u32 m.sender, .int .u32 m.window, .int .u32 m.packet, .int .u32 m.code, .string m.name, .string m.lang, .bool m.want, .slice A l cn]] w fun e w' => ∃ A1 c1, e = .returned (.tuple #[.slice A1 k c1, .int .i64 er]) ∧ Hid (w'.ownsRow w.heap.size 5 1 (.slice A1 k c1) k (bv bs)) ∧ Hid (Below w.heap.size w w') := by
  subst hn
  refine (rencode_any w m A cn l hm.out hl hd.out).mono ?_
  rw [hX.out]
  rintro e w' ⟨A1, c1, rfl, ho, hb⟩
  exact ⟨A1, c1, rfl, ho, hb⟩
theorem tk_own {w : World} {base l c : Nat} {A : Option Addr} {bs : List UInt8} (h : Hid (w.ownsRow base 5 1 (.slice A l c) l (bv bs))) (hl : bs.length = l) : Hid (TK w w.heap.size A c bs) :=
  TK.of_low (by rw [hl]; exact (own_caps h.out).1) (own_caps h.out).2 (Lies.own h.out) (Nat.le_refl _)

set_option maxHeartbeats 4000000 in
set_option maxRecDepth 100000 in
theorem encodes_any (w : World) (m : Mg) (A : Option Addr) (c l : Nat) (mm : Int) (hm : m.Ok) (hl : m.data.length = l) (hd : TK w w.heap.size A c m.data) (hmm : w.cell? ⟨0, 0, none⟩ = some (.int .i64 mm)) :
    Calls Tryd.prog 3 #[.agg #[.int .i64 m.kind, .int .u32 m.chan, .int .u32 m.sender, .int .u32 m.window, .int .u32 m.packet, .int .u32 m.code, .string m.name, .string m.lang, .bool m.want, .slice A l c]] w fun e w' => e = .returned (.bool true) ∧ Below w.heap.size w w' := by
  have hpos : 0 < w.heap.size := World.block_lt_of_cell? w _ hmm
  have hlm : l ≤ maxLen := by have := hd.1; have := hd.2.1; omega
  have HM := hid hm
  have HD := hid hd
  have HMM := hid hmm
  have HL := hid hl
  have hn1 := hm.name
  have hn2 := hm.lang
  clear hm hd hmm hl
  obtain ⟨gb, HG⟩ : ∃ g, Hid (greatB m = g) := ⟨_, hid rfl⟩
  obtain ⟨⟨er, bs⟩, HE⟩ : ∃ x, Hid (encF m = x) := ⟨_, hid rfl⟩
  obtain ⟨k, HK⟩ : ∃ k, Hid (bs.length = k) := ⟨_, hid rfl⟩
  cases gb with
  | true =>
    go_enter Tryd.func3, Tryd.ntmps3
    go_wp2_with (first
      | (go_at_call 8
         refine (alive_any _ mm (hm_below HMM (bel1 w _) hpos).out).mono ?_
         rintro e w1 ⟨rfl, hb⟩
         have hx : Box w1 w.heap.size 25 #[.int .i64 m.kind, .int .u32 m.chan, .int .u32 m.sender, .int .u32 m.window, .int .u32 m.packet, .int .u32 m.code, .string m.name, .string m.lang, .bool m.want, .slice A l c] := box_below (Box.new w 25 _) hb
         have p0 : w1.cell? ⟨w.heap.size, 0, none⟩ = some (.int .i64 m.kind) := hx.cell 0
         have p1 : w1.cell? ⟨w.heap.size, 1, none⟩ = some (.int .u32 m.chan) := hx.cell 1
         have p2 : w1.cell? ⟨w.heap.size, 2, none⟩ = some (.int .u32 m.sender) := hx.cell 2
         have p3 : w1.cell? ⟨w.heap.size, 3, none⟩ = some (.int .u32 m.window) := hx.cell 3
         have p4 : w1.cell? ⟨w.heap.size, 4, none⟩ = some (.int .u32 m.packet) := hx.cell 4
         have p5 : w1.cell? ⟨w.heap.size, 5, none⟩ = some (.int .u32 m.code) := hx.cell 5
         have p6 : w1.cell? ⟨w.heap.size, 6, none⟩ = some (.string m.name) := hx.cell 6
         have p7 : w1.cell? ⟨w.heap.size, 7, none⟩ = some (.string m.lang) := hx.cell 7
         have p8 : w1.cell? ⟨w.heap.size, 8, none⟩ = some (.bool m.want) := hx.cell 8
         have p9 : w1.cell? ⟨w.heap.size, 9, none⟩ = some (.slice A l c) := hx.cell 9
         have HX1 := hid hx
         have HB1 : Hid (Below w.heap.size w w1) := (bel1 w _).trans (hb.mono (by simp))
         clear hx hb)
      | (go_at_call 9
         ((with_reducible refine (great_x w1 m A c l true HG HL.out hlm hn1 hn2).mono ?_); rintro e w2 ⟨rfl, HB2⟩)))
    go_ret
    exact ⟨rfl, HB1.out.trans (HB2.out.mono HB1.out.size)⟩
  | false =>
    have hle : l ≤ 100000 := by
      have h := HG.out
      simp only [greatB, Bool.or_eq_false_iff, decide_eq_false_iff_not] at h
      have := HL.out
      omega
    have hk3 : k ≤ 33792 := by
      by_cases her : er = 0
      · have hbm := back_math HM.out (by rw [HE.out]; exact her)
        rw [HE.out] at hbm
        have := HK.out
        have := hbm.2.1
        simp only at this
        omega
      · have h := encF_err m (by rw [HE.out]; exact her)
        rw [HE.out] at h
        have := HK.out
        simp only at h
        rw [h] at this
        simp at this
        omega
    have t0 : (er != er) = false := by simp
    go_enter Tryd.func3, Tryd.ntmps3
    go_wp2_with (first
      | (go_at_call 8
         refine (alive_any _ mm (hm_below HMM (bel1 w _) hpos).out).mono ?_
         rintro e w1 ⟨rfl, hb⟩
         have hx : Box w1 w.heap.size 25 #[.int .i64 m.kind, .int .u32 m.chan, .int .u32 m.sender, .int .u32 m.window, .int .u32 m.packet, .int .u32 m.code, .string m.name, .string m.lang, .bool m.want, .slice A l c] := box_below (Box.new w 25 _) hb
         have p0 : w1.cell? ⟨w.heap.size, 0, none⟩ = some (.int .i64 m.kind) := hx.cell 0
         have p1 : w1.cell? ⟨w.heap.size, 1, none⟩ = some (.int .u32 m.chan) := hx.cell 1
         have p2 : w1.cell? ⟨w.heap.size, 2, none⟩ = some (.int .u32 m.sender) := hx.cell 2
         have p3 : w1.cell? ⟨w.heap.size, 3, none⟩ = some (.int .u32 m.window) := hx.cell 3
         have p4 : w1.cell? ⟨w.heap.size, 4, none⟩ = some (.int .u32 m.packet) := hx.cell 4
         have p5 : w1.cell? ⟨w.heap.size, 5, none⟩ = some (.int .u32 m.code) := hx.cell 5
         have p6 : w1.cell? ⟨w.heap.size, 6, none⟩ = some (.string m.name) := hx.cell 6
         have p7 : w1.cell? ⟨w.heap.size, 7, none⟩ = some (.string m.lang) := hx.cell 7
         have p8 : w1.cell? ⟨w.heap.size, 8, none⟩ = some (.bool m.want) := hx.cell 8
         have p9 : w1.cell? ⟨w.heap.size, 9, none⟩ = some (.slice A l c) := hx.cell 9
         have HX1 := hid hx
         have HB1 : Hid (Below w.heap.size w w1) := (bel1 w _).trans (hb.mono (by simp))
         clear hx hb)
      | (go_at_call 9
         ((with_reducible refine (great_x w1 m A c l false HG HL.out hlm hn1 hn2).mono ?_); rintro e w2 ⟨rfl, HB2⟩)
         have HX2 := box_p HX1 HB2
         have q0 : w2.cell? ⟨w.heap.size, 0, none⟩ = some (.int .i64 m.kind) := HX2.out.cell 0
         have q1 : w2.cell? ⟨w.heap.size, 1, none⟩ = some (.int .u32 m.chan) := HX2.out.cell 1
         have q2 : w2.cell? ⟨w.heap.size, 2, none⟩ = some (.int .u32 m.sender) := HX2.out.cell 2
         have q3 : w2.cell? ⟨w.heap.size, 3, none⟩ = some (.int .u32 m.window) := HX2.out.cell 3
         have q4 : w2.cell? ⟨w.heap.size, 4, none⟩ = some (.int .u32 m.packet) := HX2.out.cell 4
         have q5 : w2.cell? ⟨w.heap.size, 5, none⟩ = some (.int .u32 m.code) := HX2.out.cell 5
         have q6 : w2.cell? ⟨w.heap.size, 6, none⟩ = some (.string m.name) := HX2.out.cell 6
         have q7 : w2.cell? ⟨w.heap.size, 7, none⟩ = some (.string m.lang) := HX2.out.cell 7
         have q8 : w2.cell? ⟨w.heap.size, 8, none⟩ = some (.bool m.want) := HX2.out.cell 8
         have q9 : w2.cell? ⟨w.heap.size, 9, none⟩ = some (.slice A l c) := HX2.out.cell 9
         have HBW2 := bel_trans HB1 HB2
         have HD2 := tk_base (tk_hid HD HBW2) HBW2.out.size)
      | (go_at_call 10
         ((with_reducible refine (copy_m w2 m A c l HL.out hle HD2.out).mono ?_); rintro e w3 ⟨A1, c1, rfl, HO3, HB3⟩)
         have HBW3 := bel_trans HBW2 HB3
         have HXU := box_a (box_p HX2 HB3) (.cells #[.int .i64 m.kind, .int .u32 m.chan, .int .u32 m.sender, .int .u32 m.window, .int .u32 m.packet, .int .u32 m.code, .string m.name, .string m.lang, .bool m.want, .slice A1 l c1] 25)
         have HYU : Hid (Box (w3.alloc (.cells #[.int .i64 m.kind, .int .u32 m.chan, .int .u32 m.sender, .int .u32 m.window, .int .u32 m.packet, .int .u32 m.code, .string m.name, .string m.lang, .bool m.want, .slice A1 l c1] 25)) w3.heap.size 25 #[.int .i64 m.kind, .int .u32 m.chan, .int .u32 m.sender, .int .u32 m.window, .int .u32 m.packet, .int .u32 m.code, .string m.name, .string m.lang, .bool m.want, .slice A1 l c1]) := hid (Box.new w3 25 _)
         have HBU : Hid (Below w.heap.size w (w3.alloc (.cells #[.int .i64 m.kind, .int .u32 m.chan, .int .u32 m.sender, .int .u32 m.window, .int .u32 m.packet, .int .u32 m.code, .string m.name, .string m.lang, .bool m.want, .slice A1 l c1] 25))) := bel_trans HBW3 (bel1 w3 _)
         have HDU := tk_base (tk_hid HD HBU) HBU.out.size
         have HCU : Hid (TK (w3.alloc (.cells #[.int .i64 m.kind, .int .u32 m.chan, .int .u32 m.sender, .int .u32 m.window, .int .u32 m.packet, .int .u32 m.code, .string m.name, .string m.lang, .bool m.want, .slice A1 l c1] 25)) (w3.alloc (.cells #[.int .i64 m.kind, .int .u32 m.chan, .int .u32 m.sender, .int .u32 m.window, .int .u32 m.packet, .int .u32 m.code, .string m.name, .string m.lang, .bool m.want, .slice A1 l c1] 25)).heap.size A1 c1 m.data) := tk_base (tk_hid (tk_own HO3 HL.out) (bel1 w3 _)) (by simp)
         have r0 : (w3.alloc (.cells #[.int .i64 m.kind, .int .u32 m.chan, .int .u32 m.sender, .int .u32 m.window, .int .u32 m.packet, .int .u32 m.code, .string m.name, .string m.lang, .bool m.want, .slice A1 l c1] 25)).cell? ⟨w3.heap.size, 0, none⟩ = some (.int .i64 m.kind) := HYU.out.cell 0
         have r1 : (w3.alloc (.cells #[.int .i64 m.kind, .int .u32 m.chan, .int .u32 m.sender, .int .u32 m.window, .int .u32 m.packet, .int .u32 m.code, .string m.name, .string m.lang, .bool m.want, .slice A1 l c1] 25)).cell? ⟨w3.heap.size, 1, none⟩ = some (.int .u32 m.chan) := HYU.out.cell 1
         have r2 : (w3.alloc (.cells #[.int .i64 m.kind, .int .u32 m.chan, .int .u32 m.sender, .int .u32 m.window, .int .u32 m.packet, .int .u32 m.code, .string m.name, .string m.lang, .bool m.want, .slice A1 l c1] 25)).cell? ⟨w3.heap.size, 2, none⟩ = some (.int .u32 m.sender) := HYU.out.cell 2
         have r3 : (w3.alloc (.cells #[.int .i64 m.kind, .int .u32 m.chan, .int .u32 m.sender, .int .u32 m.window, .int .u32 m.packet, .int .u32 m.code, .string m.name, .string m.lang, .bool m.want, .slice A1 l c1] 25)).cell? ⟨w3.heap.size, 3, none⟩ = some (.int .u32 m.window) := HYU.out.cell 3
         have r4 : (w3.alloc (.cells #[.int .i64 m.kind, .int .u32 m.chan, .int .u32 m.sender, .int .u32 m.window, .int .u32 m.packet, .int .u32 m.code, .string m.name, .string m.lang, .bool m.want, .slice A1 l c1] 25)).cell? ⟨w3.heap.size, 4, none⟩ = some (.int .u32 m.packet) := HYU.out.cell 4
         have r5 : (w3.alloc (.cells #[.int .i64 m.kind, .int .u32 m.chan, .int .u32 m.sender, .int .u32 m.window, .int .u32 m.packet, .int .u32 m.code, .string m.name, .string m.lang, .bool m.want, .slice A1 l c1] 25)).cell? ⟨w3.heap.size, 5, none⟩ = some (.int .u32 m.code) := HYU.out.cell 5
         have r6 : (w3.alloc (.cells #[.int .i64 m.kind, .int .u32 m.chan, .int .u32 m.sender, .int .u32 m.window, .int .u32 m.packet, .int .u32 m.code, .string m.name, .string m.lang, .bool m.want, .slice A1 l c1] 25)).cell? ⟨w3.heap.size, 6, none⟩ = some (.string m.name) := HYU.out.cell 6
         have r7 : (w3.alloc (.cells #[.int .i64 m.kind, .int .u32 m.chan, .int .u32 m.sender, .int .u32 m.window, .int .u32 m.packet, .int .u32 m.code, .string m.name, .string m.lang, .bool m.want, .slice A1 l c1] 25)).cell? ⟨w3.heap.size, 7, none⟩ = some (.string m.lang) := HYU.out.cell 7
         have r8 : (w3.alloc (.cells #[.int .i64 m.kind, .int .u32 m.chan, .int .u32 m.sender, .int .u32 m.window, .int .u32 m.packet, .int .u32 m.code, .string m.name, .string m.lang, .bool m.want, .slice A1 l c1] 25)).cell? ⟨w3.heap.size, 8, none⟩ = some (.bool m.want) := HYU.out.cell 8
         have r9 : (w3.alloc (.cells #[.int .i64 m.kind, .int .u32 m.chan, .int .u32 m.sender, .int .u32 m.window, .int .u32 m.packet, .int .u32 m.code, .string m.name, .string m.lang, .bool m.want, .slice A1 l c1] 25)).cell? ⟨w3.heap.size, 9, none⟩ = some (.slice A1 l c1) := HYU.out.cell 9
         )
      | (go_at_call 11
         ((with_reducible refine (encode_x (w3.alloc (.cells #[.int .i64 m.kind, .int .u32 m.chan, .int .u32 m.sender, .int .u32 m.window, .int .u32 m.packet, .int .u32 m.code, .string m.name, .string m.lang, .bool m.want, .slice A1 l c1] 25)) m A1 0 0 er l k bs c1 HE HM HCU HL.out HK.out).mono ?_); rintro e w4 ⟨A2, c2, rfl, HO4, HB4⟩)
         have HX4 := box_p HXU HB4
         have s0 : w4.cell? ⟨w.heap.size, 0, none⟩ = some (.int .i64 m.kind) := HX4.out.cell 0
         have s1 : w4.cell? ⟨w.heap.size, 1, none⟩ = some (.int .u32 m.chan) := HX4.out.cell 1
         have s2 : w4.cell? ⟨w.heap.size, 2, none⟩ = some (.int .u32 m.sender) := HX4.out.cell 2
         have s3 : w4.cell? ⟨w.heap.size, 3, none⟩ = some (.int .u32 m.window) := HX4.out.cell 3
         have s4 : w4.cell? ⟨w.heap.size, 4, none⟩ = some (.int .u32 m.packet) := HX4.out.cell 4
         have s5 : w4.cell? ⟨w.heap.size, 5, none⟩ = some (.int .u32 m.code) := HX4.out.cell 5
         have s6 : w4.cell? ⟨w.heap.size, 6, none⟩ = some (.string m.name) := HX4.out.cell 6
         have s7 : w4.cell? ⟨w.heap.size, 7, none⟩ = some (.string m.lang) := HX4.out.cell 7
         have s8 : w4.cell? ⟨w.heap.size, 8, none⟩ = some (.bool m.want) := HX4.out.cell 8
         have s9 : w4.cell? ⟨w.heap.size, 9, none⟩ = some (.slice A l c) := HX4.out.cell 9
         have HD4 := tk_base (tk_hid HDU HB4) HB4.out.size)
      | (go_at_call 12
         ((with_reducible refine (rencode_x w4 m A er l k bs c HE HM HD4 HL.out HK.out).mono ?_); rintro e w5 ⟨A3, c3, rfl, HO5, HB5⟩)
         have HO45 := hid (own_keep HO4.out HB5.out)
         have HC4 := hid (Lies.own HO45.out)
         have HC5 := hid (Lies.own HO5.out))
      | (go_at_call 13
         ((with_reducible refine (bytes_t w5 A2 A3 c2 c3 k bs HC4 HC5 HK.out (by omega)).mono ?_); rintro e w6 ⟨rfl, HB6⟩)
         have HO46 := hid (own_keep HO45.out HB6.out)
         have HBU6 := bel_trans HB4 (bel_trans HB5 HB6)))
    clear HX1 HX2 HX4 HD2 HD4 HC4 HC5 HO4 HO45 HO5
    go_loopw [36] (fun i wr => ∃ (k2 : Nat) (xs : List Value), k2 ≤ k ∧ i = .int .i64 k2 ∧ wr.ownsRow (w3.alloc (.cells #[.int .i64 m.kind, .int .u32 m.chan, .int .u32 m.sender, .int .u32 m.window, .int .u32 m.packet, .int .u32 m.code, .string m.name, .string m.lang, .bool m.want, .slice A1 l c1] 25)).heap.size 5 1 (.slice A2 k c2) k xs ∧ AllU8 xs ∧ Below (w3.alloc (.cells #[.int .i64 m.kind, .int .u32 m.chan, .int .u32 m.sender, .int .u32 m.window, .int .u32 m.packet, .int .u32 m.code, .string m.name, .string m.lang, .bool m.want, .slice A1 l c1] 25)).heap.size (w3.alloc (.cells #[.int .i64 m.kind, .int .u32 m.chan, .int .u32 m.sender, .int .u32 m.window, .int .u32 m.packet, .int .u32 m.code, .string m.name, .string m.lang, .bool m.want, .slice A1 l c1] 25)) wr) (fun i _ => k - (intOf i).toNat)
    case atStart => exact ⟨0, bv bs, Nat.zero_le _, rfl, HO46.out, allu8_bv _, HBU6.out⟩
    case round =>
      clear HO46 HBU6
      obtain ⟨k2, xs, hk2, rfl, hro, hau, hbw⟩ := hrel
      by_cases hlt2 : k2 < k
      · obtain ⟨g, rfl⟩ : ∃ g, A2 = some ⟨g, 0, none⟩ := by
          rcases hro.2 with ⟨_, h0⟩ | ⟨g, cap, cur, hv, _⟩
          · omega
          · injection hv with hv
            exact ⟨g, hv⟩
        have hlen : xs.length = k := by have := hro.1; omega
        obtain ⟨z, hz⟩ := hau k2 (by omega)
        have cc : wr.cell? ⟨g, k2, none⟩ = some (.int .u8 z) := by
          rw [hro.cellAt k2 (by omega), ← hz]
          exact List.getElem?_eq_getElem _
        have ff : wr.frozen? ⟨g, k2, none⟩ = false := hro.frozenAt k2
        have HRO := hid hro
        have HAU := hid hau
        have HBW := hid hbw
        clear hro hau hbw hz
        go_wp2
        go_roundw
        case rel => exact ⟨k2 + 1, _, by omega, by go_num, (HRO.out.stored k2 _).1, allu8_set HAU.out k2 _, app_bel HBW.out HRO.out (HRO.out.stored k2 _).2⟩
        case measure => simp [intOf]; omega
      · have HBR : Hid (Below (w3.alloc (.cells #[.int .i64 m.kind, .int .u32 m.chan, .int .u32 m.sender, .int .u32 m.window, .int .u32 m.packet, .int .u32 m.code, .string m.name, .string m.lang, .bool m.want, .slice A1 l c1] 25)).heap.size (w3.alloc (.cells #[.int .i64 m.kind, .int .u32 m.chan, .int .u32 m.sender, .int .u32 m.window, .int .u32 m.packet, .int .u32 m.code, .string m.name, .string m.lang, .bool m.want, .slice A1 l c1] 25)) wr) := hid hbw
        have HXR := box_p HXU HBR
        have HYR := box_p HYU HBR
        have HLA : Hid (Lies wr wr.heap.size A (bv m.data)) := hid (tk_hid HDU HBR).out.lies
        have HLC : Hid (Lies wr wr.heap.size A1 (bv m.data)) := hid (tk_hid HCU HBR).out.lies
        have s0 : wr.cell? ⟨w.heap.size, 0, none⟩ = some (.int .i64 m.kind) := HXR.out.cell 0
        have s1 : wr.cell? ⟨w.heap.size, 1, none⟩ = some (.int .u32 m.chan) := HXR.out.cell 1
        have s2 : wr.cell? ⟨w.heap.size, 2, none⟩ = some (.int .u32 m.sender) := HXR.out.cell 2
        have s3 : wr.cell? ⟨w.heap.size, 3, none⟩ = some (.int .u32 m.window) := HXR.out.cell 3
        have s4 : wr.cell? ⟨w.heap.size, 4, none⟩ = some (.int .u32 m.packet) := HXR.out.cell 4
        have s5 : wr.cell? ⟨w.heap.size, 5, none⟩ = some (.int .u32 m.code) := HXR.out.cell 5
        have s6 : wr.cell? ⟨w.heap.size, 6, none⟩ = some (.string m.name) := HXR.out.cell 6
        have s7 : wr.cell? ⟨w.heap.size, 7, none⟩ = some (.string m.lang) := HXR.out.cell 7
        have s8 : wr.cell? ⟨w.heap.size, 8, none⟩ = some (.bool m.want) := HXR.out.cell 8
        have s9 : wr.cell? ⟨w.heap.size, 9, none⟩ = some (.slice A l c) := HXR.out.cell 9
        have t0 : wr.cell? ⟨w3.heap.size, 0, none⟩ = some (.int .i64 m.kind) := HYR.out.cell 0
        have t1 : wr.cell? ⟨w3.heap.size, 1, none⟩ = some (.int .u32 m.chan) := HYR.out.cell 1
        have t2 : wr.cell? ⟨w3.heap.size, 2, none⟩ = some (.int .u32 m.sender) := HYR.out.cell 2
        have t3 : wr.cell? ⟨w3.heap.size, 3, none⟩ = some (.int .u32 m.window) := HYR.out.cell 3
        have t4 : wr.cell? ⟨w3.heap.size, 4, none⟩ = some (.int .u32 m.packet) := HYR.out.cell 4
        have t5 : wr.cell? ⟨w3.heap.size, 5, none⟩ = some (.int .u32 m.code) := HYR.out.cell 5
        have t6 : wr.cell? ⟨w3.heap.size, 6, none⟩ = some (.string m.name) := HYR.out.cell 6
        have t7 : wr.cell? ⟨w3.heap.size, 7, none⟩ = some (.string m.lang) := HYR.out.cell 7
        have t8 : wr.cell? ⟨w3.heap.size, 8, none⟩ = some (.bool m.want) := HYR.out.cell 8
        have t9 : wr.cell? ⟨w3.heap.size, 9, none⟩ = some (.slice A1 l c1) := HYR.out.cell 9
        clear hro hau hbw
        go_wp2_with (first
          | (go_at_call 14
             ((with_reducible refine (same_x wr m A1 A c1 c l HL.out HLC HLA hlm).mono ?_); rintro e w7 ⟨rfl, HB7⟩)))
        go_ret
        exact ⟨rfl, (bel_trans HBU (bel_trans HBR HB7)).out⟩
end Go.Proofs.YtlmdbcmaophhnaaDoor
