import Derived.Test.YtlmdbcmaophhnaaDoorSCa
import Derived.Test.YtlmdbcmaophhnaaDoorSCb
import Derived.Test.YtlmdbcmaophhnaaDoorSCc
import Derived.Test.YtlmdbcmaophhnaaDoorSCd
import Derived.BigRegion
namespace Go.Proofs.YtlmdbcmaophhnaaDoor
open Go.RowKit

theorem bytes_tt (W : World) (A A2 : Option Addr) (c c2 n : Nat) (bs : List UInt8) (h1 : Hid (Lies W W.heap.size A (bv bs))) (h2 : Hid (Lies W W.heap.size A2 (bv bs))) (hn : bs.length = n) (hl : n ≤ 100000) :
    Calls Tryd.prog 13 #[.slice A n c, .slice A2 n c2] W fun e w' => e = .returned (.bool true) ∧ Hid (Below W.heap.size W w') := by
  subst hn
  refine (bytes_any W _ _ A A2 c c2 bs bs h1.out h2.out (by unfold maxLen; omega) (by unfold maxLen; omega)).mono ?_
  rintro e w2 ⟨rfl, n, rfl⟩
  exact ⟨by simp, bel_drewN (Below.refl _ _) n⟩
set_option maxHeartbeats 1000000 in
set_option maxRecDepth 100000 in
theorem rdec_nil (w : World) (A : Option Addr) (c : Nat) : Calls Tryd.prog 16 #[.slice A 0 c] w (DecodeR (decF []) w) := by
  go_enter Tryd.func16, Tryd.ntmps16
  go_wp2
  refine bodyPost_ret (v := .tuple #[.agg (zeroM.cells none 0), .int .i64 3]) (by simp [results, Tryd.results16, go_sem, zeroM, Mg.cells]) rfl ?_
  exact decodeR_err _ _ _ (bel1 w _)
theorem rdec_any (w : World) (A : Option Addr) (c n : Nat) (b : List UInt8) (hn : b.length = n) (hb : SlB w w.heap.size A c b) (hl : n ≤ 100000) : Calls Tryd.prog 16 #[.slice A n c] w (DecodeR (decF b) w) := by
  cases b with
  | nil =>
    subst hn
    exact rdec_nil w A c
  | cons b0 r =>
    cases hx : look b0.toNat tab with
    | none => exact rdec_none w A c n b0 r hn hx hb hl
    | some ps =>
      have hmem := look_mem hx
      simp only [tab, List.mem_cons, List.mem_nil_iff, or_false, Prod.mk.injEq] at hmem
      rcases hmem with ⟨hk, _⟩ | ⟨hk, _⟩ | ⟨hk, _⟩ | ⟨hk, _⟩ | ⟨hk, _⟩ | ⟨hk, _⟩ | ⟨hk, _⟩ | ⟨hk, _⟩ | ⟨hk, _⟩ | ⟨hk, _⟩ | ⟨hk, _⟩ | ⟨hk, _⟩ | ⟨hk, _⟩ | ⟨hk, _⟩ | ⟨hk, _⟩
      · obtain rfl : b0 = 1 := UInt8.toNat_inj.1 (by show b0.toNat = 1; omega)
        exact rdec_1 w A c n r hn hb hl
      · obtain rfl : b0 = 80 := UInt8.toNat_inj.1 (by show b0.toNat = 80; omega)
        exact rdec_80 w A c n r hn hb hl
      · obtain rfl : b0 = 81 := UInt8.toNat_inj.1 (by show b0.toNat = 81; omega)
        exact rdec_81 w A c n r hn hb hl
      · obtain rfl : b0 = 82 := UInt8.toNat_inj.1 (by show b0.toNat = 82; omega)
        exact rdec_82 w A c n r hn hb hl
      · obtain rfl : b0 = 90 := UInt8.toNat_inj.1 (by show b0.toNat = 90; omega)
        exact rdec_90 w A c n r hn hb hl
      · obtain rfl : b0 = 91 := UInt8.toNat_inj.1 (by show b0.toNat = 91; omega)
        exact rdec_91 w A c n r hn hb hl
      · obtain rfl : b0 = 92 := UInt8.toNat_inj.1 (by show b0.toNat = 92; omega)
        exact rdec_92 w A c n r hn hb hl
      · obtain rfl : b0 = 93 := UInt8.toNat_inj.1 (by show b0.toNat = 93; omega)
        exact rdec_93 w A c n r hn hb hl
      · obtain rfl : b0 = 94 := UInt8.toNat_inj.1 (by show b0.toNat = 94; omega)
        exact rdec_94 w A c n r hn hb hl
      · obtain rfl : b0 = 95 := UInt8.toNat_inj.1 (by show b0.toNat = 95; omega)
        exact rdec_95 w A c n r hn hb hl
      · obtain rfl : b0 = 96 := UInt8.toNat_inj.1 (by show b0.toNat = 96; omega)
        exact rdec_96 w A c n r hn hb hl
      · obtain rfl : b0 = 97 := UInt8.toNat_inj.1 (by show b0.toNat = 97; omega)
        exact rdec_97 w A c n r hn hb hl
      · obtain rfl : b0 = 98 := UInt8.toNat_inj.1 (by show b0.toNat = 98; omega)
        exact rdec_98 w A c n r hn hb hl
      · obtain rfl : b0 = 99 := UInt8.toNat_inj.1 (by show b0.toNat = 99; omega)
        exact rdec_99 w A c n r hn hb hl
      · obtain rfl : b0 = 100 := UInt8.toNat_inj.1 (by show b0.toNat = 100; omega)
        exact rdec_100 w A c n r hn hb hl
theorem rdecode_x (w : World) (A : Option Addr) (c n l : Nat) (b : List UInt8) (er : Int) (m : Mg) (hX : Hid (decF b = (er, m))) (hn : Hid (b.length = n)) (hl : m.data.length = l) (hb : Hid (SlB w w.heap.size A c b)) (hle : n ≤ 100000) :
    Calls Tryd.prog 16 #[.slice A n c] w fun e w' => ∃ A1 c1, e = .returned (.tuple #[.agg #[.int .i64 m.kind, .int .u32 m.chan, .int .u32 m.sender, .int .u32 m.window, .int .u32 m.packet, .int .u32 m.code, .string m.name, .string m.lang, .bool m.want, .slice A1 l c1], .int .i64 er]) ∧ Hid (w'.ownsRow w.heap.size 5 1 (.slice A1 l c1) l (bv m.data)) ∧ Hid (Below w.heap.size w w') := by
  subst hl
  refine (rdec_any w A c n b hn.out hb.out hle).mono ?_
  rw [hX.out]
  rintro e w' ⟨A1, c1, rfl, ho, hb⟩
  exact ⟨A1, c1, rfl, ho, hb⟩

set_option maxHeartbeats 4000000 in
set_option maxRecDepth 100000 in
theorem decodes_any (w : World) (A : Option Addr) (c n : Nat) (b : List UInt8) (mm : Int) (hb : SlB w w.heap.size A c b) (hn : b.length = n) (hmm : w.cell? ⟨0, 0, none⟩ = some (.int .i64 mm)) :
    Calls Tryd.prog 4 #[.slice A n c] w fun e w' => e = .returned (.bool true) ∧ Below w.heap.size w w' := by
  have hpos : 0 < w.heap.size := World.block_lt_of_cell? w _ hmm
  have HB := hid hb
  have HN := hid hn
  have HMM := hid hmm
  have hnc : n ≤ c := by have := hb.1; omega
  have hcm := hb.2.1
  clear hb hn hmm
  unfold maxLen at hcm
  by_cases hbig : 100000 < n
  · go_enter Tryd.func4, Tryd.ntmps4
    go_wp2_with (
      go_at_call 8
      refine (alive_any _ mm HMM.out).mono ?_
      rintro e w1 ⟨rfl, hb1⟩)
    go_ret
    exact ⟨rfl, hb1⟩
  · have hle : n ≤ 100000 := by omega
    have hbd : decide ((100000 : Int) < n) = false := by simp; omega
    clear hbig
    obtain ⟨⟨er, m⟩, HDC⟩ : ∃ x, Hid (decF b = x) := ⟨_, hid rfl⟩
    obtain ⟨l, HL⟩ : ∃ l, Hid (m.data.length = l) := ⟨_, hid rfl⟩
    obtain ⟨i5, hi5, hj5, hj51, hj52⟩ := info_parts Tryd.info5
    have t0 : (er != er) = false := by simp
    go_enter Tryd.func4, Tryd.ntmps4
    go_wp2_with (first
      | (go_at_call 8
         refine (alive_any _ mm HMM.out).mono ?_
         rintro e w1 ⟨rfl, hb1⟩
         have HB1 := hid hb1
         clear hb1)
      | (at_builtin
         (
           have HLI : Hid (Lies w1 w1.heap.size A (bv b)) := lies_bel (hid HB.out.2.2.2) HB1
           refine wpList_app _ rfl (.tmp 14) (.tmp 15) 23 rfl w1.heap.size 5 i5 _ 1 1 Tryd.underlying23 hi5 hj5 hj51 hj52 rfl (by decide) _ 0 0 [] rfl (lit_own (Nat.le_refl _) rfl) w1.heap.size A n c (bv b) rfl (by simp [bv, HN.out]) ?g2 (bv_one _) ?g3 ?g4 ?g5 ?_
           case g2 => exact HLI.out.alloc (Nat.le_refl _) _
           case g3 => unfold maxLen; omega
           case g4 => omega
           case g5 => simp
           intro A2 c2 w2 ho2 hg2
           simp only [Nat.zero_add, List.nil_append] at ho2 ⊢
           have HB2 := hid (lit_grown rfl hg2)
           have HO2 := hid ho2
           clear ho2 hg2 HLI))
      | (go_at_call 15
         have HS2 : Hid (SlB w2 w2.heap.size A2 c2 b) := by have h := HO2.out; rw [← HN.out] at h; exact own_slb (n := 0) h
         ((with_reducible refine (decode_x w2 A2 c2 n l b mm er m HDC HN.out HL.out HS2 (hm_below HMM (bel_trans HB1 HB2) hpos)).mono ?_); rintro e w3 ⟨A3, c3, rfl, HO3, HB3⟩)
         have HXU : Hid (Box (w3.alloc (.cells #[.int .i64 m.kind, .int .u32 m.chan, .int .u32 m.sender, .int .u32 m.window, .int .u32 m.packet, .int .u32 m.code, .string m.name, .string m.lang, .bool m.want, .slice A3 l c3] 25)) w3.heap.size 25 #[.int .i64 m.kind, .int .u32 m.chan, .int .u32 m.sender, .int .u32 m.window, .int .u32 m.packet, .int .u32 m.code, .string m.name, .string m.lang, .bool m.want, .slice A3 l c3]) := hid (Box.new w3 25 _)
         have HBU : Hid (Below w.heap.size w (w3.alloc (.cells #[.int .i64 m.kind, .int .u32 m.chan, .int .u32 m.sender, .int .u32 m.window, .int .u32 m.packet, .int .u32 m.code, .string m.name, .string m.lang, .bool m.want, .slice A3 l c3] 25))) := bel_trans (bel_trans (bel_trans HB1 HB2) HB3) (bel1 w3 _)
         have HSU := slb_at HB HBU)
      | (go_at_call 16
         ((with_reducible refine (rdecode_x (w3.alloc (.cells #[.int .i64 m.kind, .int .u32 m.chan, .int .u32 m.sender, .int .u32 m.window, .int .u32 m.packet, .int .u32 m.code, .string m.name, .string m.lang, .bool m.want, .slice A3 l c3] 25)) A c n l b er m HDC HN HL.out HSU hle).mono ?_); rintro e w4 ⟨A4, c4, rfl, HO4, HB4⟩)
         have HX4 := box_a (box_p HXU HB4) (.cells #[.int .i64 m.kind, .int .u32 m.chan, .int .u32 m.sender, .int .u32 m.window, .int .u32 m.packet, .int .u32 m.code, .string m.name, .string m.lang, .bool m.want, .slice A4 l c4] 25)
         have HY4 : Hid (Box (w4.alloc (.cells #[.int .i64 m.kind, .int .u32 m.chan, .int .u32 m.sender, .int .u32 m.window, .int .u32 m.packet, .int .u32 m.code, .string m.name, .string m.lang, .bool m.want, .slice A4 l c4] 25)) w4.heap.size 25 #[.int .i64 m.kind, .int .u32 m.chan, .int .u32 m.sender, .int .u32 m.window, .int .u32 m.packet, .int .u32 m.code, .string m.name, .string m.lang, .bool m.want, .slice A4 l c4]) := hid (Box.new w4 25 _)
         have HBU4 : Hid (Below (w3.alloc (.cells #[.int .i64 m.kind, .int .u32 m.chan, .int .u32 m.sender, .int .u32 m.window, .int .u32 m.packet, .int .u32 m.code, .string m.name, .string m.lang, .bool m.want, .slice A3 l c3] 25)).heap.size (w3.alloc (.cells #[.int .i64 m.kind, .int .u32 m.chan, .int .u32 m.sender, .int .u32 m.window, .int .u32 m.packet, .int .u32 m.code, .string m.name, .string m.lang, .bool m.want, .slice A3 l c3] 25)) (w4.alloc (.cells #[.int .i64 m.kind, .int .u32 m.chan, .int .u32 m.sender, .int .u32 m.window, .int .u32 m.packet, .int .u32 m.code, .string m.name, .string m.lang, .bool m.want, .slice A4 l c4] 25))) := bel_trans HB4 (bel1 w4 _)
         have HL3 : Hid (Lies (w4.alloc (.cells #[.int .i64 m.kind, .int .u32 m.chan, .int .u32 m.sender, .int .u32 m.window, .int .u32 m.packet, .int .u32 m.code, .string m.name, .string m.lang, .bool m.want, .slice A4 l c4] 25)) (w4.alloc (.cells #[.int .i64 m.kind, .int .u32 m.chan, .int .u32 m.sender, .int .u32 m.window, .int .u32 m.packet, .int .u32 m.code, .string m.name, .string m.lang, .bool m.want, .slice A4 l c4] 25)).heap.size A3 (bv m.data)) := hid (Lies.own (own_keep HO3.out (bel_trans (bel1 w3 _) HBU4).out))
         have HL4 : Hid (Lies (w4.alloc (.cells #[.int .i64 m.kind, .int .u32 m.chan, .int .u32 m.sender, .int .u32 m.window, .int .u32 m.packet, .int .u32 m.code, .string m.name, .string m.lang, .bool m.want, .slice A4 l c4] 25)) (w4.alloc (.cells #[.int .i64 m.kind, .int .u32 m.chan, .int .u32 m.sender, .int .u32 m.window, .int .u32 m.packet, .int .u32 m.code, .string m.name, .string m.lang, .bool m.want, .slice A4 l c4] 25)).heap.size A4 (bv m.data)) := hid (Lies.own (own_keep HO4.out (bel1 w4 _)))
         have hlm : l ≤ maxLen := by have h := own_caps HO4.out; omega
         have p0 : (w4.alloc (.cells #[.int .i64 m.kind, .int .u32 m.chan, .int .u32 m.sender, .int .u32 m.window, .int .u32 m.packet, .int .u32 m.code, .string m.name, .string m.lang, .bool m.want, .slice A4 l c4] 25)).cell? ⟨w3.heap.size, 0, none⟩ = some (.int .i64 m.kind) := HX4.out.cell 0
         have p1 : (w4.alloc (.cells #[.int .i64 m.kind, .int .u32 m.chan, .int .u32 m.sender, .int .u32 m.window, .int .u32 m.packet, .int .u32 m.code, .string m.name, .string m.lang, .bool m.want, .slice A4 l c4] 25)).cell? ⟨w3.heap.size, 1, none⟩ = some (.int .u32 m.chan) := HX4.out.cell 1
         have p2 : (w4.alloc (.cells #[.int .i64 m.kind, .int .u32 m.chan, .int .u32 m.sender, .int .u32 m.window, .int .u32 m.packet, .int .u32 m.code, .string m.name, .string m.lang, .bool m.want, .slice A4 l c4] 25)).cell? ⟨w3.heap.size, 2, none⟩ = some (.int .u32 m.sender) := HX4.out.cell 2
         have p3 : (w4.alloc (.cells #[.int .i64 m.kind, .int .u32 m.chan, .int .u32 m.sender, .int .u32 m.window, .int .u32 m.packet, .int .u32 m.code, .string m.name, .string m.lang, .bool m.want, .slice A4 l c4] 25)).cell? ⟨w3.heap.size, 3, none⟩ = some (.int .u32 m.window) := HX4.out.cell 3
         have p4 : (w4.alloc (.cells #[.int .i64 m.kind, .int .u32 m.chan, .int .u32 m.sender, .int .u32 m.window, .int .u32 m.packet, .int .u32 m.code, .string m.name, .string m.lang, .bool m.want, .slice A4 l c4] 25)).cell? ⟨w3.heap.size, 4, none⟩ = some (.int .u32 m.packet) := HX4.out.cell 4
         have p5 : (w4.alloc (.cells #[.int .i64 m.kind, .int .u32 m.chan, .int .u32 m.sender, .int .u32 m.window, .int .u32 m.packet, .int .u32 m.code, .string m.name, .string m.lang, .bool m.want, .slice A4 l c4] 25)).cell? ⟨w3.heap.size, 5, none⟩ = some (.int .u32 m.code) := HX4.out.cell 5
         have p6 : (w4.alloc (.cells #[.int .i64 m.kind, .int .u32 m.chan, .int .u32 m.sender, .int .u32 m.window, .int .u32 m.packet, .int .u32 m.code, .string m.name, .string m.lang, .bool m.want, .slice A4 l c4] 25)).cell? ⟨w3.heap.size, 6, none⟩ = some (.string m.name) := HX4.out.cell 6
         have p7 : (w4.alloc (.cells #[.int .i64 m.kind, .int .u32 m.chan, .int .u32 m.sender, .int .u32 m.window, .int .u32 m.packet, .int .u32 m.code, .string m.name, .string m.lang, .bool m.want, .slice A4 l c4] 25)).cell? ⟨w3.heap.size, 7, none⟩ = some (.string m.lang) := HX4.out.cell 7
         have p8 : (w4.alloc (.cells #[.int .i64 m.kind, .int .u32 m.chan, .int .u32 m.sender, .int .u32 m.window, .int .u32 m.packet, .int .u32 m.code, .string m.name, .string m.lang, .bool m.want, .slice A4 l c4] 25)).cell? ⟨w3.heap.size, 8, none⟩ = some (.bool m.want) := HX4.out.cell 8
         have p9 : (w4.alloc (.cells #[.int .i64 m.kind, .int .u32 m.chan, .int .u32 m.sender, .int .u32 m.window, .int .u32 m.packet, .int .u32 m.code, .string m.name, .string m.lang, .bool m.want, .slice A4 l c4] 25)).cell? ⟨w3.heap.size, 9, none⟩ = some (.slice A3 l c3) := HX4.out.cell 9
         have q0 : (w4.alloc (.cells #[.int .i64 m.kind, .int .u32 m.chan, .int .u32 m.sender, .int .u32 m.window, .int .u32 m.packet, .int .u32 m.code, .string m.name, .string m.lang, .bool m.want, .slice A4 l c4] 25)).cell? ⟨w4.heap.size, 0, none⟩ = some (.int .i64 m.kind) := HY4.out.cell 0
         have q1 : (w4.alloc (.cells #[.int .i64 m.kind, .int .u32 m.chan, .int .u32 m.sender, .int .u32 m.window, .int .u32 m.packet, .int .u32 m.code, .string m.name, .string m.lang, .bool m.want, .slice A4 l c4] 25)).cell? ⟨w4.heap.size, 1, none⟩ = some (.int .u32 m.chan) := HY4.out.cell 1
         have q2 : (w4.alloc (.cells #[.int .i64 m.kind, .int .u32 m.chan, .int .u32 m.sender, .int .u32 m.window, .int .u32 m.packet, .int .u32 m.code, .string m.name, .string m.lang, .bool m.want, .slice A4 l c4] 25)).cell? ⟨w4.heap.size, 2, none⟩ = some (.int .u32 m.sender) := HY4.out.cell 2
         have q3 : (w4.alloc (.cells #[.int .i64 m.kind, .int .u32 m.chan, .int .u32 m.sender, .int .u32 m.window, .int .u32 m.packet, .int .u32 m.code, .string m.name, .string m.lang, .bool m.want, .slice A4 l c4] 25)).cell? ⟨w4.heap.size, 3, none⟩ = some (.int .u32 m.window) := HY4.out.cell 3
         have q4 : (w4.alloc (.cells #[.int .i64 m.kind, .int .u32 m.chan, .int .u32 m.sender, .int .u32 m.window, .int .u32 m.packet, .int .u32 m.code, .string m.name, .string m.lang, .bool m.want, .slice A4 l c4] 25)).cell? ⟨w4.heap.size, 4, none⟩ = some (.int .u32 m.packet) := HY4.out.cell 4
         have q5 : (w4.alloc (.cells #[.int .i64 m.kind, .int .u32 m.chan, .int .u32 m.sender, .int .u32 m.window, .int .u32 m.packet, .int .u32 m.code, .string m.name, .string m.lang, .bool m.want, .slice A4 l c4] 25)).cell? ⟨w4.heap.size, 5, none⟩ = some (.int .u32 m.code) := HY4.out.cell 5
         have q6 : (w4.alloc (.cells #[.int .i64 m.kind, .int .u32 m.chan, .int .u32 m.sender, .int .u32 m.window, .int .u32 m.packet, .int .u32 m.code, .string m.name, .string m.lang, .bool m.want, .slice A4 l c4] 25)).cell? ⟨w4.heap.size, 6, none⟩ = some (.string m.name) := HY4.out.cell 6
         have q7 : (w4.alloc (.cells #[.int .i64 m.kind, .int .u32 m.chan, .int .u32 m.sender, .int .u32 m.window, .int .u32 m.packet, .int .u32 m.code, .string m.name, .string m.lang, .bool m.want, .slice A4 l c4] 25)).cell? ⟨w4.heap.size, 7, none⟩ = some (.string m.lang) := HY4.out.cell 7
         have q8 : (w4.alloc (.cells #[.int .i64 m.kind, .int .u32 m.chan, .int .u32 m.sender, .int .u32 m.window, .int .u32 m.packet, .int .u32 m.code, .string m.name, .string m.lang, .bool m.want, .slice A4 l c4] 25)).cell? ⟨w4.heap.size, 8, none⟩ = some (.bool m.want) := HY4.out.cell 8
         have q9 : (w4.alloc (.cells #[.int .i64 m.kind, .int .u32 m.chan, .int .u32 m.sender, .int .u32 m.window, .int .u32 m.packet, .int .u32 m.code, .string m.name, .string m.lang, .bool m.want, .slice A4 l c4] 25)).cell? ⟨w4.heap.size, 9, none⟩ = some (.slice A4 l c4) := HY4.out.cell 9
         )
      | (go_at_call 14
         ((with_reducible refine (same_x (w4.alloc (.cells #[.int .i64 m.kind, .int .u32 m.chan, .int .u32 m.sender, .int .u32 m.window, .int .u32 m.packet, .int .u32 m.code, .string m.name, .string m.lang, .bool m.want, .slice A4 l c4] 25)) m A3 A4 c3 c4 l HL.out HL3 HL4 hlm).mono ?_); rintro e w5 ⟨rfl, HB5⟩)
         have HX5 := box_p HX4 HB5
         have s9 : w5.cell? ⟨w3.heap.size, 9, none⟩ = some (.slice A3 l c3) := HX5.out.cell 9
         have HB35 : Hid (Below w3.heap.size w3 w5) := bel_trans (bel1 w3 _) (bel_trans HBU4 HB5)
         have HO35 := hid (own_keep HO3.out HB35.out)
         have HB25 := bel_trans HB3 HB35
         have HBW5 := bel_trans (bel_trans HB1 HB2) HB25))
    clear HL3 HL4 HX4 HY4 HXU HO4
    have hcl := own_caps HO3.out
    unfold maxLen at hcl hlm
    have hsz23 : w2.heap.size ≤ w5.heap.size := HB25.out.size
    go_loopw [39] (fun i wr => ∃ (k : Nat) (xs : List Value), k ≤ l ∧ i = .int .i64 k ∧ wr.ownsRow w2.heap.size 5 1 (.slice A3 l c3) l xs ∧ AllU8 xs ∧ Hid (Kept w2.heap.size [5] w5 wr)) (fun i _ => l - (intOf i).toNat)
    case atStart => exact ⟨0, bv m.data, Nat.zero_le _, rfl, HO35.out, allu8_bv _, Kept.refl _ _ _⟩
    case round =>
      obtain ⟨k, xs, hk, rfl, hro, hau, HKR⟩ := hrel
      have HXR : Hid (Box wr w3.heap.size 25 #[.int .i64 m.kind, .int .u32 m.chan, .int .u32 m.sender, .int .u32 m.window, .int .u32 m.packet, .int .u32 m.code, .string m.name, .string m.lang, .bool m.want, .slice A3 l c3]) := hid (HKR.out.box HX5.out (by decide))
      have s9r : wr.cell? ⟨w3.heap.size, 9, none⟩ = some (.slice A3 l c3) := HXR.out.cell 9
      by_cases hlt : k < l
      · obtain ⟨g, rfl⟩ : ∃ g, A3 = some ⟨g, 0, none⟩ := by
          rcases hro.2 with ⟨_, h0⟩ | ⟨g, cap, cur, hv, _⟩
          · omega
          · injection hv with hv
            exact ⟨g, hv⟩
        have hlen : xs.length = l := by have := hro.1; omega
        obtain ⟨z, hz⟩ := hau k (by omega)
        have cc : wr.cell? ⟨g, k, none⟩ = some (.int .u8 z) := by
          rw [hro.cellAt k (by omega), ← hz]
          exact List.getElem?_eq_getElem _
        have ff : wr.frozen? ⟨g, k, none⟩ = false := hro.frozenAt k
        have hk0 : (0 : Int) ≤ (k : Int) := by omega
        have hk1 : (k : Int) < (l : Int) := by omega
        have HRO : Hid (wr.drew.ownsRow w2.heap.size 5 1 (.slice (some ⟨g, 0, none⟩) l c3) l xs) := hid (own_keep hro (Below.refl _ _).drew)
        have HAU := hid hau
        have HKD : Hid (Kept w2.heap.size [5] w5 wr.drew) := hid HKR.out.drew
        clear hro hau hz
        go_wp2
        go_region
        all_goals
          go_wp2
          go_roundw
          case rel => exact ⟨k + 1, _, by omega, by go_num, (HRO.out.stored k _).1, allu8_set HAU.out k _, HKD.out.grown (HRO.out.stored k _).2 (fun q hq => by obtain ⟨a, cs, b⟩ := own_box HRO.out q hq; exact ⟨a, 5, cs, by simp, b⟩)⟩
          case measure => simp [intOf]; omega
      · have HBR : Hid (Below w2.heap.size w5 wr) := hid (HKR.out.below hsz23)
        have HBX : Hid (Below w2.heap.size w2 wr) := hid (HB25.out.trans HBR.out)
        have HLA : Hid (Lies wr wr.heap.size A (bv b)) := lies_bel (hid HB.out.2.2.2) (bel_trans (bel_trans HB1 HB2) HBX)
        have HL2 : Hid (Lies wr wr.heap.size A2 (bv b)) := hid (Lies.own (own_keep HO2.out HBX.out))
        clear hro hau
        go_wp2_with (
          (go_at_call 13
           ((with_reducible refine (bytes_tt wr A2 A c2 c n b HL2 HLA HN.out hle).mono ?_); rintro e w6 ⟨rfl, HB6⟩)))
        go_ret
        exact ⟨rfl, (bel_trans (bel_trans (bel_trans HB1 HB2) HBX) HB6).out⟩

end Go.Proofs.YtlmdbcmaophhnaaDoor
