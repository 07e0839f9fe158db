import Derived.Test.YtcalffencobcaaaDoorQV
namespace Go.Proofs.YtcalffencobcaaaDoor
open Go.RowKit

theorem decodeq_er (w : World) (nm : ByteArray) (A : Option Addr) (c n : Nat) (b : List UInt8) (mm er : Int) (hX : Hid (decR nm b = (er, zeroR))) (hs : nm.size ≤ maxLen) (hn : b.length = n) (hb : Hid (SlB w w.heap.size A c b)) (hmm : Hid (w.cell? ⟨0, 0, none⟩ = some (.int .i64 mm))) :
    Calls Tryd.prog 9 #[.string nm, .slice A n c] w fun e w' => ∃ A1 c1, e = .returned (.tuple #[.agg #[.int .i64 0, .string ⟨#[]⟩, .string ⟨#[]⟩, .string ⟨#[]⟩, .int .u32 0, .int .u32 0, .int .u32 0, .int .u32 0, .slice A1 0 c1, .bool false, .int .u32 0], .int .i64 er]) ∧ Hid (Below w.heap.size w w') := by
  refine (decodeq_x w nm A c n 0 b mm er zeroR hX hs hn rfl hb hmm).mono ?_
  rintro e w' ⟨A1, c1, rfl, _, hb2⟩
  exact ⟨A1, c1, rfl, hb2⟩
theorem sameq_zero (w : World) (A : Option Addr) (c : Nat) : Calls Tryd.prog 11 #[.agg #[.int .i64 0, .string ⟨#[]⟩, .string ⟨#[]⟩, .string ⟨#[]⟩, .int .u32 0, .int .u32 0, .int .u32 0, .int .u32 0, .slice A 0 c, .bool false, .int .u32 0], .agg #[.int .i64 0, .string ⟨#[]⟩, .string ⟨#[]⟩, .string ⟨#[]⟩, .int .u32 0, .int .u32 0, .int .u32 0, .int .u32 0, .slice none 0 0, .bool false, .int .u32 0]] w fun e w' => e = .returned (.bool true) ∧ Hid (Below w.heap.size w w') :=
  sameq_x w zeroR A none c 0 0 rfl Lies.nil_ Lies.nil_ (Nat.zero_le _)
set_option maxHeartbeats 4000000 in
set_option maxRecDepth 100000 in
theorem againq_long (w : World) (nm : ByteArray) (A : Option Addr) (c n : Nat) (bs : List UInt8) (mm : Int) (hs : nm.size ≤ maxLen) (hb : SlB w w.heap.size A c bs) (hn : bs.length = n) (hmm : w.cell? ⟨0, 0, none⟩ = some (.int .i64 mm)) (h : 100000 < n) :
    Calls Tryd.prog 5 #[.string nm, .slice A n c] w fun e w' => e = .returned (.bool true) ∧ Below w.heap.size w w' := by
  have HSB := hid hb
  have HMM := hid hmm
  have HN := hid hn
  have hpos : 0 < w.heap.size := World.block_lt_of_cell? w _ hmm
  have hnc := hb.1
  have hcm := hb.2.1
  rw [hn] at hnc
  have HCM := hid hcm
  unfold maxLen at hcm
  have HS := hid hs
  unfold maxLen at hs
  clear hb hmm hn
  have d1 : (100000 : Int) < (n : Int) := by omega
  go_enter Tryd.func5, Tryd.ntmps5
  go_wp2_with (first
    | (go_at_call 8
       refine (aliveq_any _ mm HMM.out).mono ?_
       rintro e w1 ⟨rfl, hb1⟩
       have HB1 := hid hb1
       clear hb1))
  go_ret
  exact ⟨rfl, HB1.out⟩
set_option maxHeartbeats 4000000 in
set_option maxRecDepth 100000 in
theorem againq_name (w : World) (nm : ByteArray) (A : Option Addr) (c n : Nat) (bs : List UInt8) (mm : Int) (hs : nm.size ≤ maxLen) (hb : SlB w w.heap.size A c bs) (hn : bs.length = n) (hmm : w.cell? ⟨0, 0, none⟩ = some (.int .i64 mm)) (h0 : n ≤ 100000) (h : 10000 < nm.size) :
    Calls Tryd.prog 5 #[.string nm, .slice A n c] w fun e w' => e = .returned (.bool true) ∧ Below w.heap.size w w' := by
  have HSB := hid hb
  have HMM := hid hmm
  have HN := hid hn
  have hpos : 0 < w.heap.size := World.block_lt_of_cell? w _ hmm
  have hnc := hb.1
  have hcm := hb.2.1
  rw [hn] at hnc
  have HCM := hid hcm
  unfold maxLen at hcm
  have HS := hid hs
  unfold maxLen at hs
  clear hb hmm hn
  have d0 : decide ((100000 : Int) < (n : Int)) = false := by simp; omega
  have d1 : (10000 : Int) < (nm.size : Int) := by omega
  go_enter Tryd.func5, Tryd.ntmps5
  go_wp2_with (first
    | (go_at_call 8
       refine (aliveq_any _ mm HMM.out).mono ?_
       rintro e w1 ⟨rfl, hb1⟩
       have HB1 := hid hb1
       clear hb1))
  go_ret
  exact ⟨rfl, HB1.out⟩
set_option maxHeartbeats 4000000 in
set_option maxRecDepth 100000 in
theorem againq_err (w : World) (nm : ByteArray) (A : Option Addr) (c n : Nat) (bs : List UInt8) (mm : Int) (hs : nm.size ≤ maxLen) (hb : SlB w w.heap.size A c bs) (hn : bs.length = n) (hmm : w.cell? ⟨0, 0, none⟩ = some (.int .i64 mm)) (h0 : n ≤ 100000) (h : nm.size ≤ 10000) (er : Int) (hX : decR nm bs = (er, zeroR)) (her : er ≠ 0) :
    Calls Tryd.prog 5 #[.string nm, .slice A n c] w fun e w' => e = .returned (.bool true) ∧ Below w.heap.size w w' := by
  have HSB := hid hb
  have HMM := hid hmm
  have HN := hid hn
  have hpos : 0 < w.heap.size := World.block_lt_of_cell? w _ hmm
  have hnc := hb.1
  have hcm := hb.2.1
  rw [hn] at hnc
  have HCM := hid hcm
  unfold maxLen at hcm
  have HS := hid hs
  unfold maxLen at hs
  clear hb hmm hn
  have d0 : decide ((100000 : Int) < (n : Int)) = false := by simp; omega
  have d1 : decide ((10000 : Int) < (nm.size : Int)) = false := by simp; omega
  have HX := hid hX
  have hz : (er == 0) = false := by simpa using her
  clear hX her
  go_enter Tryd.func5, Tryd.ntmps5
  go_wp2_with (first
    | (go_at_call 8
       refine (aliveq_any _ mm HMM.out).mono ?_
       rintro e w1 ⟨rfl, hb1⟩
       have HB1 := hid hb1
       clear hb1)
    | (go_at_call 9
       have hS := slb_at HSB HB1
       have hM := q_below HMM HB1 hpos
       ((with_reducible refine (decodeq_er _ nm A c n bs mm er HX HS.out HN.out hS hM).mono ?_); rintro e w2 ⟨A2, c2, rfl, HB2⟩))
    | (go_at_call 11
       ((with_reducible refine (sameq_zero _ A2 c2).mono ?_); rintro e w3 ⟨rfl, HB3⟩)
       have HB4 := bel_trans (bel_trans (bel_trans HB1 HB2) (hid (bel1 w2 _))) HB3))
  go_ret
  exact ⟨rfl, HB4.out⟩
set_option maxHeartbeats 4000000 in
set_option maxRecDepth 100000 in
theorem againq_ok (w : World) (nm : ByteArray) (A : Option Addr) (c n : Nat) (bs : List UInt8) (mm : Int) (hs : nm.size ≤ maxLen) (hb : SlB w w.heap.size A c bs) (hn : bs.length = n) (hmm : w.cell? ⟨0, 0, none⟩ = some (.int .i64 mm)) (h0 : n ≤ 100000) (h : nm.size ≤ 10000) (X : Rq) (hX : decR nm bs = (0, X)) :
    Calls Tryd.prog 5 #[.string nm, .slice A n c] w fun e w' => e = .returned (.bool true) ∧ Below w.heap.size w w' := by
  have HSB := hid hb
  have HMM := hid hmm
  have HN := hid hn
  have hpos : 0 < w.heap.size := World.block_lt_of_cell? w _ hmm
  have hnc := hb.1
  have hcm := hb.2.1
  rw [hn] at hnc
  have HCM := hid hcm
  unfold maxLen at hcm
  have HS := hid hs
  unfold maxLen at hs
  clear hb hmm hn
  have d0 : decide ((100000 : Int) < (n : Int)) = false := by simp; omega
  have d1 : decide ((10000 : Int) < (nm.size : Int)) = false := by simp; omega
  have hm := againq_math (s := nm) (b := bs) (by rw [hX])
  rw [hX] at hm
  simp only at hm
  obtain ⟨hok, k, hrk, hnm, he1, he2, he3, he4, he5⟩ := hm
  obtain ⟨⟨er2, nm2, bs2⟩, hE⟩ : ∃ y, encR X = y := ⟨_, rfl⟩
  rw [hE] at he1 he2 he3 he4
  simp only at he1 he2 he3 he4
  subst he1
  subst he2
  have HX := hid hX
  have HE := hid hE
  have HX2 := hid he4
  have HOK := hid hok
  have HOW := hid he5
  have HRK := hid (rowK_some hrk).symm
  have HN2 : Hid (bs2.length = n) := hid (by rw [he3]; exact HN.out)
  have hnq : (nm2.toList == nm2.toList) = true := by simp
  obtain ⟨lx, HLX⟩ : ∃ lx, Hid (X.modes.length = lx) := ⟨_, hid rfl⟩
  clear hX hok hrk hnm he3 he4 he5 hE
  go_enter Tryd.func5, Tryd.ntmps5
  go_wp2_with (first
    | (go_at_call 8
       refine (aliveq_any _ mm HMM.out).mono ?_
       rintro e w1 ⟨rfl, hb1⟩
       have HB1 := hid hb1
       clear hb1)
    | (go_at_call 9
       have hS := slb_at HSB HB1
       have hM := q_below HMM HB1 hpos
       ((with_reducible refine (decodeq_x _ nm2 A c n lx bs mm 0 X HX HS.out HN.out HLX.out hS hM).mono ?_); rintro e w2 ⟨A2, c2, rfl, HO2, HB2⟩)
       have HXR := q_box_p (hid (Box.new w2 28 #[.int .i64 X.kind, .string X.text, .string X.value, .string X.lang, .int .u32 X.cols, .int .u32 X.rows, .int .u32 X.width, .int .u32 X.height, .slice A2 lx c2, .bool X.on, .int .u32 X.code])) (hid (Below.refl (w2.alloc (.cells #[.int .i64 X.kind, .string X.text, .string X.value, .string X.lang, .int .u32 X.cols, .int .u32 X.rows, .int .u32 X.width, .int .u32 X.height, .slice A2 lx c2, .bool X.on, .int .u32 X.code] 28)).heap.size (w2.alloc (.cells #[.int .i64 X.kind, .string X.text, .string X.value, .string X.lang, .int .u32 X.cols, .int .u32 X.rows, .int .u32 X.width, .int .u32 X.height, .slice A2 lx c2, .bool X.on, .int .u32 X.code] 28))))
       have HBA := hid (bel1 w2 (.cells #[.int .i64 X.kind, .string X.text, .string X.value, .string X.lang, .int .u32 X.cols, .int .u32 X.rows, .int .u32 X.width, .int .u32 X.height, .slice A2 lx c2, .bool X.on, .int .u32 X.code] 28))
       have HTA : Hid (TK (w2.alloc (.cells #[.int .i64 X.kind, .string X.text, .string X.value, .string X.lang, .int .u32 X.cols, .int .u32 X.rows, .int .u32 X.width, .int .u32 X.height, .slice A2 lx c2, .bool X.on, .int .u32 X.code] 28)) (w2.alloc (.cells #[.int .i64 X.kind, .string X.text, .string X.value, .string X.lang, .int .u32 X.cols, .int .u32 X.rows, .int .u32 X.width, .int .u32 X.height, .slice A2 lx c2, .bool X.on, .int .u32 X.code] 28)).heap.size A2 c2 X.modes) := hid (by
         have h := HO2.out
         rw [← HLX.out] at h
         exact (tk_own h).below HBA.out))
    | (go_at_call 14
       ((with_reducible refine (encodeq_x _ X A2 0 0 lx n c2 nm2 bs2 HE HOK HTA HLX.out HN2.out).mono ?_); rintro e w3 ⟨A3, c3, rfl, HO3, HB3⟩))
    | (go_at_call 9
       have hS3 : Hid (SlB w3 w3.heap.size A3 c3 bs2) := by have h := HO3.out; rw [← HN2.out] at h; exact own_slb (n := 0) h
       have hM3 := q_below HMM (bel_trans (bel_trans (bel_trans HB1 HB2) HBA) HB3) hpos
       ((with_reducible refine (decodeq_x w3 nm2 A3 c3 n lx bs2 mm 0 X HX2 HS.out HN2.out HLX.out hS3 hM3).mono ?_); rintro e w4 ⟨A4, c4, rfl, HO4, HB4⟩)))
  have HXR5 := q_box_a (q_box_p (q_box_p HXR HB3) HB4) (.cells #[.int .i64 X.kind, .string X.text, .string X.value, .string X.lang, .int .u32 X.cols, .int .u32 X.rows, .int .u32 X.width, .int .u32 X.height, .slice A4 lx c4, .bool X.on, .int .u32 X.code] 28)
  have HYR5 : Hid (Box (w4.alloc (.cells #[.int .i64 X.kind, .string X.text, .string X.value, .string X.lang, .int .u32 X.cols, .int .u32 X.rows, .int .u32 X.width, .int .u32 X.height, .slice A4 lx c4, .bool X.on, .int .u32 X.code] 28)) w4.heap.size 28 #[.int .i64 X.kind, .string X.text, .string X.value, .string X.lang, .int .u32 X.cols, .int .u32 X.rows, .int .u32 X.width, .int .u32 X.height, .slice A4 lx c4, .bool X.on, .int .u32 X.code]) := hid (Box.new w4 28 _)
  have HB5 : Hid (Below w4.heap.size w4 (w4.alloc (.cells #[.int .i64 X.kind, .string X.text, .string X.value, .string X.lang, .int .u32 X.cols, .int .u32 X.rows, .int .u32 X.width, .int .u32 X.height, .slice A4 lx c4, .bool X.on, .int .u32 X.code] 28))) := bel1 w4 _
  generalize hW : w4.alloc _ = w5 at HXR5 HYR5 HB5
  have HW := hid hW
  clear hW
  have hlx : lx ≤ maxLen := by have h := own_caps HO4.out; omega
  have hn2 : (n : Int) = (n : Int) := rfl
  have HL2 : Hid (Lies w5.drew w5.drew.heap.size A2 (bv X.modes)) := hid ((Lies.own (own_keep HO2.out (bel_trans (bel_trans HBA HB3) (bel_trans HB4 HB5)).out) : Lies w5 w5.heap.size A2 (bv X.modes)))
  have HL4 : Hid (Lies w5.drew w5.drew.heap.size A4 (bv X.modes)) := hid ((Lies.own (own_keep HO4.out HB5.out) : Lies w5 w5.heap.size A4 (bv X.modes)))
  have HS5 : w5.cell? ⟨w2.heap.size, 0, none⟩ = some (.int .i64 X.kind) ∧ w5.cell? ⟨w2.heap.size, 1, none⟩ = some (.string X.text) ∧ w5.cell? ⟨w2.heap.size, 2, none⟩ = some (.string X.value) ∧ w5.cell? ⟨w2.heap.size, 3, none⟩ = some (.string X.lang) ∧ w5.cell? ⟨w2.heap.size, 4, none⟩ = some (.int .u32 X.cols) ∧ w5.cell? ⟨w2.heap.size, 5, none⟩ = some (.int .u32 X.rows) ∧ w5.cell? ⟨w2.heap.size, 6, none⟩ = some (.int .u32 X.width) ∧ w5.cell? ⟨w2.heap.size, 7, none⟩ = some (.int .u32 X.height) ∧ w5.cell? ⟨w2.heap.size, 8, none⟩ = some (.slice A2 lx c2) ∧ w5.cell? ⟨w2.heap.size, 9, none⟩ = some (.bool X.on) ∧ w5.cell? ⟨w2.heap.size, 10, none⟩ = some (.int .u32 X.code) ∧ w5.cell? ⟨w4.heap.size, 0, none⟩ = some (.int .i64 X.kind) ∧ w5.cell? ⟨w4.heap.size, 1, none⟩ = some (.string X.text) ∧ w5.cell? ⟨w4.heap.size, 2, none⟩ = some (.string X.value) ∧ w5.cell? ⟨w4.heap.size, 3, none⟩ = some (.string X.lang) ∧ w5.cell? ⟨w4.heap.size, 4, none⟩ = some (.int .u32 X.cols) ∧ w5.cell? ⟨w4.heap.size, 5, none⟩ = some (.int .u32 X.rows) ∧ w5.cell? ⟨w4.heap.size, 6, none⟩ = some (.int .u32 X.width) ∧ w5.cell? ⟨w4.heap.size, 7, none⟩ = some (.int .u32 X.height) ∧ w5.cell? ⟨w4.heap.size, 8, none⟩ = some (.slice A4 lx c4) ∧ w5.cell? ⟨w4.heap.size, 9, none⟩ = some (.bool X.on) ∧ w5.cell? ⟨w4.heap.size, 10, none⟩ = some (.int .u32 X.code) := ⟨HXR5.out.cell 0, HXR5.out.cell 1, HXR5.out.cell 2, HXR5.out.cell 3, HXR5.out.cell 4, HXR5.out.cell 5, HXR5.out.cell 6, HXR5.out.cell 7, HXR5.out.cell 8, HXR5.out.cell 9, HXR5.out.cell 10, HYR5.out.cell 0, HYR5.out.cell 1, HYR5.out.cell 2, HYR5.out.cell 3, HYR5.out.cell 4, HYR5.out.cell 5, HYR5.out.cell 6, HYR5.out.cell 7, HYR5.out.cell 8, HYR5.out.cell 9, HYR5.out.cell 10⟩
  go_region_held3 (fun u => u.cell? ⟨w2.heap.size, 0, none⟩ = some (.int .i64 X.kind) ∧ u.cell? ⟨w2.heap.size, 1, none⟩ = some (.string X.text) ∧ u.cell? ⟨w2.heap.size, 2, none⟩ = some (.string X.value) ∧ u.cell? ⟨w2.heap.size, 3, none⟩ = some (.string X.lang) ∧ u.cell? ⟨w2.heap.size, 4, none⟩ = some (.int .u32 X.cols) ∧ u.cell? ⟨w2.heap.size, 5, none⟩ = some (.int .u32 X.rows) ∧ u.cell? ⟨w2.heap.size, 6, none⟩ = some (.int .u32 X.width) ∧ u.cell? ⟨w2.heap.size, 7, none⟩ = some (.int .u32 X.height) ∧ u.cell? ⟨w2.heap.size, 8, none⟩ = some (.slice A2 lx c2) ∧ u.cell? ⟨w2.heap.size, 9, none⟩ = some (.bool X.on) ∧ u.cell? ⟨w2.heap.size, 10, none⟩ = some (.int .u32 X.code) ∧ u.cell? ⟨w4.heap.size, 0, none⟩ = some (.int .i64 X.kind) ∧ u.cell? ⟨w4.heap.size, 1, none⟩ = some (.string X.text) ∧ u.cell? ⟨w4.heap.size, 2, none⟩ = some (.string X.value) ∧ u.cell? ⟨w4.heap.size, 3, none⟩ = some (.string X.lang) ∧ u.cell? ⟨w4.heap.size, 4, none⟩ = some (.int .u32 X.cols) ∧ u.cell? ⟨w4.heap.size, 5, none⟩ = some (.int .u32 X.rows) ∧ u.cell? ⟨w4.heap.size, 6, none⟩ = some (.int .u32 X.width) ∧ u.cell? ⟨w4.heap.size, 7, none⟩ = some (.int .u32 X.height) ∧ u.cell? ⟨w4.heap.size, 8, none⟩ = some (.slice A4 lx c4) ∧ u.cell? ⟨w4.heap.size, 9, none⟩ = some (.bool X.on) ∧ u.cell? ⟨w4.heap.size, 10, none⟩ = some (.int .u32 X.code)) (first | exact HS5 | exact HS6 | exact HS7 | exact HS8) ((first
    | (go_at_call 11
       ((with_reducible refine (sameq_x w5.drew X A4 A2 c4 c2 lx HLX.out HL4 HL2 hlx).mono ?_); rintro e w6 ⟨rfl, HB6'⟩)
       have HB6 : Hid (Below w5.heap.size w5 w6) := hid ⟨HB6'.out.os, HB6'.out.tape, HB6'.out.output, HB6'.out.size, HB6'.out.block⟩
       have HXR6 := q_box_p HXR5 HB6
       have HYR6 := q_box_p HYR5 HB6
       have HT6 : Hid (TK w6 w6.heap.size A2 c2 X.modes) := hid (by
         have h := own_keep HO2.out (bel_trans (bel_trans HBA HB3) (bel_trans (bel_trans HB4 HB5) HB6)).out
         rw [← HLX.out] at h
         exact tk_own h)
       have HS6 : w6.cell? ⟨w2.heap.size, 0, none⟩ = some (.int .i64 X.kind) ∧ w6.cell? ⟨w2.heap.size, 1, none⟩ = some (.string X.text) ∧ w6.cell? ⟨w2.heap.size, 2, none⟩ = some (.string X.value) ∧ w6.cell? ⟨w2.heap.size, 3, none⟩ = some (.string X.lang) ∧ w6.cell? ⟨w2.heap.size, 4, none⟩ = some (.int .u32 X.cols) ∧ w6.cell? ⟨w2.heap.size, 5, none⟩ = some (.int .u32 X.rows) ∧ w6.cell? ⟨w2.heap.size, 6, none⟩ = some (.int .u32 X.width) ∧ w6.cell? ⟨w2.heap.size, 7, none⟩ = some (.int .u32 X.height) ∧ w6.cell? ⟨w2.heap.size, 8, none⟩ = some (.slice A2 lx c2) ∧ w6.cell? ⟨w2.heap.size, 9, none⟩ = some (.bool X.on) ∧ w6.cell? ⟨w2.heap.size, 10, none⟩ = some (.int .u32 X.code) ∧ w6.cell? ⟨w4.heap.size, 0, none⟩ = some (.int .i64 X.kind) ∧ w6.cell? ⟨w4.heap.size, 1, none⟩ = some (.string X.text) ∧ w6.cell? ⟨w4.heap.size, 2, none⟩ = some (.string X.value) ∧ w6.cell? ⟨w4.heap.size, 3, none⟩ = some (.string X.lang) ∧ w6.cell? ⟨w4.heap.size, 4, none⟩ = some (.int .u32 X.cols) ∧ w6.cell? ⟨w4.heap.size, 5, none⟩ = some (.int .u32 X.rows) ∧ w6.cell? ⟨w4.heap.size, 6, none⟩ = some (.int .u32 X.width) ∧ w6.cell? ⟨w4.heap.size, 7, none⟩ = some (.int .u32 X.height) ∧ w6.cell? ⟨w4.heap.size, 8, none⟩ = some (.slice A4 lx c4) ∧ w6.cell? ⟨w4.heap.size, 9, none⟩ = some (.bool X.on) ∧ w6.cell? ⟨w4.heap.size, 10, none⟩ = some (.int .u32 X.code) := ⟨HXR6.out.cell 0, HXR6.out.cell 1, HXR6.out.cell 2, HXR6.out.cell 3, HXR6.out.cell 4, HXR6.out.cell 5, HXR6.out.cell 6, HXR6.out.cell 7, HXR6.out.cell 8, HXR6.out.cell 9, HXR6.out.cell 10, HYR6.out.cell 0, HYR6.out.cell 1, HYR6.out.cell 2, HYR6.out.cell 3, HYR6.out.cell 4, HYR6.out.cell 5, HYR6.out.cell 6, HYR6.out.cell 7, HYR6.out.cell 8, HYR6.out.cell 9, HYR6.out.cell 10⟩)
    | (go_at_call 16
       ((with_reducible refine (ownq_x w6 k X X A2 c2 lx lx w6.heap.size HRK HOW HLX.out HLX.out HT6).mono ?_); rintro e w7 ⟨A5, c5, rfl, HB7, HT7⟩)
       have HXR7 := q_box_p HXR6 HB7
       have HYR7 := q_box_p HYR6 HB7
       have HL7 : Hid (Lies w7 w7.heap.size A2 (bv X.modes)) := hid ((HT6.out.below HB7.out).lies)
       have HS7 : w7.cell? ⟨w2.heap.size, 0, none⟩ = some (.int .i64 X.kind) ∧ w7.cell? ⟨w2.heap.size, 1, none⟩ = some (.string X.text) ∧ w7.cell? ⟨w2.heap.size, 2, none⟩ = some (.string X.value) ∧ w7.cell? ⟨w2.heap.size, 3, none⟩ = some (.string X.lang) ∧ w7.cell? ⟨w2.heap.size, 4, none⟩ = some (.int .u32 X.cols) ∧ w7.cell? ⟨w2.heap.size, 5, none⟩ = some (.int .u32 X.rows) ∧ w7.cell? ⟨w2.heap.size, 6, none⟩ = some (.int .u32 X.width) ∧ w7.cell? ⟨w2.heap.size, 7, none⟩ = some (.int .u32 X.height) ∧ w7.cell? ⟨w2.heap.size, 8, none⟩ = some (.slice A2 lx c2) ∧ w7.cell? ⟨w2.heap.size, 9, none⟩ = some (.bool X.on) ∧ w7.cell? ⟨w2.heap.size, 10, none⟩ = some (.int .u32 X.code) ∧ w7.cell? ⟨w4.heap.size, 0, none⟩ = some (.int .i64 X.kind) ∧ w7.cell? ⟨w4.heap.size, 1, none⟩ = some (.string X.text) ∧ w7.cell? ⟨w4.heap.size, 2, none⟩ = some (.string X.value) ∧ w7.cell? ⟨w4.heap.size, 3, none⟩ = some (.string X.lang) ∧ w7.cell? ⟨w4.heap.size, 4, none⟩ = some (.int .u32 X.cols) ∧ w7.cell? ⟨w4.heap.size, 5, none⟩ = some (.int .u32 X.rows) ∧ w7.cell? ⟨w4.heap.size, 6, none⟩ = some (.int .u32 X.width) ∧ w7.cell? ⟨w4.heap.size, 7, none⟩ = some (.int .u32 X.height) ∧ w7.cell? ⟨w4.heap.size, 8, none⟩ = some (.slice A4 lx c4) ∧ w7.cell? ⟨w4.heap.size, 9, none⟩ = some (.bool X.on) ∧ w7.cell? ⟨w4.heap.size, 10, none⟩ = some (.int .u32 X.code) := ⟨HXR7.out.cell 0, HXR7.out.cell 1, HXR7.out.cell 2, HXR7.out.cell 3, HXR7.out.cell 4, HXR7.out.cell 5, HXR7.out.cell 6, HXR7.out.cell 7, HXR7.out.cell 8, HXR7.out.cell 9, HXR7.out.cell 10, HYR7.out.cell 0, HYR7.out.cell 1, HYR7.out.cell 2, HYR7.out.cell 3, HYR7.out.cell 4, HYR7.out.cell 5, HYR7.out.cell 6, HYR7.out.cell 7, HYR7.out.cell 8, HYR7.out.cell 9, HYR7.out.cell 10⟩)
    | (go_at_call 11
       ((with_reducible refine (sameq_x w7 X A2 A5 c2 c5 lx HLX.out HL7 (hid HT7.out.lies) hlx).mono ?_); rintro e w8 ⟨rfl, HB8⟩)
       have HXR8 := q_box_p HXR7 HB8
       have HYR8 := q_box_p HYR7 HB8
       have HS8 : w8.cell? ⟨w2.heap.size, 0, none⟩ = some (.int .i64 X.kind) ∧ w8.cell? ⟨w2.heap.size, 1, none⟩ = some (.string X.text) ∧ w8.cell? ⟨w2.heap.size, 2, none⟩ = some (.string X.value) ∧ w8.cell? ⟨w2.heap.size, 3, none⟩ = some (.string X.lang) ∧ w8.cell? ⟨w2.heap.size, 4, none⟩ = some (.int .u32 X.cols) ∧ w8.cell? ⟨w2.heap.size, 5, none⟩ = some (.int .u32 X.rows) ∧ w8.cell? ⟨w2.heap.size, 6, none⟩ = some (.int .u32 X.width) ∧ w8.cell? ⟨w2.heap.size, 7, none⟩ = some (.int .u32 X.height) ∧ w8.cell? ⟨w2.heap.size, 8, none⟩ = some (.slice A2 lx c2) ∧ w8.cell? ⟨w2.heap.size, 9, none⟩ = some (.bool X.on) ∧ w8.cell? ⟨w2.heap.size, 10, none⟩ = some (.int .u32 X.code) ∧ w8.cell? ⟨w4.heap.size, 0, none⟩ = some (.int .i64 X.kind) ∧ w8.cell? ⟨w4.heap.size, 1, none⟩ = some (.string X.text) ∧ w8.cell? ⟨w4.heap.size, 2, none⟩ = some (.string X.value) ∧ w8.cell? ⟨w4.heap.size, 3, none⟩ = some (.string X.lang) ∧ w8.cell? ⟨w4.heap.size, 4, none⟩ = some (.int .u32 X.cols) ∧ w8.cell? ⟨w4.heap.size, 5, none⟩ = some (.int .u32 X.rows) ∧ w8.cell? ⟨w4.heap.size, 6, none⟩ = some (.int .u32 X.width) ∧ w8.cell? ⟨w4.heap.size, 7, none⟩ = some (.int .u32 X.height) ∧ w8.cell? ⟨w4.heap.size, 8, none⟩ = some (.slice A4 lx c4) ∧ w8.cell? ⟨w4.heap.size, 9, none⟩ = some (.bool X.on) ∧ w8.cell? ⟨w4.heap.size, 10, none⟩ = some (.int .u32 X.code) := ⟨HXR8.out.cell 0, HXR8.out.cell 1, HXR8.out.cell 2, HXR8.out.cell 3, HXR8.out.cell 4, HXR8.out.cell 5, HXR8.out.cell 6, HXR8.out.cell 7, HXR8.out.cell 8, HXR8.out.cell 9, HXR8.out.cell 10, HYR8.out.cell 0, HYR8.out.cell 1, HYR8.out.cell 2, HYR8.out.cell 3, HYR8.out.cell 4, HYR8.out.cell 5, HYR8.out.cell 6, HYR8.out.cell 7, HYR8.out.cell 8, HYR8.out.cell 9, HYR8.out.cell 10⟩)))
  all_goals
    go_wp2
    go_ret
    exact ⟨rfl, (bel_trans (bel_trans (bel_trans (bel_trans (bel_trans HB1 HB2) HBA) (bel_trans HB3 HB4)) (bel_trans HB5 HB6)) (bel_trans HB7 HB8)).out⟩
theorem againq_any (w : World) (nm : ByteArray) (A : Option Addr) (c n : Nat) (bs : List UInt8) (mm : Int) (hs : nm.size ≤ maxLen) (hb : SlB w w.heap.size A c bs) (hn : bs.length = n) (hmm : w.cell? ⟨0, 0, none⟩ = some (.int .i64 mm)) :
    Calls Tryd.prog 5 #[.string nm, .slice A n c] w fun e w' => e = .returned (.bool true) ∧ Below w.heap.size w w' := by
  by_cases h0 : 100000 < n
  · exact againq_long w nm A c n bs mm hs hb hn hmm h0
  · by_cases h1 : 10000 < nm.size
    · exact againq_name w nm A c n bs mm hs hb hn hmm (by omega) h1
    · obtain ⟨⟨er, X⟩, hX⟩ : ∃ y, decR nm bs = y := ⟨_, rfl⟩
      by_cases her : er = 0
      · subst her
        exact againq_ok w nm A c n bs mm hs hb hn hmm (by omega) (by omega) X hX
      · have hz : X = zeroR := by
          have h := decR_err (s := nm) (b := bs) (by rw [hX]; exact her)
          rw [hX] at h
          exact h
        subst hz
        exact againq_err w nm A c n bs mm hs hb hn hmm (by omega) (by omega) er hX her
end Go.Proofs.YtcalffencobcaaaDoor
