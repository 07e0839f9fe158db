import Derived.Test.YtcalffencobcaaaDoorQP
namespace Go.Proofs.YtcalffencobcaaaDoor
open Go.RowKit

theorem kind_inj : ∀ a b : Rw, a.kind = b.kind → a = b := by
  intro a b h
  cases a <;> cases b <;> first | rfl | (exfalso; revert h; decide)
theorem name_inj : ∀ a b : Rw, a.name = b.name → a = b := by
  intro a b h
  cases a <;> cases b <;> first | rfl | (exfalso; revert h; decide)
theorem rowK_some {k : Int} {x : Rw} : ∀ {l : List Rw}, rowK k l = some x → x.kind = k
  | [], h => by cases h
  | a :: r, h => by
    rw [rowK] at h
    by_cases e : a.kind = k
    · rw [if_pos e] at h
      injection h with h
      rw [← h]; exact e
    · rw [if_neg e] at h
      exact rowK_some h
theorem rowK_kind (x : Rw) : rowK x.kind Rw.all = some x := by cases x <;> rfl
theorem rowN_some {s : ByteArray} {x : Rw} : ∀ {l : List Rw}, rowN s l = some x → x.name = s
  | [], h => by cases h
  | a :: r, h => by
    rw [rowN] at h
    by_cases e : a.name = s
    · rw [if_pos e] at h
      injection h with h
      rw [← h]; exact e
    · rw [if_neg e] at h
      exact rowN_some h
theorem rowN_name (x : Rw) : rowN x.name Rw.all = some x := by cases x <;> kernel_rfl
theorem nameV_some {k : Int} {x : Rw} (h : rowK k Rw.all = some x) : nameV k = (x.name, true) := by rw [nameV, h]
theorem nameV_none {k : Int} (h : rowK k Rw.all = none) : nameV k = (⟨#[]⟩, false) := by rw [nameV, h]
theorem decR_none {s : ByteArray} (h : rowN s Rw.all = none) (b : List UInt8) : decR s b = (8, zeroR) := by rw [decR, h]
theorem rowN_s (x : Rw) : rowN (x.name ++ ⟨#[115]⟩) Rw.all = none := by cases x <;> kernel_rfl
theorem rowN_e : rowN ⟨#[]⟩ Rw.all = none := by kernel_rfl
theorem name_size (x : Rw) : (x.name ++ ⟨#[115]⟩ : ByteArray).size ≤ maxLen := by unfold maxLen; cases x <;> decide
theorem decodeq_no (w : World) (nm : ByteArray) (A : Option Addr) (c n : Nat) (b : List UInt8) (mm : Int) (hX : Hid (rowN nm Rw.all = none)) (hs : nm.size ≤ maxLen) (hn : b.length = n) (hb : Hid (SlB w w.heap.size A c b)) (hmm : Hid (w.cell? ⟨0, 0, none⟩ = some (.int .i64 mm))) :
    Calls Tryd.prog 9 #[.string nm, .slice A n c] w fun e w' => ∃ A1 c1, e = .returned (.tuple #[.agg #[.int .i64 0, .string ⟨#[]⟩, .string ⟨#[]⟩, .string ⟨#[]⟩, .int .u32 0, .int .u32 0, .int .u32 0, .int .u32 0, .slice A1 0 c1, .bool false, .int .u32 0], .int .i64 8]) ∧ Hid (Below w.heap.size w w') := by
  refine (decodeq_x w nm A c n 0 b mm 8 zeroR (decR_none hX.out b) hs hn rfl hb hmm).mono ?_
  rintro e w' ⟨A1, c1, rfl, _, hb2⟩
  exact ⟨A1, c1, rfl, hb2⟩

set_option maxHeartbeats 2000000 in
set_option maxRecDepth 100000 in
theorem kindsq_great (w : World) (a b : Int) (A : Option Addr) (c n : Nat) (bs : List UInt8) (mm : Int) (ha1 : -9223372036854775808 ≤ a) (ha2 : a ≤ 9223372036854775807) (hb1 : -9223372036854775808 ≤ b) (hb2 : b ≤ 9223372036854775807) (hb : SlB w w.heap.size A c bs) (hn : bs.length = n) (hmm : w.cell? ⟨0, 0, none⟩ = some (.int .i64 mm)) (h1000 : 1000 < n) :
    Calls Tryd.prog 6 #[.int .i64 a, .int .i64 b, .slice A n c] w fun e w' => e = .returned (.bool true) ∧ Below w.heap.size w w' := by
  have HSB := hid hb
  have HMM := hid hmm
  have HN := hid hn
  have hpos : 0 < w.heap.size := World.block_lt_of_cell? w _ hmm
  clear hb hmm hn
  go_enter Tryd.func6, Tryd.ntmps6
  go_wp2_with (first
    | (go_at_call 8
       refine (aliveq_any _ mm HMM.out).mono ?_
       rintro e w1 ⟨rfl, hb1⟩
       have HB1 := hid hb1
       clear hb1))
  go_ret
  exact ⟨rfl, HB1.out⟩
set_option maxHeartbeats 2000000 in
set_option maxRecDepth 100000 in
theorem kindsq_nn (w : World) (a b : Int) (A : Option Addr) (c n : Nat) (bs : List UInt8) (mm : Int) (ha1 : -9223372036854775808 ≤ a) (ha2 : a ≤ 9223372036854775807) (hb1 : -9223372036854775808 ≤ b) (hb2 : b ≤ 9223372036854775807) (hb : SlB w w.heap.size A c bs) (hn : bs.length = n) (hmm : w.cell? ⟨0, 0, none⟩ = some (.int .i64 mm)) (h1000 : n ≤ 1000) (h1 : rowK a Rw.all = none) (h2 : rowK b Rw.all = none) :
    Calls Tryd.prog 6 #[.int .i64 a, .int .i64 b, .slice A n c] w fun e w' => e = .returned (.bool true) ∧ Below w.heap.size w w' := by
  have HSB := hid hb
  have HMM := hid hmm
  have HN := hid hn
  have hpos : 0 < w.heap.size := World.block_lt_of_cell? w _ hmm
  clear hb hmm hn
  have HX1 := hid (nameV_none h1)
  have HX2 := hid (nameV_none h2)
  clear h1 h2
  go_enter Tryd.func6, Tryd.ntmps6
  go_wp2_with (first
    | (go_at_call 8
       refine (aliveq_any _ mm HMM.out).mono ?_
       rintro e w1 ⟨rfl, hb1⟩
       have HB1 := hid hb1
       clear hb1)
    | (go_at_call 15
       ((with_reducible refine (name_x a _ _ _ HX1 ha1 ha2).mono ?_); rintro e w2 ⟨rfl, HB2⟩))
    | (go_at_call 15
       ((with_reducible refine (name_x b _ _ _ HX2 hb1 hb2).mono ?_); rintro e w3 ⟨rfl, HB3⟩)))
  go_ret
  exact ⟨rfl, (bel_trans (bel_trans HB1 HB2) HB3).out⟩
set_option maxHeartbeats 2000000 in
set_option maxRecDepth 100000 in
theorem kindsq_ns (k : Rw) (w : World) (a b : Int) (A : Option Addr) (c n : Nat) (bs : List UInt8) (mm : Int) (ha1 : -9223372036854775808 ≤ a) (ha2 : a ≤ 9223372036854775807) (hb1 : -9223372036854775808 ≤ b) (hb2 : b ≤ 9223372036854775807) (hb : SlB w w.heap.size A c bs) (hn : bs.length = n) (hmm : w.cell? ⟨0, 0, none⟩ = some (.int .i64 mm)) (h1000 : n ≤ 1000) (h1 : rowK a Rw.all = none) (h2 : rowK b Rw.all = some k) :
    Calls Tryd.prog 6 #[.int .i64 a, .int .i64 b, .slice A n c] w fun e w' => e = .returned (.bool true) ∧ Below w.heap.size w w' := by
  have HSB := hid hb
  have HMM := hid hmm
  have HN := hid hn
  have hpos : 0 < w.heap.size := World.block_lt_of_cell? w _ hmm
  clear hb hmm hn
  have HX1 := hid (nameV_none h1)
  have HX2 := hid (nameV_some h2)
  clear h1 h2
  go_enter Tryd.func6, Tryd.ntmps6
  go_wp2_with (first
    | (go_at_call 8
       refine (aliveq_any _ mm HMM.out).mono ?_
       rintro e w1 ⟨rfl, hb1⟩
       have HB1 := hid hb1
       clear hb1)
    | (go_at_call 15
       ((with_reducible refine (name_x a _ _ _ HX1 ha1 ha2).mono ?_); rintro e w2 ⟨rfl, HB2⟩))
    | (go_at_call 15
       ((with_reducible refine (name_x b _ _ _ HX2 hb1 hb2).mono ?_); rintro e w3 ⟨rfl, HB3⟩)))
  go_ret
  exact ⟨rfl, (bel_trans (bel_trans HB1 HB2) HB3).out⟩
set_option maxHeartbeats 2000000 in
set_option maxRecDepth 100000 in
theorem kindsq_sn (k : Rw) (w : World) (a b : Int) (A : Option Addr) (c n : Nat) (bs : List UInt8) (mm : Int) (ha1 : -9223372036854775808 ≤ a) (ha2 : a ≤ 9223372036854775807) (hb1 : -9223372036854775808 ≤ b) (hb2 : b ≤ 9223372036854775807) (hb : SlB w w.heap.size A c bs) (hn : bs.length = n) (hmm : w.cell? ⟨0, 0, none⟩ = some (.int .i64 mm)) (h1000 : n ≤ 1000) (h1 : rowK a Rw.all = some k) (h2 : rowK b Rw.all = none) :
    Calls Tryd.prog 6 #[.int .i64 a, .int .i64 b, .slice A n c] w fun e w' => e = .returned (.bool true) ∧ Below w.heap.size w w' := by
  have HSB := hid hb
  have HMM := hid hmm
  have HN := hid hn
  have hpos : 0 < w.heap.size := World.block_lt_of_cell? w _ hmm
  clear hb hmm hn
  have HX1 := hid (nameV_some h1)
  have HX2 := hid (nameV_none h2)
  clear h1 h2
  go_enter Tryd.func6, Tryd.ntmps6
  go_wp2_with (first
    | (go_at_call 8
       refine (aliveq_any _ mm HMM.out).mono ?_
       rintro e w1 ⟨rfl, hb1⟩
       have HB1 := hid hb1
       clear hb1)
    | (go_at_call 15
       ((with_reducible refine (name_x a _ _ _ HX1 ha1 ha2).mono ?_); rintro e w2 ⟨rfl, HB2⟩))
    | (go_at_call 15
       ((with_reducible refine (name_x b _ _ _ HX2 hb1 hb2).mono ?_); rintro e w3 ⟨rfl, HB3⟩)))
  go_ret
  exact ⟨rfl, (bel_trans (bel_trans HB1 HB2) HB3).out⟩
set_option maxHeartbeats 2000000 in
set_option maxRecDepth 100000 in
theorem kindsq_ne (k k2 : Rw) (w : World) (a b : Int) (A : Option Addr) (c n : Nat) (bs : List UInt8) (mm : Int) (ha1 : -9223372036854775808 ≤ a) (ha2 : a ≤ 9223372036854775807) (hb1 : -9223372036854775808 ≤ b) (hb2 : b ≤ 9223372036854775807) (hb : SlB w w.heap.size A c bs) (hn : bs.length = n) (hmm : w.cell? ⟨0, 0, none⟩ = some (.int .i64 mm)) (h1000 : n ≤ 1000) (h1 : rowK a Rw.all = some k) (h2 : rowK b Rw.all = some k2) (hne : ¬ a = b) :
    Calls Tryd.prog 6 #[.int .i64 a, .int .i64 b, .slice A n c] w fun e w' => e = .returned (.bool true) ∧ Below w.heap.size w w' := by
  have HSB := hid hb
  have HMM := hid hmm
  have HN := hid hn
  have hpos : 0 < w.heap.size := World.block_lt_of_cell? w _ hmm
  clear hb hmm hn
  have hq : ¬ k.name = k2.name := fun e => hne (by rw [← rowK_some h1, ← rowK_some h2, name_inj _ _ e])
  have hq1 := toL_ne hq
  have hq2 : (a == b) = false := by simpa using hne
  clear hq hne
  have HX1 := hid (nameV_some h1)
  have HX2 := hid (nameV_some h2)
  have HRS := hid (rowN_s k)
  have HRE := hid rowN_e
  have hsz : k.name.size ≤ 20 := by cases k <;> decide
  clear h1 h2
  go_enter Tryd.func6, Tryd.ntmps6
  go_wp2_with (first
    | (go_at_call 8
       refine (aliveq_any _ mm HMM.out).mono ?_
       rintro e w1 ⟨rfl, hb1⟩
       have HB1 := hid hb1
       clear hb1)
    | (go_at_call 15
       ((with_reducible refine (name_x a _ _ _ HX1 ha1 ha2).mono ?_); rintro e w2 ⟨rfl, HB2⟩))
    | (go_at_call 15
       ((with_reducible refine (name_x b _ _ _ HX2 hb1 hb2).mono ?_); rintro e w3 ⟨rfl, HB3⟩))
    | (go_at_call 9
       have hS3 := slb_at HSB (bel_trans (bel_trans HB1 HB2) HB3)
       have hM3 := q_below HMM (bel_trans (bel_trans HB1 HB2) HB3) hpos
       ((with_reducible refine (decodeq_no _ _ A c n bs mm HRS (name_size k) HN.out hS3 hM3).mono ?_); rintro e w4 ⟨A4, c4, rfl, HB4⟩))
    | (go_at_call 9
       have hS4 := slb_at HSB (bel_trans (bel_trans (bel_trans (bel_trans HB1 HB2) HB3) HB4) (hid (bel1 w4 (.cells #[.int .i64 0, .string ⟨#[]⟩, .string ⟨#[]⟩, .string ⟨#[]⟩, .int .u32 0, .int .u32 0, .int .u32 0, .int .u32 0, .slice A4 0 c4, .bool false, .int .u32 0] 28))))
       have hM4 := q_below HMM (bel_trans (bel_trans (bel_trans (bel_trans HB1 HB2) HB3) HB4) (hid (bel1 w4 (.cells #[.int .i64 0, .string ⟨#[]⟩, .string ⟨#[]⟩, .string ⟨#[]⟩, .int .u32 0, .int .u32 0, .int .u32 0, .int .u32 0, .slice A4 0 c4, .bool false, .int .u32 0] 28)))) hpos
       ((with_reducible refine (decodeq_no _ _ A c n bs mm HRE (Nat.zero_le _) HN.out hS4 hM4).mono ?_); rintro e w5 ⟨A5, c5, rfl, HB5⟩)
       have HB6 := bel_trans (bel_trans (bel_trans (bel_trans (bel_trans HB1 HB2) HB3) HB4) (hid (bel1 w4 _))) HB5))
  go_ret
  exact ⟨rfl, HB6.out.alloc HB6.out.size _⟩
set_option maxHeartbeats 2000000 in
set_option maxRecDepth 100000 in
theorem kindsq_eq (k : Rw) (w : World) (a : Int) (A : Option Addr) (c n : Nat) (bs : List UInt8) (mm : Int) (ha1 : -9223372036854775808 ≤ a) (ha2 : a ≤ 9223372036854775807) (hb : SlB w w.heap.size A c bs) (hn : bs.length = n) (hmm : w.cell? ⟨0, 0, none⟩ = some (.int .i64 mm)) (h1000 : n ≤ 1000) (h1 : rowK a Rw.all = some k)  :
    Calls Tryd.prog 6 #[.int .i64 a, .int .i64 a, .slice A n c] w fun e w' => e = .returned (.bool true) ∧ Below w.heap.size w w' := by
  have HSB := hid hb
  have HMM := hid hmm
  have HN := hid hn
  have hpos : 0 < w.heap.size := World.block_lt_of_cell? w _ hmm
  clear hb hmm hn
  have HX1 := hid (nameV_some h1)
  have HRS := hid (rowN_s k)
  have HRE := hid rowN_e
  have hsz : k.name.size ≤ 20 := by cases k <;> decide
  clear h1
  go_enter Tryd.func6, Tryd.ntmps6
  go_wp2_with (first
    | (go_at_call 8
       refine (aliveq_any _ mm HMM.out).mono ?_
       rintro e w1 ⟨rfl, hb1⟩
       have HB1 := hid hb1
       clear hb1)
    | (go_at_call 15
       have HB2' := HB2
       ((with_reducible refine (name_x a _ _ _ HX1 ha1 ha2).mono ?_); rintro e w3 ⟨rfl, HB3⟩))
    | (go_at_call 15
       ((with_reducible refine (name_x a _ _ _ HX1 ha1 ha2).mono ?_); rintro e w2 ⟨rfl, HB2⟩))
    | (go_at_call 9
       have hS3 := slb_at HSB (bel_trans (bel_trans HB1 HB2) HB3)
       have hM3 := q_below HMM (bel_trans (bel_trans HB1 HB2) HB3) hpos
       ((with_reducible refine (decodeq_no _ _ A c n bs mm HRS (name_size k) HN.out hS3 hM3).mono ?_); rintro e w4 ⟨A4, c4, rfl, HB4⟩))
    | (go_at_call 9
       have hS4 := slb_at HSB (bel_trans (bel_trans (bel_trans (bel_trans HB1 HB2) HB3) HB4) (hid (bel1 w4 (.cells #[.int .i64 0, .string ⟨#[]⟩, .string ⟨#[]⟩, .string ⟨#[]⟩, .int .u32 0, .int .u32 0, .int .u32 0, .int .u32 0, .slice A4 0 c4, .bool false, .int .u32 0] 28))))
       have hM4 := q_below HMM (bel_trans (bel_trans (bel_trans (bel_trans HB1 HB2) HB3) HB4) (hid (bel1 w4 (.cells #[.int .i64 0, .string ⟨#[]⟩, .string ⟨#[]⟩, .string ⟨#[]⟩, .int .u32 0, .int .u32 0, .int .u32 0, .int .u32 0, .slice A4 0 c4, .bool false, .int .u32 0] 28)))) hpos
       ((with_reducible refine (decodeq_no _ _ A c n bs mm HRE (Nat.zero_le _) HN.out hS4 hM4).mono ?_); rintro e w5 ⟨A5, c5, rfl, HB5⟩)
       have HB6 := bel_trans (bel_trans (bel_trans (bel_trans (bel_trans HB1 HB2) HB3) HB4) (hid (bel1 w4 _))) HB5))
  go_ret
  exact ⟨rfl, HB6.out.alloc HB6.out.size _⟩
theorem kindsq_any (w : World) (a b : Int) (A : Option Addr) (c n : Nat) (bs : List UInt8) (mm : Int) (ha1 : -9223372036854775808 ≤ a) (ha2 : a ≤ 9223372036854775807) (hb1 : -9223372036854775808 ≤ b) (hb2 : b ≤ 9223372036854775807) (hb : SlB w w.heap.size A c bs) (hn : bs.length = n) (hmm : w.cell? ⟨0, 0, none⟩ = some (.int .i64 mm)) :
    Calls Tryd.prog 6 #[.int .i64 a, .int .i64 b, .slice A n c] w fun e w' => e = .returned (.bool true) ∧ Below w.heap.size w w' := by
  by_cases h1000 : 1000 < n
  · exact kindsq_great w a b A c n bs mm ha1 ha2 hb1 hb2 hb hn hmm h1000
  · have h1000 : n ≤ 1000 := by omega
    cases h1 : rowK a Rw.all with
    | none =>
      cases h2 : rowK b Rw.all with
      | none => exact kindsq_nn w a b A c n bs mm ha1 ha2 hb1 hb2 hb hn hmm h1000 h1 h2
      | some k => exact kindsq_ns k w a b A c n bs mm ha1 ha2 hb1 hb2 hb hn hmm h1000 h1 h2
    | some k =>
      cases h2 : rowK b Rw.all with
      | none => exact kindsq_sn k w a b A c n bs mm ha1 ha2 hb1 hb2 hb hn hmm h1000 h1 h2
      | some k2 =>
        by_cases hne : a = b
        · subst hne
          exact kindsq_eq k w a A c n bs mm ha1 ha2 hb hn hmm h1000 h1
        · exact kindsq_ne k k2 w a b A c n bs mm ha1 ha2 hb1 hb2 hb hn hmm h1000 h1 h2 hne
end Go.Proofs.YtcalffencobcaaaDoor
