import Derived.Test.YtcalffencobcaaaDoorQU
import Derived.Deep.RegionHeld3
namespace Go.Proofs.YtcalffencobcaaaDoor
open Go.RowKit

theorem q_tk_hid {w w' : World} {base c : Nat} {A : Option Addr} {bs : List UInt8} (h : Hid (TK w base A c bs)) (hb : Hid (Below w.heap.size w w')) : Hid (TK w' base A c bs) := h.out.below hb.out
theorem q_tk_base {w : World} {base base' c : Nat} {A : Option Addr} {bs : List UInt8} (h : Hid (TK w base A c bs)) (hb : base ≤ base') : Hid (TK w base' A c bs) :=
  ⟨h.out.1, h.out.2.1, fun hn => by obtain ⟨b, o, e, h1, h2, h3⟩ := h.out.2.2 hn; exact ⟨b, o, e, h1, h2.imp (fun x => by omega) id, h3⟩⟩
theorem q_box_a {w : World} {g : Nat} {t : TypeId} {cs : Array Value} (h : Hid (Box w g t cs)) (o : Obj) : Hid (Box (w.alloc o) g t cs) := box_below h.out (bel1 w o)
theorem greatq_x (w : World) (r : Rq) (A : Option Addr) (c l : Nat) (g : Bool) (hX : Hid (greatQ r = g)) (hr : Hid r.Ok) (hl : r.modes.length = l) (hm : l ≤ maxLen) :
    Calls Tryd.prog 13 #[.agg #[.int .i64 r.kind, .string r.text, .string r.value, .string r.lang, .int .u32 r.cols, .int .u32 r.rows, .int .u32 r.width, .int .u32 r.height, .slice A l c, .bool r.on, .int .u32 r.code]] w fun e w' => e = .returned (.bool g) ∧ Hid (Below w.heap.size w w') := by
  subst hl
  refine (greatq_any r A c w hr.out hm).mono ?_
  rw [hX.out]
  exact fun e w' h => h
theorem sameq_x (w : World) (X : Rq) (A A2 : Option Addr) (c c2 lx : Nat) (hl : X.modes.length = lx) (hx : Hid (Lies w w.heap.size A (bv X.modes))) (hy : Hid (Lies w w.heap.size A2 (bv X.modes))) (hm : lx ≤ maxLen) :
    Calls Tryd.prog 11 #[.agg #[.int .i64 X.kind, .string X.text, .string X.value, .string X.lang, .int .u32 X.cols, .int .u32 X.rows, .int .u32 X.width, .int .u32 X.height, .slice A lx c, .bool X.on, .int .u32 X.code], .agg #[.int .i64 X.kind, .string X.text, .string X.value, .string X.lang, .int .u32 X.cols, .int .u32 X.rows, .int .u32 X.width, .int .u32 X.height, .slice A2 lx c2, .bool X.on, .int .u32 X.code]] w fun e w' => e = .returned (.bool true) ∧ Hid (Below w.heap.size w w') := by
  subst hl
  exact (same_q X A A2 c c2 _ _ w hx.out hy.out (Nat.le_refl _) (Nat.le_refl _) hm)
theorem ownq_x (w : World) (k : Rw) (r X : Rq) (A : Option Addr) (c l lx base : Nat) (hk : Hid (r.kind = k.kind)) (hX : Hid (k.own r = X)) (hl : r.modes.length = l) (hm : X.modes.length = lx) (hd : Hid (TK w base A c r.modes)) :
    Calls Tryd.prog 16 #[.agg #[.int .i64 r.kind, .string r.text, .string r.value, .string r.lang, .int .u32 r.cols, .int .u32 r.rows, .int .u32 r.width, .int .u32 r.height, .slice A l c, .bool r.on, .int .u32 r.code]] w fun e w' => ∃ A2 c2, e = .returned (.agg #[.int .i64 X.kind, .string X.text, .string X.value, .string X.lang, .int .u32 X.cols, .int .u32 X.rows, .int .u32 X.width, .int .u32 X.height, .slice A2 lx c2, .bool X.on, .int .u32 X.code]) ∧ Hid (Below w.heap.size w w') ∧ Hid (TK w' base A2 c2 X.modes) := by
  have h := ownq_any k r A c l lx base w hk.out hl (by rw [hX.out]; exact hm) hd
  rw [hX.out] at h
  exact h

set_option maxHeartbeats 4000000 in
set_option maxRecDepth 100000 in
theorem backq_any (w : World) (r : Rq) (A : Option Addr) (c l : Nat) (mm : Int) (hr : r.Ok) (hl : r.modes.length = l) (hd : TK w w.heap.size A c r.modes) (hmm : w.cell? ⟨0, 0, none⟩ = some (.int .i64 mm)) :
    Calls Tryd.prog 4 #[.agg #[.int .i64 r.kind, .string r.text, .string r.value, .string r.lang, .int .u32 r.cols, .int .u32 r.rows, .int .u32 r.width, .int .u32 r.height, .slice A l c, .bool r.on, .int .u32 r.code]] w fun e w' => e = .returned (.bool true) ∧ Below w.heap.size w w' := by
  have hpos : 0 < w.heap.size := World.block_lt_of_cell? w _ hmm
  have hlm : l ≤ maxLen := by have := hd.1; have := hd.2.1; omega
  have HR := hid hr
  have HD := hid hd
  have HMM := hid hmm
  have HL := hid hl
  clear hr hd hmm hl
  obtain ⟨gb, HG⟩ : ∃ g, Hid (greatQ r = g) := ⟨_, hid rfl⟩
  obtain ⟨⟨er, nm, bs⟩, HE⟩ : ∃ x, Hid (encR r = x) := ⟨_, hid rfl⟩
  obtain ⟨k, HK⟩ : ∃ k, Hid (bs.length = k) := ⟨_, hid rfl⟩
  have hk1 := HR.out.kind.1
  have hk2 := HR.out.kind.2
  cases gb with
  | true =>
    go_enter Tryd.func4, Tryd.ntmps4
    go_wp2_with (first
      | (go_at_call 8
         refine (aliveq_any _ mm (q_below HMM (bel1 w _) hpos).out).mono ?_
         rintro e w1 ⟨rfl, hb⟩
         have hx : Box w1 w.heap.size 28 #[.int .i64 r.kind, .string r.text, .string r.value, .string r.lang, .int .u32 r.cols, .int .u32 r.rows, .int .u32 r.width, .int .u32 r.height, .slice A l c, .bool r.on, .int .u32 r.code] := box_below (Box.new w 28 _) hb
         have p0 : w1.cell? ⟨w.heap.size, 0, none⟩ = some (.int .i64 r.kind) := hx.cell 0
         have p1 : w1.cell? ⟨w.heap.size, 1, none⟩ = some (.string r.text) := hx.cell 1
         have p2 : w1.cell? ⟨w.heap.size, 2, none⟩ = some (.string r.value) := hx.cell 2
         have p3 : w1.cell? ⟨w.heap.size, 3, none⟩ = some (.string r.lang) := hx.cell 3
         have p4 : w1.cell? ⟨w.heap.size, 4, none⟩ = some (.int .u32 r.cols) := hx.cell 4
         have p5 : w1.cell? ⟨w.heap.size, 5, none⟩ = some (.int .u32 r.rows) := hx.cell 5
         have p6 : w1.cell? ⟨w.heap.size, 6, none⟩ = some (.int .u32 r.width) := hx.cell 6
         have p7 : w1.cell? ⟨w.heap.size, 7, none⟩ = some (.int .u32 r.height) := hx.cell 7
         have p8 : w1.cell? ⟨w.heap.size, 8, none⟩ = some (.slice A l c) := hx.cell 8
         have p9 : w1.cell? ⟨w.heap.size, 9, none⟩ = some (.bool r.on) := hx.cell 9
         have p10 : w1.cell? ⟨w.heap.size, 10, none⟩ = some (.int .u32 r.code) := hx.cell 10
         have HB1 : Hid (Below w.heap.size w w1) := (bel1 w _).trans (hb.mono (by simp))
         clear hx hb)
      | (go_at_call 13
         ((with_reducible refine (greatq_x w1 r A c l true HG HR HL.out hlm).mono ?_); rintro e w2 ⟨rfl, HB2⟩)))
    go_ret
    exact ⟨rfl, HB1.out.trans (HB2.out.mono HB1.out.size)⟩
  | false =>
    by_cases her : er = 0
    · subst her
      have hbm := backq_math HR.out (by rw [HE.out])
      rw [HE.out] at hbm
      simp only at hbm
      obtain ⟨kk, hrk, hnm, hdec, hle⟩ := hbm
      rw [← hnm] at hdec
      obtain ⟨X, HX⟩ : ∃ X, Hid (kk.own r = X) := ⟨_, hid rfl⟩
      rw [HX.out] at hdec
      have HDC := hid hdec
      have HRK := hid (rowK_some hrk).symm
      have HNV : Hid (nameV r.kind = (nm, true)) := hid (by rw [nameV_some hrk, hnm])
      have hsz : nm.size ≤ maxLen := by rw [hnm]; unfold maxLen; cases kk <;> decide
      have hnq : (nm.toList == nm.toList) = true := by simp
      obtain ⟨lx, HLX⟩ : ∃ lx, Hid (X.modes.length = lx) := ⟨_, hid rfl⟩
      clear hdec hle hrk hnm
      go_enter Tryd.func4, Tryd.ntmps4
      go_wp2_with (first
        | (go_at_call 8
           refine (aliveq_any _ mm (q_below HMM (bel1 w _) hpos).out).mono ?_
           rintro e w1 ⟨rfl, hb⟩
           have hx : Box w1 w.heap.size 28 #[.int .i64 r.kind, .string r.text, .string r.value, .string r.lang, .int .u32 r.cols, .int .u32 r.rows, .int .u32 r.width, .int .u32 r.height, .slice A l c, .bool r.on, .int .u32 r.code] := box_below (Box.new w 28 _) hb
           have p0 : w1.cell? ⟨w.heap.size, 0, none⟩ = some (.int .i64 r.kind) := hx.cell 0
           have p1 : w1.cell? ⟨w.heap.size, 1, none⟩ = some (.string r.text) := hx.cell 1
           have p2 : w1.cell? ⟨w.heap.size, 2, none⟩ = some (.string r.value) := hx.cell 2
           have p3 : w1.cell? ⟨w.heap.size, 3, none⟩ = some (.string r.lang) := hx.cell 3
           have p4 : w1.cell? ⟨w.heap.size, 4, none⟩ = some (.int .u32 r.cols) := hx.cell 4
           have p5 : w1.cell? ⟨w.heap.size, 5, none⟩ = some (.int .u32 r.rows) := hx.cell 5
           have p6 : w1.cell? ⟨w.heap.size, 6, none⟩ = some (.int .u32 r.width) := hx.cell 6
           have p7 : w1.cell? ⟨w.heap.size, 7, none⟩ = some (.int .u32 r.height) := hx.cell 7
           have p8 : w1.cell? ⟨w.heap.size, 8, none⟩ = some (.slice A l c) := hx.cell 8
           have p9 : w1.cell? ⟨w.heap.size, 9, none⟩ = some (.bool r.on) := hx.cell 9
           have p10 : w1.cell? ⟨w.heap.size, 10, none⟩ = some (.int .u32 r.code) := hx.cell 10
           have HX1 := hid hx
           have HB1 : Hid (Below w.heap.size w w1) := (bel1 w _).trans (hb.mono (by simp))
           clear hx hb)
        | (go_at_call 13
           ((with_reducible refine (greatq_x w1 r A c l false HG HR HL.out hlm).mono ?_); rintro e w2 ⟨rfl, HB2⟩)
           have HX2 := q_box_p HX1 HB2
           have q0 : w2.cell? ⟨w.heap.size, 0, none⟩ = some (.int .i64 r.kind) := HX2.out.cell 0
           have q1 : w2.cell? ⟨w.heap.size, 1, none⟩ = some (.string r.text) := HX2.out.cell 1
           have q2 : w2.cell? ⟨w.heap.size, 2, none⟩ = some (.string r.value) := HX2.out.cell 2
           have q3 : w2.cell? ⟨w.heap.size, 3, none⟩ = some (.string r.lang) := HX2.out.cell 3
           have q4 : w2.cell? ⟨w.heap.size, 4, none⟩ = some (.int .u32 r.cols) := HX2.out.cell 4
           have q5 : w2.cell? ⟨w.heap.size, 5, none⟩ = some (.int .u32 r.rows) := HX2.out.cell 5
           have q6 : w2.cell? ⟨w.heap.size, 6, none⟩ = some (.int .u32 r.width) := HX2.out.cell 6
           have q7 : w2.cell? ⟨w.heap.size, 7, none⟩ = some (.int .u32 r.height) := HX2.out.cell 7
           have q8 : w2.cell? ⟨w.heap.size, 8, none⟩ = some (.slice A l c) := HX2.out.cell 8
           have q9 : w2.cell? ⟨w.heap.size, 9, none⟩ = some (.bool r.on) := HX2.out.cell 9
           have q10 : w2.cell? ⟨w.heap.size, 10, none⟩ = some (.int .u32 r.code) := HX2.out.cell 10
           have HD2 := q_tk_base (q_tk_hid HD (bel_trans HB1 HB2)) (bel_trans HB1 HB2).out.size)
        | (go_at_call 14
           ((with_reducible refine (encodeq_x w2 r A 0 0 l k c nm bs HE HR HD2 HL.out HK.out).mono ?_); rintro e w3 ⟨A1, c1, rfl, HO3, HB3⟩)
           have HX3 := q_box_p HX2 HB3)
        | (go_at_call 9
           have hsl : Hid (SlB w3 w3.heap.size A1 c1 bs) := by have h := HO3.out; rw [← HK.out] at h; exact own_slb (n := 0) h
           ((with_reducible refine (decodeq_x w3 nm A1 c1 k lx bs mm 0 X HDC hsz HK.out HLX.out hsl (q_below HMM (bel_trans (bel_trans HB1 HB2) HB3) hpos)).mono ?_); rintro e w4 ⟨A2, c2, rfl, HO4, HB4⟩)
           have HX4 := q_box_p HX3 HB4
           have z0 : ∀ o, (w4.alloc o).cell? ⟨w.heap.size, 0, none⟩ = some (.int .i64 r.kind) := fun o => (q_box_a HX4 o).out.cell 0)
        | (go_at_call 15
           ((with_reducible refine (name_x r.kind nm true _ HNV hk1 hk2).mono ?_); rintro e w5 ⟨rfl, HB5'⟩)
           have HY5 := q_box_p (hid (Box.new w4 28 #[.int .i64 X.kind, .string X.text, .string X.value, .string X.lang, .int .u32 X.cols, .int .u32 X.rows, .int .u32 X.width, .int .u32 X.height, .slice A2 lx c2, .bool X.on, .int .u32 X.code])) HB5'
           have HX5 := q_box_p (q_box_a HX4 (.cells #[.int .i64 X.kind, .string X.text, .string X.value, .string X.lang, .int .u32 X.cols, .int .u32 X.rows, .int .u32 X.width, .int .u32 X.height, .slice A2 lx c2, .bool X.on, .int .u32 X.code] 28)) HB5'
           have HB5 : Hid (Below w4.heap.size w4 w5) := hid ((bel1 w4 _).trans (HB5'.out.mono (by simp)))))
      have hlx : lx ≤ maxLen := by have h := own_caps HO4.out; omega
      have HT5 : Hid (TK w5.drew w5.heap.size A c r.modes) := hid (q_tk_base (q_tk_hid HD (bel_trans (bel_trans (bel_trans HB1 HB2) (bel_trans HB3 HB4)) HB5)) (bel_trans (bel_trans (bel_trans HB1 HB2) (bel_trans HB3 HB4)) HB5).out.size).out
      have HS5 : w5.cell? ⟨w.heap.size, 0, none⟩ = some (.int .i64 r.kind) ∧ w5.cell? ⟨w.heap.size, 1, none⟩ = some (.string r.text) ∧ w5.cell? ⟨w.heap.size, 2, none⟩ = some (.string r.value) ∧ w5.cell? ⟨w.heap.size, 3, none⟩ = some (.string r.lang) ∧ w5.cell? ⟨w.heap.size, 4, none⟩ = some (.int .u32 r.cols) ∧ w5.cell? ⟨w.heap.size, 5, none⟩ = some (.int .u32 r.rows) ∧ w5.cell? ⟨w.heap.size, 6, none⟩ = some (.int .u32 r.width) ∧ w5.cell? ⟨w.heap.size, 7, none⟩ = some (.int .u32 r.height) ∧ w5.cell? ⟨w.heap.size, 8, none⟩ = some (.slice A l c) ∧ w5.cell? ⟨w.heap.size, 9, none⟩ = some (.bool r.on) ∧ w5.cell? ⟨w.heap.size, 10, none⟩ = some (.int .u32 r.code) ∧ w5.cell? ⟨w4.heap.size, 0, none⟩ = some (.int .i64 X.kind) ∧ w5.cell? ⟨w4.heap.size, 1, none⟩ = some (.string X.text) ∧ w5.cell? ⟨w4.heap.size, 2, none⟩ = some (.string X.value) ∧ w5.cell? ⟨w4.heap.size, 3, none⟩ = some (.string X.lang) ∧ w5.cell? ⟨w4.heap.size, 4, none⟩ = some (.int .u32 X.cols) ∧ w5.cell? ⟨w4.heap.size, 5, none⟩ = some (.int .u32 X.rows) ∧ w5.cell? ⟨w4.heap.size, 6, none⟩ = some (.int .u32 X.width) ∧ w5.cell? ⟨w4.heap.size, 7, none⟩ = some (.int .u32 X.height) ∧ w5.cell? ⟨w4.heap.size, 8, none⟩ = some (.slice A2 lx c2) ∧ w5.cell? ⟨w4.heap.size, 9, none⟩ = some (.bool X.on) ∧ w5.cell? ⟨w4.heap.size, 10, none⟩ = some (.int .u32 X.code) := ⟨HX5.out.cell 0, HX5.out.cell 1, HX5.out.cell 2, HX5.out.cell 3, HX5.out.cell 4, HX5.out.cell 5, HX5.out.cell 6, HX5.out.cell 7, HX5.out.cell 8, HX5.out.cell 9, HX5.out.cell 10, HY5.out.cell 0, HY5.out.cell 1, HY5.out.cell 2, HY5.out.cell 3, HY5.out.cell 4, HY5.out.cell 5, HY5.out.cell 6, HY5.out.cell 7, HY5.out.cell 8, HY5.out.cell 9, HY5.out.cell 10⟩
      go_region_held3 (fun u => u.cell? ⟨w.heap.size, 0, none⟩ = some (.int .i64 r.kind) ∧ u.cell? ⟨w.heap.size, 1, none⟩ = some (.string r.text) ∧ u.cell? ⟨w.heap.size, 2, none⟩ = some (.string r.value) ∧ u.cell? ⟨w.heap.size, 3, none⟩ = some (.string r.lang) ∧ u.cell? ⟨w.heap.size, 4, none⟩ = some (.int .u32 r.cols) ∧ u.cell? ⟨w.heap.size, 5, none⟩ = some (.int .u32 r.rows) ∧ u.cell? ⟨w.heap.size, 6, none⟩ = some (.int .u32 r.width) ∧ u.cell? ⟨w.heap.size, 7, none⟩ = some (.int .u32 r.height) ∧ u.cell? ⟨w.heap.size, 8, none⟩ = some (.slice A l c) ∧ u.cell? ⟨w.heap.size, 9, none⟩ = some (.bool r.on) ∧ u.cell? ⟨w.heap.size, 10, none⟩ = some (.int .u32 r.code) ∧ u.cell? ⟨w4.heap.size, 0, none⟩ = some (.int .i64 X.kind) ∧ u.cell? ⟨w4.heap.size, 1, none⟩ = some (.string X.text) ∧ u.cell? ⟨w4.heap.size, 2, none⟩ = some (.string X.value) ∧ u.cell? ⟨w4.heap.size, 3, none⟩ = some (.string X.lang) ∧ u.cell? ⟨w4.heap.size, 4, none⟩ = some (.int .u32 X.cols) ∧ u.cell? ⟨w4.heap.size, 5, none⟩ = some (.int .u32 X.rows) ∧ u.cell? ⟨w4.heap.size, 6, none⟩ = some (.int .u32 X.width) ∧ u.cell? ⟨w4.heap.size, 7, none⟩ = some (.int .u32 X.height) ∧ u.cell? ⟨w4.heap.size, 8, none⟩ = some (.slice A2 lx c2) ∧ u.cell? ⟨w4.heap.size, 9, none⟩ = some (.bool X.on) ∧ u.cell? ⟨w4.heap.size, 10, none⟩ = some (.int .u32 X.code)) (first | exact HS5 | exact HS6 | exact HS7) ((first
        | (go_at_call 16
           ((with_reducible refine (ownq_x w5.drew kk r X A c l lx w5.heap.size HRK HX HL.out HLX.out HT5).mono ?_); rintro e w6 ⟨A3, c3, rfl, HB6', HT6⟩)
           have HB6 : Hid (Below w5.heap.size w5 w6) := hid ⟨HB6'.out.os, HB6'.out.tape, HB6'.out.output, HB6'.out.size, HB6'.out.block⟩
           have HY6 := q_box_p HY5 HB6
           have HX6 := q_box_p HX5 HB6
           have HS6 : w6.cell? ⟨w.heap.size, 0, none⟩ = some (.int .i64 r.kind) ∧ w6.cell? ⟨w.heap.size, 1, none⟩ = some (.string r.text) ∧ w6.cell? ⟨w.heap.size, 2, none⟩ = some (.string r.value) ∧ w6.cell? ⟨w.heap.size, 3, none⟩ = some (.string r.lang) ∧ w6.cell? ⟨w.heap.size, 4, none⟩ = some (.int .u32 r.cols) ∧ w6.cell? ⟨w.heap.size, 5, none⟩ = some (.int .u32 r.rows) ∧ w6.cell? ⟨w.heap.size, 6, none⟩ = some (.int .u32 r.width) ∧ w6.cell? ⟨w.heap.size, 7, none⟩ = some (.int .u32 r.height) ∧ w6.cell? ⟨w.heap.size, 8, none⟩ = some (.slice A l c) ∧ w6.cell? ⟨w.heap.size, 9, none⟩ = some (.bool r.on) ∧ w6.cell? ⟨w.heap.size, 10, none⟩ = some (.int .u32 r.code) ∧ w6.cell? ⟨w4.heap.size, 0, none⟩ = some (.int .i64 X.kind) ∧ w6.cell? ⟨w4.heap.size, 1, none⟩ = some (.string X.text) ∧ w6.cell? ⟨w4.heap.size, 2, none⟩ = some (.string X.value) ∧ w6.cell? ⟨w4.heap.size, 3, none⟩ = some (.string X.lang) ∧ w6.cell? ⟨w4.heap.size, 4, none⟩ = some (.int .u32 X.cols) ∧ w6.cell? ⟨w4.heap.size, 5, none⟩ = some (.int .u32 X.rows) ∧ w6.cell? ⟨w4.heap.size, 6, none⟩ = some (.int .u32 X.width) ∧ w6.cell? ⟨w4.heap.size, 7, none⟩ = some (.int .u32 X.height) ∧ w6.cell? ⟨w4.heap.size, 8, none⟩ = some (.slice A2 lx c2) ∧ w6.cell? ⟨w4.heap.size, 9, none⟩ = some (.bool X.on) ∧ w6.cell? ⟨w4.heap.size, 10, none⟩ = some (.int .u32 X.code) := ⟨HX6.out.cell 0, HX6.out.cell 1, HX6.out.cell 2, HX6.out.cell 3, HX6.out.cell 4, HX6.out.cell 5, HX6.out.cell 6, HX6.out.cell 7, HX6.out.cell 8, HX6.out.cell 9, HX6.out.cell 10, HY6.out.cell 0, HY6.out.cell 1, HY6.out.cell 2, HY6.out.cell 3, HY6.out.cell 4, HY6.out.cell 5, HY6.out.cell 6, HY6.out.cell 7, HY6.out.cell 8, HY6.out.cell 9, HY6.out.cell 10⟩
           have hL6 : Hid (Lies w6 w6.heap.size A2 (bv X.modes)) := Lies.own (own_keep HO4.out (bel_trans HB5 HB6).out))
        | (go_at_call 11
           ((with_reducible refine (sameq_x w6 X A2 A3 c2 c3 lx HLX.out hL6 (hid HT6.out.lies) hlx).mono ?_); rintro e w7 ⟨rfl, HB7⟩)
           have HY7 := q_box_p HY6 HB7
           have HX7 := q_box_p HX6 HB7
           have HS7 : w7.cell? ⟨w.heap.size, 0, none⟩ = some (.int .i64 r.kind) ∧ w7.cell? ⟨w.heap.size, 1, none⟩ = some (.string r.text) ∧ w7.cell? ⟨w.heap.size, 2, none⟩ = some (.string r.value) ∧ w7.cell? ⟨w.heap.size, 3, none⟩ = some (.string r.lang) ∧ w7.cell? ⟨w.heap.size, 4, none⟩ = some (.int .u32 r.cols) ∧ w7.cell? ⟨w.heap.size, 5, none⟩ = some (.int .u32 r.rows) ∧ w7.cell? ⟨w.heap.size, 6, none⟩ = some (.int .u32 r.width) ∧ w7.cell? ⟨w.heap.size, 7, none⟩ = some (.int .u32 r.height) ∧ w7.cell? ⟨w.heap.size, 8, none⟩ = some (.slice A l c) ∧ w7.cell? ⟨w.heap.size, 9, none⟩ = some (.bool r.on) ∧ w7.cell? ⟨w.heap.size, 10, none⟩ = some (.int .u32 r.code) ∧ w7.cell? ⟨w4.heap.size, 0, none⟩ = some (.int .i64 X.kind) ∧ w7.cell? ⟨w4.heap.size, 1, none⟩ = some (.string X.text) ∧ w7.cell? ⟨w4.heap.size, 2, none⟩ = some (.string X.value) ∧ w7.cell? ⟨w4.heap.size, 3, none⟩ = some (.string X.lang) ∧ w7.cell? ⟨w4.heap.size, 4, none⟩ = some (.int .u32 X.cols) ∧ w7.cell? ⟨w4.heap.size, 5, none⟩ = some (.int .u32 X.rows) ∧ w7.cell? ⟨w4.heap.size, 6, none⟩ = some (.int .u32 X.width) ∧ w7.cell? ⟨w4.heap.size, 7, none⟩ = some (.int .u32 X.height) ∧ w7.cell? ⟨w4.heap.size, 8, none⟩ = some (.slice A2 lx c2) ∧ w7.cell? ⟨w4.heap.size, 9, none⟩ = some (.bool X.on) ∧ w7.cell? ⟨w4.heap.size, 10, none⟩ = some (.int .u32 X.code) := ⟨HX7.out.cell 0, HX7.out.cell 1, HX7.out.cell 2, HX7.out.cell 3, HX7.out.cell 4, HX7.out.cell 5, HX7.out.cell 6, HX7.out.cell 7, HX7.out.cell 8, HX7.out.cell 9, HX7.out.cell 10, HY7.out.cell 0, HY7.out.cell 1, HY7.out.cell 2, HY7.out.cell 3, HY7.out.cell 4, HY7.out.cell 5, HY7.out.cell 6, HY7.out.cell 7, HY7.out.cell 8, HY7.out.cell 9, HY7.out.cell 10⟩)))
      all_goals
        go_wp2
        go_ret
        exact ⟨rfl, (bel_trans (bel_trans (bel_trans (bel_trans HB1 HB2) (bel_trans HB3 HB4)) HB5) (bel_trans HB6 HB7)).out⟩
    · have hb0 : nm = ⟨#[]⟩ ∧ bs = [] := by
        have h := encR_err (r := r) (by rw [HE.out]; exact her)
        rw [HE.out] at h
        injection h with h1 h2
        exact ⟨h1, h2⟩
      obtain ⟨rfl, hbs⟩ := hb0
      have hk0 : k = 0 := by have := HK.out; rw [hbs] at this; simpa using this.symm
      subst hk0
      have hz : (er == 0) = false := by simpa using her
      clear her hbs
      go_enter Tryd.func4, Tryd.ntmps4
      go_wp2_with (first
        | (go_at_call 8
           refine (aliveq_any _ mm (q_below HMM (bel1 w _) hpos).out).mono ?_
           rintro e w1 ⟨rfl, hb⟩
           have hx : Box w1 w.heap.size 28 #[.int .i64 r.kind, .string r.text, .string r.value, .string r.lang, .int .u32 r.cols, .int .u32 r.rows, .int .u32 r.width, .int .u32 r.height, .slice A l c, .bool r.on, .int .u32 r.code] := box_below (Box.new w 28 _) hb
           have p0 : w1.cell? ⟨w.heap.size, 0, none⟩ = some (.int .i64 r.kind) := hx.cell 0
           have p1 : w1.cell? ⟨w.heap.size, 1, none⟩ = some (.string r.text) := hx.cell 1
           have p2 : w1.cell? ⟨w.heap.size, 2, none⟩ = some (.string r.value) := hx.cell 2
           have p3 : w1.cell? ⟨w.heap.size, 3, none⟩ = some (.string r.lang) := hx.cell 3
           have p4 : w1.cell? ⟨w.heap.size, 4, none⟩ = some (.int .u32 r.cols) := hx.cell 4
           have p5 : w1.cell? ⟨w.heap.size, 5, none⟩ = some (.int .u32 r.rows) := hx.cell 5
           have p6 : w1.cell? ⟨w.heap.size, 6, none⟩ = some (.int .u32 r.width) := hx.cell 6
           have p7 : w1.cell? ⟨w.heap.size, 7, none⟩ = some (.int .u32 r.height) := hx.cell 7
           have p8 : w1.cell? ⟨w.heap.size, 8, none⟩ = some (.slice A l c) := hx.cell 8
           have p9 : w1.cell? ⟨w.heap.size, 9, none⟩ = some (.bool r.on) := hx.cell 9
           have p10 : w1.cell? ⟨w.heap.size, 10, none⟩ = some (.int .u32 r.code) := hx.cell 10
           have HX1 := hid hx
           have HB1 : Hid (Below w.heap.size w w1) := (bel1 w _).trans (hb.mono (by simp))
           clear hx hb)
        | (go_at_call 13
           ((with_reducible refine (greatq_x w1 r A c l false HG HR HL.out hlm).mono ?_); rintro e w2 ⟨rfl, HB2⟩)
           have HX2 := q_box_p HX1 HB2
           have q0 : w2.cell? ⟨w.heap.size, 0, none⟩ = some (.int .i64 r.kind) := HX2.out.cell 0
           have q1 : w2.cell? ⟨w.heap.size, 1, none⟩ = some (.string r.text) := HX2.out.cell 1
           have q2 : w2.cell? ⟨w.heap.size, 2, none⟩ = some (.string r.value) := HX2.out.cell 2
           have q3 : w2.cell? ⟨w.heap.size, 3, none⟩ = some (.string r.lang) := HX2.out.cell 3
           have q4 : w2.cell? ⟨w.heap.size, 4, none⟩ = some (.int .u32 r.cols) := HX2.out.cell 4
           have q5 : w2.cell? ⟨w.heap.size, 5, none⟩ = some (.int .u32 r.rows) := HX2.out.cell 5
           have q6 : w2.cell? ⟨w.heap.size, 6, none⟩ = some (.int .u32 r.width) := HX2.out.cell 6
           have q7 : w2.cell? ⟨w.heap.size, 7, none⟩ = some (.int .u32 r.height) := HX2.out.cell 7
           have q8 : w2.cell? ⟨w.heap.size, 8, none⟩ = some (.slice A l c) := HX2.out.cell 8
           have q9 : w2.cell? ⟨w.heap.size, 9, none⟩ = some (.bool r.on) := HX2.out.cell 9
           have q10 : w2.cell? ⟨w.heap.size, 10, none⟩ = some (.int .u32 r.code) := HX2.out.cell 10
           have HD2 := q_tk_base (q_tk_hid HD (bel_trans HB1 HB2)) (bel_trans HB1 HB2).out.size)
        | (go_at_call 14
           ((with_reducible refine (encodeq_x w2 r A 0 er l 0 c ⟨#[]⟩ bs HE HR HD2 HL.out HK.out).mono ?_); rintro e w3 ⟨A1, c1, rfl, HO3, HB3⟩)))
      go_ret
      exact ⟨rfl, (bel_trans (bel_trans HB1 HB2) HB3).out⟩
end Go.Proofs.YtcalffencobcaaaDoor
