import Derived.Test.YtfcepcdgflkgnaaGreatDoorUB
namespace Go.Proofs.YtfcepcdgflkgnaaGreatDoor
open Go.RowKit

theorem rowK_some {k : Int} {x : Rw} : ∀ {l : List Rw}, rowK k l = some x → x.kind = k
  | [], h => by cases h
  | a :: r, h => by
    rw [rowK] at h
    by_cases e : a.kind = k
    · rw [if_pos e] at h
      injection h with h
      rw [← h]; exact e
    · rw [if_neg e] at h
      exact rowK_some h
theorem encode_ask (w : World) (A : Option Addr) (ch l k cn : Nat) (nm : ByteArray) (want : Bool) (data bs : List UInt8) (hX : Hid (encF (askM ch nm want data) = (0, bs))) (hm : Hid (askM ch nm want data).Ok) (hd : Hid (TK w w.heap.size A cn data)) (hl : data.length = l) (hn : bs.length = k) :
    Calls Tryz.prog 14 #[.agg #[.int .i64 98, .int .u32 ch, .int .u32 0, .int .u32 0, .int .u32 0, .int .u32 0, .string nm, .string ⟨#[]⟩, .bool want, .slice A l cn]] w fun e w' => ∃ A1 c1, e = .returned (.tuple #[.slice A1 k c1, .int .i64 0]) ∧ Hid (w'.ownsRow w.heap.size 5 1 (.slice A1 k c1) k (bv bs)) ∧ Hid (Below w.heap.size w w') :=
  encode_x w (askM ch nm want data) A 0 0 0 l k bs cn hX hm hd hl hn
theorem decode_ask (w : World) (A : Option Addr) (ch c n l : Nat) (nm : ByteArray) (want : Bool) (data b : List UInt8) (mm : Int) (hX : Hid (decF b = (0, askM ch nm want data))) (hn : b.length = n) (hl : data.length = l) (hb : Hid (SlB w w.heap.size A c b)) (hmm : Hid (w.cell? ⟨0, 0, none⟩ = some (.int .i64 mm))) :
    Calls Tryz.prog 17 #[.slice A n c] w fun e w' => ∃ A1 c1, e = .returned (.tuple #[.agg #[.int .i64 98, .int .u32 ch, .int .u32 0, .int .u32 0, .int .u32 0, .int .u32 0, .string nm, .string ⟨#[]⟩, .bool want, .slice A1 l c1], .int .i64 0]) ∧ Hid (w'.ownsRow w.heap.size 5 1 (.slice A1 l c1) l (bv data)) ∧ Hid (Below w.heap.size w w') :=
  decode_x w A c n l b mm 0 (askM ch nm want data) hX hn hl hb hmm

set_option maxHeartbeats 8000000 in
set_option maxRecDepth 100000 in
theorem ask_any (w : World) (r : Rq) (A : Option Addr) (c l ch : Nat) (want : Bool) (mm : Int) (hr : r.Ok) (hl : r.modes.length = l) (hd : TK w w.heap.size A c r.modes) (hmm : w.cell? ⟨0, 0, none⟩ = some (.int .i64 mm)) (hch : ch < 4294967296) :
    Calls Tryz.prog 4 #[.agg #[.int .i64 r.kind, .string r.text, .string r.value, .string r.lang, .int .u32 r.cols, .int .u32 r.rows, .int .u32 r.width, .int .u32 r.height, .slice A l c, .bool r.on, .int .u32 r.code], .int .u32 ch, .bool want] w fun e w' => e = .returned (.bool true) ∧ Below w.heap.size w w' := by
  have hpos : 0 < w.heap.size := World.block_lt_of_cell? w _ hmm
  have hlm : l ≤ maxLen := by have := hd.1; have := hd.2.1; omega
  have HR := hid hr
  have HD := hid hd
  have HMM := hid hmm
  have HL := hid hl
  clear hr hd hmm hl
  obtain ⟨gb, HG⟩ : ∃ g, Hid (greatQ r = g) := ⟨_, hid rfl⟩
  obtain ⟨⟨er, nm, bs⟩, HE⟩ : ∃ x, Hid (encR r = x) := ⟨_, hid rfl⟩
  obtain ⟨k, HK⟩ : ∃ k, Hid (bs.length = k) := ⟨_, hid rfl⟩
  cases gb with
  | true =>
    go_enter Tryz.func4, Tryz.ntmps4
    go_wp2_with (first
      | (go_at_call 13
         ((with_reducible refine (shaken_any _).mono ?_); rintro e w1 ⟨rfl, HBs⟩)
         have HX1 : Hid (Box w1 w.heap.size 27 #[.int .i64 r.kind, .string r.text, .string r.value, .string r.lang, .int .u32 r.cols, .int .u32 r.rows, .int .u32 r.width, .int .u32 r.height, .slice A l c, .bool r.on, .int .u32 r.code]) := hid (box_below (Box.new w 27 _) HBs.out)
         have p0 : w1.cell? ⟨w.heap.size, 0, none⟩ = some (.int .i64 r.kind) := HX1.out.cell 0
         have p1 : w1.cell? ⟨w.heap.size, 1, none⟩ = some (.string r.text) := HX1.out.cell 1
         have p2 : w1.cell? ⟨w.heap.size, 2, none⟩ = some (.string r.value) := HX1.out.cell 2
         have p3 : w1.cell? ⟨w.heap.size, 3, none⟩ = some (.string r.lang) := HX1.out.cell 3
         have p4 : w1.cell? ⟨w.heap.size, 4, none⟩ = some (.int .u32 r.cols) := HX1.out.cell 4
         have p5 : w1.cell? ⟨w.heap.size, 5, none⟩ = some (.int .u32 r.rows) := HX1.out.cell 5
         have p6 : w1.cell? ⟨w.heap.size, 6, none⟩ = some (.int .u32 r.width) := HX1.out.cell 6
         have p7 : w1.cell? ⟨w.heap.size, 7, none⟩ = some (.int .u32 r.height) := HX1.out.cell 7
         have p8 : w1.cell? ⟨w.heap.size, 8, none⟩ = some (.slice A l c) := HX1.out.cell 8
         have p9 : w1.cell? ⟨w.heap.size, 9, none⟩ = some (.bool r.on) := HX1.out.cell 9
         have p10 : w1.cell? ⟨w.heap.size, 10, none⟩ = some (.int .u32 r.code) := HX1.out.cell 10
         have HB1 : Hid (Below w.heap.size w w1) := (bel1 w _).trans (HBs.out.mono (by simp)))
      | (go_at_call 6
         ((with_reducible refine (greatq_x w1 r A c l true HG HR HL.out hlm).mono ?_); rintro e w2 ⟨rfl, HB2⟩)))
    go_ret
    exact ⟨rfl, HB1.out.trans (HB2.out.mono HB1.out.size)⟩
  | false =>
    by_cases her : er = 0
    · subst her
      have hbm := backq_math HR.out (by rw [HE.out])
      have hbk := encR_small (r := r) (by rw [HE.out])
      rw [HE.out] at hbm hbk
      simp only at hbm hbk
      rw [HK.out] at hbk
      obtain ⟨kk, hrk, hnm, hdec, hle⟩ := hbm
      obtain ⟨X, HX⟩ : ∃ X, Hid (kk.own r = X) := ⟨_, hid rfl⟩
      rw [← hnm, HX.out] at hdec
      have HDC := hid hdec
      have HRK := hid (rowK_some hrk).symm
      have hsz : nm.size ≤ maxLen := by rw [hnm]; unfold maxLen; cases kk <;> decide
      obtain ⟨lx, HLX⟩ : ∃ lx, Hid (X.modes.length = lx) := ⟨_, hid rfl⟩
      have hen := askM_enc ch kk want bs (by rw [HK.out]; exact hbk)
      have hmok := askM_ok ch kk want bs hch
      have hbb := back_math hmok hen
      rw [← hnm] at hen hmok hbb
      obtain ⟨⟨e2, pb⟩, HPE⟩ : ∃ x, Hid (encF (askM ch nm want bs) = x) := ⟨_, hid rfl⟩
      rw [HPE.out] at hen hbb
      simp only at hen hbb
      subst hen
      obtain ⟨hbb1, hbb2, hbb3⟩ := hbb
      rw [askM_own] at hbb1
      obtain ⟨pn, HPN⟩ : ∃ x, Hid (pb.length = x) := ⟨_, hid rfl⟩
      have hpn : 1 ≤ pn ∧ pn ≤ 33792 := by
        obtain ⟨z, hz⟩ := hbb3
        rw [← HPN.out]
        refine ⟨?_, hbb2⟩
        rw [hz]
        simp
      have HPU : Hid (putF pb = (0, four pn ++ pb)) := by show _ = _; rw [← HPN.out]; exact putF_ok (by rw [HPN.out]; exact hpn)
      have HFE : Hid (feedX false ([] ++ (four pn ++ pb)) = ([pb], [], 0)) := by show _ = _; rw [← HPN.out]; exact feed_put (by rw [HPN.out]; exact hpn)
      have HQN : Hid ((four pn ++ pb).length = 4 + pn) := by show _ = _; rw [List.length_append, four_len, HPN.out]
      have HMD : Hid (decF pb = (0, askM ch nm want bs)) := hbb1
      have HMO : Hid (askM ch nm want bs).Ok := hmok
      have HBS : Hid ((askM ch nm want bs).data.length = k) := HK
      obtain ⟨q, HQ⟩ : ∃ q, Hid (four pn ++ pb = q) := ⟨_, hid rfl⟩
      rw [HQ.out] at HPU HFE HQN
      clear hdec hle hrk hnm hbb1 hbb2 hbb3 hmok
      go_enter Tryz.func4, Tryz.ntmps4
      go_wp2_with (first
        | (go_at_call 13
           ((with_reducible refine (shaken_any _).mono ?_); rintro e w1 ⟨rfl, HBs⟩)
           have HX1 : Hid (Box w1 w.heap.size 27 #[.int .i64 r.kind, .string r.text, .string r.value, .string r.lang, .int .u32 r.cols, .int .u32 r.rows, .int .u32 r.width, .int .u32 r.height, .slice A l c, .bool r.on, .int .u32 r.code]) := hid (box_below (Box.new w 27 _) HBs.out)
           have p0 : w1.cell? ⟨w.heap.size, 0, none⟩ = some (.int .i64 r.kind) := HX1.out.cell 0
           have p1 : w1.cell? ⟨w.heap.size, 1, none⟩ = some (.string r.text) := HX1.out.cell 1
           have p2 : w1.cell? ⟨w.heap.size, 2, none⟩ = some (.string r.value) := HX1.out.cell 2
           have p3 : w1.cell? ⟨w.heap.size, 3, none⟩ = some (.string r.lang) := HX1.out.cell 3
           have p4 : w1.cell? ⟨w.heap.size, 4, none⟩ = some (.int .u32 r.cols) := HX1.out.cell 4
           have p5 : w1.cell? ⟨w.heap.size, 5, none⟩ = some (.int .u32 r.rows) := HX1.out.cell 5
           have p6 : w1.cell? ⟨w.heap.size, 6, none⟩ = some (.int .u32 r.width) := HX1.out.cell 6
           have p7 : w1.cell? ⟨w.heap.size, 7, none⟩ = some (.int .u32 r.height) := HX1.out.cell 7
           have p8 : w1.cell? ⟨w.heap.size, 8, none⟩ = some (.slice A l c) := HX1.out.cell 8
           have p9 : w1.cell? ⟨w.heap.size, 9, none⟩ = some (.bool r.on) := HX1.out.cell 9
           have p10 : w1.cell? ⟨w.heap.size, 10, none⟩ = some (.int .u32 r.code) := HX1.out.cell 10
           have HB1 : Hid (Below w.heap.size w w1) := (bel1 w _).trans (HBs.out.mono (by simp)))
        | (go_at_call 6
           ((with_reducible refine (greatq_x w1 r A c l false HG HR HL.out hlm).mono ?_); rintro e w2 ⟨rfl, HB2⟩)
           have HX2 := q_box_p HX1 HB2
           have q0 : w2.cell? ⟨w.heap.size, 0, none⟩ = some (.int .i64 r.kind) := HX2.out.cell 0
           have q1 : w2.cell? ⟨w.heap.size, 1, none⟩ = some (.string r.text) := HX2.out.cell 1
           have q2 : w2.cell? ⟨w.heap.size, 2, none⟩ = some (.string r.value) := HX2.out.cell 2
           have q3 : w2.cell? ⟨w.heap.size, 3, none⟩ = some (.string r.lang) := HX2.out.cell 3
           have q4 : w2.cell? ⟨w.heap.size, 4, none⟩ = some (.int .u32 r.cols) := HX2.out.cell 4
           have q5 : w2.cell? ⟨w.heap.size, 5, none⟩ = some (.int .u32 r.rows) := HX2.out.cell 5
           have q6 : w2.cell? ⟨w.heap.size, 6, none⟩ = some (.int .u32 r.width) := HX2.out.cell 6
           have q7 : w2.cell? ⟨w.heap.size, 7, none⟩ = some (.int .u32 r.height) := HX2.out.cell 7
           have q8 : w2.cell? ⟨w.heap.size, 8, none⟩ = some (.slice A l c) := HX2.out.cell 8
           have q9 : w2.cell? ⟨w.heap.size, 9, none⟩ = some (.bool r.on) := HX2.out.cell 9
           have q10 : w2.cell? ⟨w.heap.size, 10, none⟩ = some (.int .u32 r.code) := HX2.out.cell 10
           have HD2 := q_tk_base (q_tk_hid HD (bel_trans HB1 HB2)) (bel_trans HB1 HB2).out.size)
        | (go_at_call 7
           ((with_reducible refine (encodeq_x w2 r A 0 0 l k c nm bs HE HR HD2 HL.out HK.out).mono ?_); rintro e w3 ⟨A1, c1, rfl, HO3, HB3⟩)
           have HX3 := q_box_p HX2 HB3
           have HT3 : Hid (TK w3 w3.heap.size A1 c1 bs) := by have h := HO3.out; rw [← HK.out] at h; exact tk_own h)
        | (go_at_call 14
           ((with_reducible refine (encode_ask w3 A1 ch k pn c1 nm want bs pb HPE HMO HT3 HK.out HPN.out).mono ?_); rintro e w4 ⟨A2, c2, rfl, HO4, HB4⟩)
           have HS4 : Hid (SlB w4 w4.heap.size A2 c2 pb) := by have h := HO4.out; rw [← HPN.out] at h; exact own_slb (n := 0) h)
        | (go_at_call 15
           ((with_reducible refine (put_x w4 A2 c2 pn (4 + pn) pb q HPU HPN.out HQN.out HS4 (by unfold maxLen; omega)).mono ?_); rintro e w5 ⟨A3, c3, rfl, HO5, HB5⟩)
           have HS5 : Hid (SlB w5 w5.heap.size A3 c3 q) := by have h := HO5.out; rw [← HQN.out] at h; exact own_slb (n := 0) h)
        | (go_at_call 16
           ((with_reducible refine (feed_one w5 A3 c3 (4 + pn) pn q pb HFE HQN.out HPN.out HS5 (by omega)).mono ?_); rintro e w6 ⟨A4, c4, gl, lc, rfl, A5, c5, HC6, HS6, HB6⟩)
           have cl : ∀ o, (w6.alloc o).cell? ⟨gl, 0, none⟩ = some (.slice A5 pn c5) := fun o => ((bel1 w6 o).cell (p := ⟨gl, 0, none⟩) (World.block_lt_of_cell? w6 _ HC6.out)).trans HC6.out
           have HX6 := q_box_p HX3 (bel_trans (bel_trans HB4 HB5) HB6)
           have HBw6 := bel_trans (bel_trans (bel_trans HB1 HB2) HB3) (bel_trans (bel_trans HB4 HB5) HB6)
           have HS6' : ∀ o, Hid (SlB (w6.alloc o) (w6.alloc o).heap.size A5 c5 pb) := fun o => slb_at HS6 (hid (bel1 w6 o))
           have HM6 : ∀ o, Hid ((w6.alloc o).cell? ⟨0, 0, none⟩ = some (.int .i64 mm)) := fun o => q_below HMM (hid (HBw6.out.trans ((bel1 w6 o).mono HBw6.out.size))) hpos)
        | (go_at_call 17
           ((with_reducible refine (decode_ask _ A5 ch c5 pn k nm want bs pb mm HMD HPN.out HK.out (HS6' _) (HM6 _)).mono ?_); rintro e w7 ⟨A7, c7, rfl, HO7, HB7⟩)
           have HB67 : Hid (Below w6.heap.size w6 w7) := (bel1 w6 _).trans (HB7.out.mono (by simp))
           have HBw7 := bel_trans HBw6 HB67
           have HX7 := q_box_p HX6 HB67
           have HS7 : Hid (SlB w7 w7.heap.size A7 c7 bs) := by have h := HO7.out; rw [← HK.out] at h; exact own_slb (n := 0) h
           have HS7' : ∀ o, Hid (SlB (w7.alloc o) (w7.alloc o).heap.size A7 c7 bs) := fun o => slb_at HS7 (hid (bel1 w7 o))
           have HM7 : ∀ o, Hid ((w7.alloc o).cell? ⟨0, 0, none⟩ = some (.int .i64 mm)) := fun o => q_below HMM (hid (HBw7.out.trans ((bel1 w7 o).mono HBw7.out.size))) hpos)
        | (go_at_call 18
           ((with_reducible refine (decodeq_x _ nm A7 c7 k lx bs mm 0 X HDC hsz HK.out HLX.out (HS7' _) (HM7 _)).mono ?_); rintro e w8 ⟨A8, c8, rfl, HO8, HB8⟩)))
      have HB78 : Hid (Below w7.heap.size w7 w8) := (bel1 w7 _).trans (HB8.out.mono (by simp))
      have HBw8 := bel_trans HBw7 HB78
      have HZ8 : Hid (Box w8 w7.heap.size 42 #[.int .i64 98, .int .u32 ch, .int .u32 0, .int .u32 0, .int .u32 0, .int .u32 0, .string nm, .string ⟨#[]⟩, .bool want, .slice A7 k c7]) := hid (box_below (Box.new w7 42 _) HB8.out)
      have HX8 := q_box_a (q_box_p HX7 HB78) (.cells #[.int .i64 X.kind, .string X.text, .string X.value, .string X.lang, .int .u32 X.cols, .int .u32 X.rows, .int .u32 X.width, .int .u32 X.height, .slice A8 lx c8, .bool X.on, .int .u32 X.code] 27)
      have HZ8' := q_box_a HZ8 (.cells #[.int .i64 X.kind, .string X.text, .string X.value, .string X.lang, .int .u32 X.cols, .int .u32 X.rows, .int .u32 X.width, .int .u32 X.height, .slice A8 lx c8, .bool X.on, .int .u32 X.code] 27)
      have HY8 : Hid (Box (w8.alloc (.cells #[.int .i64 X.kind, .string X.text, .string X.value, .string X.lang, .int .u32 X.cols, .int .u32 X.rows, .int .u32 X.width, .int .u32 X.height, .slice A8 lx c8, .bool X.on, .int .u32 X.code] 27)) w8.heap.size 27 #[.int .i64 X.kind, .string X.text, .string X.value, .string X.lang, .int .u32 X.cols, .int .u32 X.rows, .int .u32 X.width, .int .u32 X.height, .slice A8 lx c8, .bool X.on, .int .u32 X.code]) := hid (Box.new w8 27 _)
      have hlx : lx ≤ maxLen := by have h := own_caps HO8.out; omega
      have HBw9 : Hid (Below w.heap.size w (w8.alloc (.cells #[.int .i64 X.kind, .string X.text, .string X.value, .string X.lang, .int .u32 X.cols, .int .u32 X.rows, .int .u32 X.width, .int .u32 X.height, .slice A8 lx c8, .bool X.on, .int .u32 X.code] 27))) := hid (HBw8.out.trans ((bel1 w8 _).mono HBw8.out.size))
      have HT9 : Hid (TK (w8.alloc (.cells #[.int .i64 X.kind, .string X.text, .string X.value, .string X.lang, .int .u32 X.cols, .int .u32 X.rows, .int .u32 X.width, .int .u32 X.height, .slice A8 lx c8, .bool X.on, .int .u32 X.code] 27)).drew (w8.alloc (.cells #[.int .i64 X.kind, .string X.text, .string X.value, .string X.lang, .int .u32 X.cols, .int .u32 X.rows, .int .u32 X.width, .int .u32 X.height, .slice A8 lx c8, .bool X.on, .int .u32 X.code] 27)).heap.size A c r.modes) := hid (q_tk_base (q_tk_hid HD HBw9) HBw9.out.size).out
      have HS9 : (w8.alloc (.cells #[.int .i64 X.kind, .string X.text, .string X.value, .string X.lang, .int .u32 X.cols, .int .u32 X.rows, .int .u32 X.width, .int .u32 X.height, .slice A8 lx c8, .bool X.on, .int .u32 X.code] 27)).cell? ⟨w.heap.size, 0, none⟩ = some (.int .i64 r.kind) ∧ (w8.alloc (.cells #[.int .i64 X.kind, .string X.text, .string X.value, .string X.lang, .int .u32 X.cols, .int .u32 X.rows, .int .u32 X.width, .int .u32 X.height, .slice A8 lx c8, .bool X.on, .int .u32 X.code] 27)).cell? ⟨w.heap.size, 1, none⟩ = some (.string r.text) ∧ (w8.alloc (.cells #[.int .i64 X.kind, .string X.text, .string X.value, .string X.lang, .int .u32 X.cols, .int .u32 X.rows, .int .u32 X.width, .int .u32 X.height, .slice A8 lx c8, .bool X.on, .int .u32 X.code] 27)).cell? ⟨w.heap.size, 2, none⟩ = some (.string r.value) ∧ (w8.alloc (.cells #[.int .i64 X.kind, .string X.text, .string X.value, .string X.lang, .int .u32 X.cols, .int .u32 X.rows, .int .u32 X.width, .int .u32 X.height, .slice A8 lx c8, .bool X.on, .int .u32 X.code] 27)).cell? ⟨w.heap.size, 3, none⟩ = some (.string r.lang) ∧ (w8.alloc (.cells #[.int .i64 X.kind, .string X.text, .string X.value, .string X.lang, .int .u32 X.cols, .int .u32 X.rows, .int .u32 X.width, .int .u32 X.height, .slice A8 lx c8, .bool X.on, .int .u32 X.code] 27)).cell? ⟨w.heap.size, 4, none⟩ = some (.int .u32 r.cols) ∧ (w8.alloc (.cells #[.int .i64 X.kind, .string X.text, .string X.value, .string X.lang, .int .u32 X.cols, .int .u32 X.rows, .int .u32 X.width, .int .u32 X.height, .slice A8 lx c8, .bool X.on, .int .u32 X.code] 27)).cell? ⟨w.heap.size, 5, none⟩ = some (.int .u32 r.rows) ∧ (w8.alloc (.cells #[.int .i64 X.kind, .string X.text, .string X.value, .string X.lang, .int .u32 X.cols, .int .u32 X.rows, .int .u32 X.width, .int .u32 X.height, .slice A8 lx c8, .bool X.on, .int .u32 X.code] 27)).cell? ⟨w.heap.size, 6, none⟩ = some (.int .u32 r.width) ∧ (w8.alloc (.cells #[.int .i64 X.kind, .string X.text, .string X.value, .string X.lang, .int .u32 X.cols, .int .u32 X.rows, .int .u32 X.width, .int .u32 X.height, .slice A8 lx c8, .bool X.on, .int .u32 X.code] 27)).cell? ⟨w.heap.size, 7, none⟩ = some (.int .u32 r.height) ∧ (w8.alloc (.cells #[.int .i64 X.kind, .string X.text, .string X.value, .string X.lang, .int .u32 X.cols, .int .u32 X.rows, .int .u32 X.width, .int .u32 X.height, .slice A8 lx c8, .bool X.on, .int .u32 X.code] 27)).cell? ⟨w.heap.size, 8, none⟩ = some (.slice A l c) ∧ (w8.alloc (.cells #[.int .i64 X.kind, .string X.text, .string X.value, .string X.lang, .int .u32 X.cols, .int .u32 X.rows, .int .u32 X.width, .int .u32 X.height, .slice A8 lx c8, .bool X.on, .int .u32 X.code] 27)).cell? ⟨w.heap.size, 9, none⟩ = some (.bool r.on) ∧ (w8.alloc (.cells #[.int .i64 X.kind, .string X.text, .string X.value, .string X.lang, .int .u32 X.cols, .int .u32 X.rows, .int .u32 X.width, .int .u32 X.height, .slice A8 lx c8, .bool X.on, .int .u32 X.code] 27)).cell? ⟨w.heap.size, 10, none⟩ = some (.int .u32 r.code) ∧ (w8.alloc (.cells #[.int .i64 X.kind, .string X.text, .string X.value, .string X.lang, .int .u32 X.cols, .int .u32 X.rows, .int .u32 X.width, .int .u32 X.height, .slice A8 lx c8, .bool X.on, .int .u32 X.code] 27)).cell? ⟨w8.heap.size, 0, none⟩ = some (.int .i64 X.kind) ∧ (w8.alloc (.cells #[.int .i64 X.kind, .string X.text, .string X.value, .string X.lang, .int .u32 X.cols, .int .u32 X.rows, .int .u32 X.width, .int .u32 X.height, .slice A8 lx c8, .bool X.on, .int .u32 X.code] 27)).cell? ⟨w8.heap.size, 1, none⟩ = some (.string X.text) ∧ (w8.alloc (.cells #[.int .i64 X.kind, .string X.text, .string X.value, .string X.lang, .int .u32 X.cols, .int .u32 X.rows, .int .u32 X.width, .int .u32 X.height, .slice A8 lx c8, .bool X.on, .int .u32 X.code] 27)).cell? ⟨w8.heap.size, 2, none⟩ = some (.string X.value) ∧ (w8.alloc (.cells #[.int .i64 X.kind, .string X.text, .string X.value, .string X.lang, .int .u32 X.cols, .int .u32 X.rows, .int .u32 X.width, .int .u32 X.height, .slice A8 lx c8, .bool X.on, .int .u32 X.code] 27)).cell? ⟨w8.heap.size, 3, none⟩ = some (.string X.lang) ∧ (w8.alloc (.cells #[.int .i64 X.kind, .string X.text, .string X.value, .string X.lang, .int .u32 X.cols, .int .u32 X.rows, .int .u32 X.width, .int .u32 X.height, .slice A8 lx c8, .bool X.on, .int .u32 X.code] 27)).cell? ⟨w8.heap.size, 4, none⟩ = some (.int .u32 X.cols) ∧ (w8.alloc (.cells #[.int .i64 X.kind, .string X.text, .string X.value, .string X.lang, .int .u32 X.cols, .int .u32 X.rows, .int .u32 X.width, .int .u32 X.height, .slice A8 lx c8, .bool X.on, .int .u32 X.code] 27)).cell? ⟨w8.heap.size, 5, none⟩ = some (.int .u32 X.rows) ∧ (w8.alloc (.cells #[.int .i64 X.kind, .string X.text, .string X.value, .string X.lang, .int .u32 X.cols, .int .u32 X.rows, .int .u32 X.width, .int .u32 X.height, .slice A8 lx c8, .bool X.on, .int .u32 X.code] 27)).cell? ⟨w8.heap.size, 6, none⟩ = some (.int .u32 X.width) ∧ (w8.alloc (.cells #[.int .i64 X.kind, .string X.text, .string X.value, .string X.lang, .int .u32 X.cols, .int .u32 X.rows, .int .u32 X.width, .int .u32 X.height, .slice A8 lx c8, .bool X.on, .int .u32 X.code] 27)).cell? ⟨w8.heap.size, 7, none⟩ = some (.int .u32 X.height) ∧ (w8.alloc (.cells #[.int .i64 X.kind, .string X.text, .string X.value, .string X.lang, .int .u32 X.cols, .int .u32 X.rows, .int .u32 X.width, .int .u32 X.height, .slice A8 lx c8, .bool X.on, .int .u32 X.code] 27)).cell? ⟨w8.heap.size, 8, none⟩ = some (.slice A8 lx c8) ∧ (w8.alloc (.cells #[.int .i64 X.kind, .string X.text, .string X.value, .string X.lang, .int .u32 X.cols, .int .u32 X.rows, .int .u32 X.width, .int .u32 X.height, .slice A8 lx c8, .bool X.on, .int .u32 X.code] 27)).cell? ⟨w8.heap.size, 9, none⟩ = some (.bool X.on) ∧ (w8.alloc (.cells #[.int .i64 X.kind, .string X.text, .string X.value, .string X.lang, .int .u32 X.cols, .int .u32 X.rows, .int .u32 X.width, .int .u32 X.height, .slice A8 lx c8, .bool X.on, .int .u32 X.code] 27)).cell? ⟨w8.heap.size, 10, none⟩ = some (.int .u32 X.code) ∧ (w8.alloc (.cells #[.int .i64 X.kind, .string X.text, .string X.value, .string X.lang, .int .u32 X.cols, .int .u32 X.rows, .int .u32 X.width, .int .u32 X.height, .slice A8 lx c8, .bool X.on, .int .u32 X.code] 27)).cell? ⟨w7.heap.size, 0, none⟩ = some (.int .i64 98) ∧ (w8.alloc (.cells #[.int .i64 X.kind, .string X.text, .string X.value, .string X.lang, .int .u32 X.cols, .int .u32 X.rows, .int .u32 X.width, .int .u32 X.height, .slice A8 lx c8, .bool X.on, .int .u32 X.code] 27)).cell? ⟨w7.heap.size, 1, none⟩ = some (.int .u32 ch) ∧ (w8.alloc (.cells #[.int .i64 X.kind, .string X.text, .string X.value, .string X.lang, .int .u32 X.cols, .int .u32 X.rows, .int .u32 X.width, .int .u32 X.height, .slice A8 lx c8, .bool X.on, .int .u32 X.code] 27)).cell? ⟨w7.heap.size, 8, none⟩ = some (.bool want) := ⟨HX8.out.cell 0, HX8.out.cell 1, HX8.out.cell 2, HX8.out.cell 3, HX8.out.cell 4, HX8.out.cell 5, HX8.out.cell 6, HX8.out.cell 7, HX8.out.cell 8, HX8.out.cell 9, HX8.out.cell 10, HY8.out.cell 0, HY8.out.cell 1, HY8.out.cell 2, HY8.out.cell 3, HY8.out.cell 4, HY8.out.cell 5, HY8.out.cell 6, HY8.out.cell 7, HY8.out.cell 8, HY8.out.cell 9, HY8.out.cell 10, HZ8'.out.cell 0, HZ8'.out.cell 1, HZ8'.out.cell 8⟩
      go_region_held3 (fun u => u.cell? ⟨w.heap.size, 0, none⟩ = some (.int .i64 r.kind) ∧ u.cell? ⟨w.heap.size, 1, none⟩ = some (.string r.text) ∧ u.cell? ⟨w.heap.size, 2, none⟩ = some (.string r.value) ∧ u.cell? ⟨w.heap.size, 3, none⟩ = some (.string r.lang) ∧ u.cell? ⟨w.heap.size, 4, none⟩ = some (.int .u32 r.cols) ∧ u.cell? ⟨w.heap.size, 5, none⟩ = some (.int .u32 r.rows) ∧ u.cell? ⟨w.heap.size, 6, none⟩ = some (.int .u32 r.width) ∧ u.cell? ⟨w.heap.size, 7, none⟩ = some (.int .u32 r.height) ∧ u.cell? ⟨w.heap.size, 8, none⟩ = some (.slice A l c) ∧ u.cell? ⟨w.heap.size, 9, none⟩ = some (.bool r.on) ∧ u.cell? ⟨w.heap.size, 10, none⟩ = some (.int .u32 r.code) ∧ u.cell? ⟨w8.heap.size, 0, none⟩ = some (.int .i64 X.kind) ∧ u.cell? ⟨w8.heap.size, 1, none⟩ = some (.string X.text) ∧ u.cell? ⟨w8.heap.size, 2, none⟩ = some (.string X.value) ∧ u.cell? ⟨w8.heap.size, 3, none⟩ = some (.string X.lang) ∧ u.cell? ⟨w8.heap.size, 4, none⟩ = some (.int .u32 X.cols) ∧ u.cell? ⟨w8.heap.size, 5, none⟩ = some (.int .u32 X.rows) ∧ u.cell? ⟨w8.heap.size, 6, none⟩ = some (.int .u32 X.width) ∧ u.cell? ⟨w8.heap.size, 7, none⟩ = some (.int .u32 X.height) ∧ u.cell? ⟨w8.heap.size, 8, none⟩ = some (.slice A8 lx c8) ∧ u.cell? ⟨w8.heap.size, 9, none⟩ = some (.bool X.on) ∧ u.cell? ⟨w8.heap.size, 10, none⟩ = some (.int .u32 X.code) ∧ u.cell? ⟨w7.heap.size, 0, none⟩ = some (.int .i64 98) ∧ u.cell? ⟨w7.heap.size, 1, none⟩ = some (.int .u32 ch) ∧ u.cell? ⟨w7.heap.size, 8, none⟩ = some (.bool want)) (first | exact HS9 | exact HS10 | exact HS11) ((first
        | (go_at_call 19
           ((with_reducible refine (ownq_x (w8.alloc (.cells #[.int .i64 X.kind, .string X.text, .string X.value, .string X.lang, .int .u32 X.cols, .int .u32 X.rows, .int .u32 X.width, .int .u32 X.height, .slice A8 lx c8, .bool X.on, .int .u32 X.code] 27)).drew kk r X A c l lx (w8.alloc (.cells #[.int .i64 X.kind, .string X.text, .string X.value, .string X.lang, .int .u32 X.cols, .int .u32 X.rows, .int .u32 X.width, .int .u32 X.height, .slice A8 lx c8, .bool X.on, .int .u32 X.code] 27)).heap.size HRK HX HL.out HLX.out HT9).mono ?_); rintro e w10 ⟨A10, c10, rfl, HB10', HT10⟩)
           have HB10 : Hid (Below (w8.alloc (.cells #[.int .i64 X.kind, .string X.text, .string X.value, .string X.lang, .int .u32 X.cols, .int .u32 X.rows, .int .u32 X.width, .int .u32 X.height, .slice A8 lx c8, .bool X.on, .int .u32 X.code] 27)).heap.size (w8.alloc (.cells #[.int .i64 X.kind, .string X.text, .string X.value, .string X.lang, .int .u32 X.cols, .int .u32 X.rows, .int .u32 X.width, .int .u32 X.height, .slice A8 lx c8, .bool X.on, .int .u32 X.code] 27)) w10) := hid ⟨HB10'.out.os, HB10'.out.tape, HB10'.out.output, HB10'.out.size, HB10'.out.block⟩
           have HY10 := q_box_p HY8 HB10
           have HX10 := q_box_p HX8 HB10
           have HZ10 := q_box_p HZ8' HB10
           have HS10 : w10.cell? ⟨w.heap.size, 0, none⟩ = some (.int .i64 r.kind) ∧ w10.cell? ⟨w.heap.size, 1, none⟩ = some (.string r.text) ∧ w10.cell? ⟨w.heap.size, 2, none⟩ = some (.string r.value) ∧ w10.cell? ⟨w.heap.size, 3, none⟩ = some (.string r.lang) ∧ w10.cell? ⟨w.heap.size, 4, none⟩ = some (.int .u32 r.cols) ∧ w10.cell? ⟨w.heap.size, 5, none⟩ = some (.int .u32 r.rows) ∧ w10.cell? ⟨w.heap.size, 6, none⟩ = some (.int .u32 r.width) ∧ w10.cell? ⟨w.heap.size, 7, none⟩ = some (.int .u32 r.height) ∧ w10.cell? ⟨w.heap.size, 8, none⟩ = some (.slice A l c) ∧ w10.cell? ⟨w.heap.size, 9, none⟩ = some (.bool r.on) ∧ w10.cell? ⟨w.heap.size, 10, none⟩ = some (.int .u32 r.code) ∧ w10.cell? ⟨w8.heap.size, 0, none⟩ = some (.int .i64 X.kind) ∧ w10.cell? ⟨w8.heap.size, 1, none⟩ = some (.string X.text) ∧ w10.cell? ⟨w8.heap.size, 2, none⟩ = some (.string X.value) ∧ w10.cell? ⟨w8.heap.size, 3, none⟩ = some (.string X.lang) ∧ w10.cell? ⟨w8.heap.size, 4, none⟩ = some (.int .u32 X.cols) ∧ w10.cell? ⟨w8.heap.size, 5, none⟩ = some (.int .u32 X.rows) ∧ w10.cell? ⟨w8.heap.size, 6, none⟩ = some (.int .u32 X.width) ∧ w10.cell? ⟨w8.heap.size, 7, none⟩ = some (.int .u32 X.height) ∧ w10.cell? ⟨w8.heap.size, 8, none⟩ = some (.slice A8 lx c8) ∧ w10.cell? ⟨w8.heap.size, 9, none⟩ = some (.bool X.on) ∧ w10.cell? ⟨w8.heap.size, 10, none⟩ = some (.int .u32 X.code) ∧ w10.cell? ⟨w7.heap.size, 0, none⟩ = some (.int .i64 98) ∧ w10.cell? ⟨w7.heap.size, 1, none⟩ = some (.int .u32 ch) ∧ w10.cell? ⟨w7.heap.size, 8, none⟩ = some (.bool want) := ⟨HX10.out.cell 0, HX10.out.cell 1, HX10.out.cell 2, HX10.out.cell 3, HX10.out.cell 4, HX10.out.cell 5, HX10.out.cell 6, HX10.out.cell 7, HX10.out.cell 8, HX10.out.cell 9, HX10.out.cell 10, HY10.out.cell 0, HY10.out.cell 1, HY10.out.cell 2, HY10.out.cell 3, HY10.out.cell 4, HY10.out.cell 5, HY10.out.cell 6, HY10.out.cell 7, HY10.out.cell 8, HY10.out.cell 9, HY10.out.cell 10, HZ10.out.cell 0, HZ10.out.cell 1, HZ10.out.cell 8⟩
           have hL10 : Hid (Lies w10 w10.heap.size A8 (bv X.modes)) := Lies.own (own_keep (own_keep HO8.out (bel1 w8 _)) HB10.out))
        | (go_at_call 12
           ((with_reducible refine (sameq_x w10 X A8 A10 c8 c10 lx HLX.out hL10 (hid HT10.out.lies) hlx).mono ?_); rintro e w11 ⟨rfl, HB11⟩)
           have HY11 := q_box_p HY10 HB11
           have HX11 := q_box_p HX10 HB11
           have HZ11 := q_box_p HZ10 HB11
           have HS11 : w11.cell? ⟨w.heap.size, 0, none⟩ = some (.int .i64 r.kind) ∧ w11.cell? ⟨w.heap.size, 1, none⟩ = some (.string r.text) ∧ w11.cell? ⟨w.heap.size, 2, none⟩ = some (.string r.value) ∧ w11.cell? ⟨w.heap.size, 3, none⟩ = some (.string r.lang) ∧ w11.cell? ⟨w.heap.size, 4, none⟩ = some (.int .u32 r.cols) ∧ w11.cell? ⟨w.heap.size, 5, none⟩ = some (.int .u32 r.rows) ∧ w11.cell? ⟨w.heap.size, 6, none⟩ = some (.int .u32 r.width) ∧ w11.cell? ⟨w.heap.size, 7, none⟩ = some (.int .u32 r.height) ∧ w11.cell? ⟨w.heap.size, 8, none⟩ = some (.slice A l c) ∧ w11.cell? ⟨w.heap.size, 9, none⟩ = some (.bool r.on) ∧ w11.cell? ⟨w.heap.size, 10, none⟩ = some (.int .u32 r.code) ∧ w11.cell? ⟨w8.heap.size, 0, none⟩ = some (.int .i64 X.kind) ∧ w11.cell? ⟨w8.heap.size, 1, none⟩ = some (.string X.text) ∧ w11.cell? ⟨w8.heap.size, 2, none⟩ = some (.string X.value) ∧ w11.cell? ⟨w8.heap.size, 3, none⟩ = some (.string X.lang) ∧ w11.cell? ⟨w8.heap.size, 4, none⟩ = some (.int .u32 X.cols) ∧ w11.cell? ⟨w8.heap.size, 5, none⟩ = some (.int .u32 X.rows) ∧ w11.cell? ⟨w8.heap.size, 6, none⟩ = some (.int .u32 X.width) ∧ w11.cell? ⟨w8.heap.size, 7, none⟩ = some (.int .u32 X.height) ∧ w11.cell? ⟨w8.heap.size, 8, none⟩ = some (.slice A8 lx c8) ∧ w11.cell? ⟨w8.heap.size, 9, none⟩ = some (.bool X.on) ∧ w11.cell? ⟨w8.heap.size, 10, none⟩ = some (.int .u32 X.code) ∧ w11.cell? ⟨w7.heap.size, 0, none⟩ = some (.int .i64 98) ∧ w11.cell? ⟨w7.heap.size, 1, none⟩ = some (.int .u32 ch) ∧ w11.cell? ⟨w7.heap.size, 8, none⟩ = some (.bool want) := ⟨HX11.out.cell 0, HX11.out.cell 1, HX11.out.cell 2, HX11.out.cell 3, HX11.out.cell 4, HX11.out.cell 5, HX11.out.cell 6, HX11.out.cell 7, HX11.out.cell 8, HX11.out.cell 9, HX11.out.cell 10, HY11.out.cell 0, HY11.out.cell 1, HY11.out.cell 2, HY11.out.cell 3, HY11.out.cell 4, HY11.out.cell 5, HY11.out.cell 6, HY11.out.cell 7, HY11.out.cell 8, HY11.out.cell 9, HY11.out.cell 10, HZ11.out.cell 0, HZ11.out.cell 1, HZ11.out.cell 8⟩)))
      all_goals
        go_wp2
        go_ret
        exact ⟨rfl, (bel_trans HBw9 (bel_trans HB10 HB11)).out⟩
    · have hb0 : nm = ⟨#[]⟩ ∧ bs = [] := by
        have h := encR_err (r := r) (by rw [HE.out]; exact her)
        rw [HE.out] at h
        injection h with h1 h2
        exact ⟨h1, h2⟩
      obtain ⟨rfl, hbs⟩ := hb0
      have hk0 : k = 0 := by have := HK.out; rw [hbs] at this; simpa using this.symm
      subst hk0
      have hz : (er == 0) = false := by simpa using her
      clear her hbs
      go_enter Tryz.func4, Tryz.ntmps4
      go_wp2_with (first
        | (go_at_call 13
           ((with_reducible refine (shaken_any _).mono ?_); rintro e w1 ⟨rfl, HBs⟩)
           have HX1 : Hid (Box w1 w.heap.size 27 #[.int .i64 r.kind, .string r.text, .string r.value, .string r.lang, .int .u32 r.cols, .int .u32 r.rows, .int .u32 r.width, .int .u32 r.height, .slice A l c, .bool r.on, .int .u32 r.code]) := hid (box_below (Box.new w 27 _) HBs.out)
           have p0 : w1.cell? ⟨w.heap.size, 0, none⟩ = some (.int .i64 r.kind) := HX1.out.cell 0
           have p1 : w1.cell? ⟨w.heap.size, 1, none⟩ = some (.string r.text) := HX1.out.cell 1
           have p2 : w1.cell? ⟨w.heap.size, 2, none⟩ = some (.string r.value) := HX1.out.cell 2
           have p3 : w1.cell? ⟨w.heap.size, 3, none⟩ = some (.string r.lang) := HX1.out.cell 3
           have p4 : w1.cell? ⟨w.heap.size, 4, none⟩ = some (.int .u32 r.cols) := HX1.out.cell 4
           have p5 : w1.cell? ⟨w.heap.size, 5, none⟩ = some (.int .u32 r.rows) := HX1.out.cell 5
           have p6 : w1.cell? ⟨w.heap.size, 6, none⟩ = some (.int .u32 r.width) := HX1.out.cell 6
           have p7 : w1.cell? ⟨w.heap.size, 7, none⟩ = some (.int .u32 r.height) := HX1.out.cell 7
           have p8 : w1.cell? ⟨w.heap.size, 8, none⟩ = some (.slice A l c) := HX1.out.cell 8
           have p9 : w1.cell? ⟨w.heap.size, 9, none⟩ = some (.bool r.on) := HX1.out.cell 9
           have p10 : w1.cell? ⟨w.heap.size, 10, none⟩ = some (.int .u32 r.code) := HX1.out.cell 10
           have HB1 : Hid (Below w.heap.size w w1) := (bel1 w _).trans (HBs.out.mono (by simp)))
        | (go_at_call 6
           ((with_reducible refine (greatq_x w1 r A c l false HG HR HL.out hlm).mono ?_); rintro e w2 ⟨rfl, HB2⟩)
           have HX2 := q_box_p HX1 HB2
           have q0 : w2.cell? ⟨w.heap.size, 0, none⟩ = some (.int .i64 r.kind) := HX2.out.cell 0
           have q1 : w2.cell? ⟨w.heap.size, 1, none⟩ = some (.string r.text) := HX2.out.cell 1
           have q2 : w2.cell? ⟨w.heap.size, 2, none⟩ = some (.string r.value) := HX2.out.cell 2
           have q3 : w2.cell? ⟨w.heap.size, 3, none⟩ = some (.string r.lang) := HX2.out.cell 3
           have q4 : w2.cell? ⟨w.heap.size, 4, none⟩ = some (.int .u32 r.cols) := HX2.out.cell 4
           have q5 : w2.cell? ⟨w.heap.size, 5, none⟩ = some (.int .u32 r.rows) := HX2.out.cell 5
           have q6 : w2.cell? ⟨w.heap.size, 6, none⟩ = some (.int .u32 r.width) := HX2.out.cell 6
           have q7 : w2.cell? ⟨w.heap.size, 7, none⟩ = some (.int .u32 r.height) := HX2.out.cell 7
           have q8 : w2.cell? ⟨w.heap.size, 8, none⟩ = some (.slice A l c) := HX2.out.cell 8
           have q9 : w2.cell? ⟨w.heap.size, 9, none⟩ = some (.bool r.on) := HX2.out.cell 9
           have q10 : w2.cell? ⟨w.heap.size, 10, none⟩ = some (.int .u32 r.code) := HX2.out.cell 10
           have HD2 := q_tk_base (q_tk_hid HD (bel_trans HB1 HB2)) (bel_trans HB1 HB2).out.size)
        | (go_at_call 7
           ((with_reducible refine (encodeq_x w2 r A 0 er l 0 c ⟨#[]⟩ bs HE HR HD2 HL.out HK.out).mono ?_); rintro e w3 ⟨A1, c1, rfl, HO3, HB3⟩)))
      go_ret
      exact ⟨rfl, (bel_trans (bel_trans HB1 HB2) HB3).out⟩
end Go.Proofs.YtfcepcdgflkgnaaGreatDoor
