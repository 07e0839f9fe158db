import Derived.Test.YtlmdbcmaophhnaaDoorMM
namespace Go.Proofs.YtlmdbcmaophhnaaDoor
open Go.RowKit

theorem tk_own {w : World} {b0 n c : Nat} {A : Option Addr} {bs : List UInt8} (hn : bs.length = n) (h : w.ownsRow b0 5 1 (.slice A n c) n (bv bs)) : TK w w.heap.size A c bs := by
  have hc := own_caps h
  exact TK.of_low (by omega) hc.2 (Lies.own h) (Nat.le_refl _)
theorem bel_al {w w' : World} {o : Obj} (h : Hid (Below (w.alloc o).heap.size (w.alloc o) w')) : Hid (Below w.heap.size w w') := (bel1 w o).trans (h.out.mono (by simp))
theorem slb_len {w : World} {B c n : Nat} {A : Option Addr} {bs : List UInt8} (h : Hid (SlB w B A c bs)) (hn : Hid (bs.length = n)) : n ≤ c ∧ c ≤ maxLen := by
  have h1 := h.out.1
  have h2 := h.out.2.1
  have h3 := hn.out
  exact ⟨by omega, h2⟩

theorem decode_z (w : World) (A : Option Addr) (c n : Nat) (b : List UInt8) (mm er : Int) (hX : Hid (decF b = (er, zeroM))) (hn : b.length = n) (hb : Hid (SlB w w.heap.size A c b)) (hmm : Hid (w.cell? ⟨0, 0, none⟩ = some (.int .i64 mm))) :
    Calls Tryd.prog 15 #[.slice A n c] w fun e w' => ∃ A1 c1, e = .returned (.tuple #[.agg #[.int .i64 0, .int .u32 0, .int .u32 0, .int .u32 0, .int .u32 0, .int .u32 0, .string ⟨#[]⟩, .string ⟨#[]⟩, .bool false, .slice A1 0 c1], .int .i64 er]) ∧ Hid (Below w.heap.size w w') := by
  refine (decode_x w A c n 0 b mm er zeroM hX hn rfl hb hmm).mono ?_
  rintro e w' ⟨A1, c1, rfl, _, hb⟩
  exact ⟨A1, c1, rfl, hb⟩
theorem same_z (w : World) (A A2 : Option Addr) (c c2 : Nat) :
    Calls Tryd.prog 14 #[.agg #[.int .i64 0, .int .u32 0, .int .u32 0, .int .u32 0, .int .u32 0, .int .u32 0, .string ⟨#[]⟩, .string ⟨#[]⟩, .bool false, .slice A 0 c], .agg #[.int .i64 0, .int .u32 0, .int .u32 0, .int .u32 0, .int .u32 0, .int .u32 0, .string ⟨#[]⟩, .string ⟨#[]⟩, .bool false, .slice A2 0 c2]] w fun e w' => e = .returned (.bool true) ∧ Hid (Below w.heap.size w w') :=
  same_x w zeroM A A2 c c2 0 rfl (hid Lies.nil_) (hid Lies.nil_) (Nat.zero_le _)

set_option maxHeartbeats 4000000 in
set_option maxRecDepth 100000 in
theorem again_any (w : World) (A : Option Addr) (c n : Nat) (b : List UInt8) (mm : Int) (hb : SlB w w.heap.size A c b) (hn : b.length = n) (hmm : w.cell? ⟨0, 0, none⟩ = some (.int .i64 mm)) :
    Calls Tryd.prog 6 #[.slice A n c] w fun e w' => e = .returned (.bool true) ∧ Below w.heap.size w w' := by
  have hpos : 0 < w.heap.size := World.block_lt_of_cell? w _ hmm
  have HB := hid hb
  have HN := hid hn
  have HMM := hid hmm
  clear hb hn hmm
  have hcm := (slb_len HB HN).2
  have hnc := (slb_len HB HN).1
  unfold maxLen at hcm
  by_cases hbig : 33792 < n
  · go_enter Tryd.func6, Tryd.ntmps6
    go_wp2_with (
      go_at_call 8
      refine (alive_any _ mm HMM.out).mono ?_
      rintro e w1 ⟨rfl, hb1⟩)
    go_ret
    exact ⟨rfl, hb1⟩
  · have hle : b.length ≤ 33792 := by have := HN.out; omega
    obtain ⟨⟨er, m⟩, HDC⟩ : ∃ x, Hid (decF b = x) := ⟨_, hid rfl⟩
    by_cases her : er = 0
    · subst her
      have hag := again_math hle (by rw [HDC.out])
      rw [HDC.out] at hag
      simp only at hag
      obtain ⟨hmo, hz, hlen, ⟨b0, r, r2, hbs, hcs⟩, hown⟩ := hag
      have hbm := back_math hmo hz
      obtain ⟨⟨er2, cs⟩, HE⟩ : ∃ x, Hid (encF m = x) := ⟨_, hid rfl⟩
      rw [HE.out] at hz hlen hcs hbm
      simp only at hz hlen hcs hbm
      subst hz
      have HMO := hid hmo
      have HOWN := hid hown
      have HD2 : Hid (decF cs = (0, m)) := by show _ = _; rw [hbm.1, hown]
      have HK : Hid (cs.length = n) := by show _ = _; rw [hlen]; exact HN.out
      obtain ⟨l, HL⟩ : ∃ l, Hid (m.data.length = l) := ⟨_, hid rfl⟩
      have HBS := hid hbs
      have HCS := hid hcs
      obtain ⟨bk, bo, rfl, hbk, hbc⟩ := HB.out.2.2.2 (by rw [HBS.out]; simp [bv])
      have HB0 : Hid (w.cell? ⟨bk, bo, none⟩ = some (.int .u8 b0.toNat)) := hid (hbc 0 _ (by rw [HBS.out]; rfl))
      have hn0 : 0 < n := by have := HN.out; rw [HBS.out] at this; simp at this; omega
      clear hmo hown hbs hcs hlen hbm hbc
      go_enter Tryd.func6, Tryd.ntmps6
      go_wp2_with (first
        | (go_at_call 8
           refine (alive_any _ mm HMM.out).mono ?_
           rintro e w1 ⟨rfl, hb1⟩
           have HB1 := hid hb1
           clear hb1)
        | (go_at_call 15
           ((with_reducible refine (decode_x w1 _ c n l b mm 0 m HDC HN.out HL.out (slb_at HB HB1) (hm_below HMM HB1 hpos)).mono ?_); rintro e w2 ⟨A1, c1, rfl, HO2, HB2⟩)
           have HX2 : Hid (Box (w2.alloc (.cells #[.int .i64 m.kind, .int .u32 m.chan, .int .u32 m.sender, .int .u32 m.window, .int .u32 m.packet, .int .u32 m.code, .string m.name, .string m.lang, .bool m.want, .slice A1 l c1] 25)) w2.heap.size 25 #[.int .i64 m.kind, .int .u32 m.chan, .int .u32 m.sender, .int .u32 m.window, .int .u32 m.packet, .int .u32 m.code, .string m.name, .string m.lang, .bool m.want, .slice A1 l c1]) := hid (Box.new w2 25 _))
        | (go_at_call 11
           ((with_reducible refine (encode_x _ m A1 0 0 0 l n cs c1 HE HMO (hid (tk_own HL.out (own_keep HO2.out (bel1 w2 _)))) HL.out HK.out).mono ?_); rintro e w3 ⟨A4, c4, rfl, HO3, HB3⟩)
           have HX3 := box_p HX2 HB3)
        | (go_at_call 15
           have hsl : Hid (SlB w3 w3.heap.size A4 c4 cs) := by have h := HO3.out; rw [← HK.out] at h; exact own_slb (n := 0) h
           have HBB : Hid (Below w2.heap.size w2 w3) := bel_al HB3
           ((with_reducible refine (decode_x w3 A4 c4 n l cs mm 0 m HD2 HK.out HL.out hsl (hm_below HMM (bel_trans (bel_trans HB1 HB2) HBB) hpos)).mono ?_); rintro e w4 ⟨A2, c2, rfl, HO4, HB4⟩)
           have HX4 := box_p HX3 HB4))
      have hlm : l ≤ maxLen := by have h := own_caps HO4.out; omega
      have hn4 : (0 : Int) < (n : Int) := by omega
      obtain ⟨ck, co, rfl, hck, hcc⟩ := Lies.own HO3.out (by rw [HCS.out]; simp [bv])
      have hc0 : w3.cell? ⟨ck, co, none⟩ = some (.int .u8 b0.toNat) := hcc 0 _ (by rw [HCS.out]; rfl)
      have hc4 := (HB4.out.cell (p := ⟨ck, co, none⟩) hck).trans hc0
      have hck4 : ck < w4.heap.size := Nat.lt_of_lt_of_le hck HB4.out.size
      have hb4 := ((bel_trans (bel_trans HB1 HB2) (bel_trans HBB HB4)).out.cell (p := ⟨bk, bo, none⟩) hbk).trans HB0.out
      have hbk4 : bk < w4.heap.size := Nat.lt_of_lt_of_le hbk (bel_trans (bel_trans HB1 HB2) (bel_trans HBB HB4)).out.size
      clear hcc hc0
      have HY5 : Hid (Box (w4.alloc (.cells #[.int .i64 m.kind, .int .u32 m.chan, .int .u32 m.sender, .int .u32 m.window, .int .u32 m.packet, .int .u32 m.code, .string m.name, .string m.lang, .bool m.want, .slice A2 l c2] 25)) w4.heap.size 25 #[.int .i64 m.kind, .int .u32 m.chan, .int .u32 m.sender, .int .u32 m.window, .int .u32 m.packet, .int .u32 m.code, .string m.name, .string m.lang, .bool m.want, .slice A2 l c2]) := hid (Box.new w4 25 _)
      have HX5 := box_a HX4 (.cells #[.int .i64 m.kind, .int .u32 m.chan, .int .u32 m.sender, .int .u32 m.window, .int .u32 m.packet, .int .u32 m.code, .string m.name, .string m.lang, .bool m.want, .slice A2 l c2] 25)
      have HB5 : Hid (Below w4.heap.size w4 (w4.alloc (.cells #[.int .i64 m.kind, .int .u32 m.chan, .int .u32 m.sender, .int .u32 m.window, .int .u32 m.packet, .int .u32 m.code, .string m.name, .string m.lang, .bool m.want, .slice A2 l c2] 25))) := bel1 w4 _
      generalize hW : w4.alloc _ = w5 at HY5 HX5 HB5
      have HW := hid hW
      have hb5 := (HB5.out.cell (p := ⟨bk, bo, none⟩) hbk4).trans hb4
      have hc5 := (HB5.out.cell (p := ⟨ck, co, none⟩) hck4).trans hc4
      have hbk5 : bk < w5.heap.size := Nat.lt_of_lt_of_le hbk4 HB5.out.size
      have hck5 : ck < w5.heap.size := Nat.lt_of_lt_of_le hck4 HB5.out.size
      clear hW
      have HLX5 : Hid (Lies w5.drew w5.drew.heap.size A2 (bv m.data)) := hid (Lies.own (own_keep HO4.out HB5.out.drew))
      have HLM5 : Hid (Lies w5.drew w5.drew.heap.size A1 (bv m.data)) := hid (Lies.own (own_keep HO2.out (bel_trans (bel_trans HBB HB4) HB5).out.drew))
      have HS5 : w5.cell? ⟨w2.heap.size, 0, none⟩ = some (.int .i64 m.kind) ∧ w5.cell? ⟨w2.heap.size, 1, none⟩ = some (.int .u32 m.chan) ∧ w5.cell? ⟨w2.heap.size, 2, none⟩ = some (.int .u32 m.sender) ∧ w5.cell? ⟨w2.heap.size, 3, none⟩ = some (.int .u32 m.window) ∧ w5.cell? ⟨w2.heap.size, 4, none⟩ = some (.int .u32 m.packet) ∧ w5.cell? ⟨w2.heap.size, 5, none⟩ = some (.int .u32 m.code) ∧ w5.cell? ⟨w2.heap.size, 6, none⟩ = some (.string m.name) ∧ w5.cell? ⟨w2.heap.size, 7, none⟩ = some (.string m.lang) ∧ w5.cell? ⟨w2.heap.size, 8, none⟩ = some (.bool m.want) ∧ w5.cell? ⟨w2.heap.size, 9, none⟩ = some (.slice A1 l c1) ∧ w5.cell? ⟨w4.heap.size, 0, none⟩ = some (.int .i64 m.kind) ∧ w5.cell? ⟨w4.heap.size, 1, none⟩ = some (.int .u32 m.chan) ∧ w5.cell? ⟨w4.heap.size, 2, none⟩ = some (.int .u32 m.sender) ∧ w5.cell? ⟨w4.heap.size, 3, none⟩ = some (.int .u32 m.window) ∧ w5.cell? ⟨w4.heap.size, 4, none⟩ = some (.int .u32 m.packet) ∧ w5.cell? ⟨w4.heap.size, 5, none⟩ = some (.int .u32 m.code) ∧ w5.cell? ⟨w4.heap.size, 6, none⟩ = some (.string m.name) ∧ w5.cell? ⟨w4.heap.size, 7, none⟩ = some (.string m.lang) ∧ w5.cell? ⟨w4.heap.size, 8, none⟩ = some (.bool m.want) ∧ w5.cell? ⟨w4.heap.size, 9, none⟩ = some (.slice A2 l c2) ∧ w5.cell? ⟨bk, bo, none⟩ = some (.int .u8 b0.toNat) ∧ w5.cell? ⟨ck, co, none⟩ = some (.int .u8 b0.toNat) := ⟨HX5.out.cell 0, HX5.out.cell 1, HX5.out.cell 2, HX5.out.cell 3, HX5.out.cell 4, HX5.out.cell 5, HX5.out.cell 6, HX5.out.cell 7, HX5.out.cell 8, HX5.out.cell 9, HY5.out.cell 0, HY5.out.cell 1, HY5.out.cell 2, HY5.out.cell 3, HY5.out.cell 4, HY5.out.cell 5, HY5.out.cell 6, HY5.out.cell 7, HY5.out.cell 8, HY5.out.cell 9, hb5, hc5⟩
      go_region_held3 (fun u => u.cell? ⟨w2.heap.size, 0, none⟩ = some (.int .i64 m.kind) ∧ u.cell? ⟨w2.heap.size, 1, none⟩ = some (.int .u32 m.chan) ∧ u.cell? ⟨w2.heap.size, 2, none⟩ = some (.int .u32 m.sender) ∧ u.cell? ⟨w2.heap.size, 3, none⟩ = some (.int .u32 m.window) ∧ u.cell? ⟨w2.heap.size, 4, none⟩ = some (.int .u32 m.packet) ∧ u.cell? ⟨w2.heap.size, 5, none⟩ = some (.int .u32 m.code) ∧ u.cell? ⟨w2.heap.size, 6, none⟩ = some (.string m.name) ∧ u.cell? ⟨w2.heap.size, 7, none⟩ = some (.string m.lang) ∧ u.cell? ⟨w2.heap.size, 8, none⟩ = some (.bool m.want) ∧ u.cell? ⟨w2.heap.size, 9, none⟩ = some (.slice A1 l c1) ∧ u.cell? ⟨w4.heap.size, 0, none⟩ = some (.int .i64 m.kind) ∧ u.cell? ⟨w4.heap.size, 1, none⟩ = some (.int .u32 m.chan) ∧ u.cell? ⟨w4.heap.size, 2, none⟩ = some (.int .u32 m.sender) ∧ u.cell? ⟨w4.heap.size, 3, none⟩ = some (.int .u32 m.window) ∧ u.cell? ⟨w4.heap.size, 4, none⟩ = some (.int .u32 m.packet) ∧ u.cell? ⟨w4.heap.size, 5, none⟩ = some (.int .u32 m.code) ∧ u.cell? ⟨w4.heap.size, 6, none⟩ = some (.string m.name) ∧ u.cell? ⟨w4.heap.size, 7, none⟩ = some (.string m.lang) ∧ u.cell? ⟨w4.heap.size, 8, none⟩ = some (.bool m.want) ∧ u.cell? ⟨w4.heap.size, 9, none⟩ = some (.slice A2 l c2) ∧ u.cell? ⟨bk, bo, none⟩ = some (.int .u8 b0.toNat) ∧ u.cell? ⟨ck, co, none⟩ = some (.int .u8 b0.toNat)) (first | exact HS5 | exact HS6 | exact HS7 | exact HS8) ((first
        | (go_at_call 14
           ((with_reducible refine (same_x w5.drew m A2 A1 c2 c1 l HL.out HLX5 HLM5 hlm).mono ?_); rintro e w6 ⟨rfl, HB6'⟩)
           have HB6 : Hid (Below w5.heap.size w5 w6) := hid ⟨HB6'.out.os, HB6'.out.tape, HB6'.out.output, HB6'.out.size, HB6'.out.block⟩
           have HY6 := box_p HY5 HB6
           have HX6 := box_p HX5 HB6
           have hb6 := (HB6.out.cell (p := ⟨bk, bo, none⟩) hbk5).trans hb5
           have hc6 := (HB6.out.cell (p := ⟨ck, co, none⟩) hck5).trans hc5
           have hbk6 : bk < w6.heap.size := Nat.lt_of_lt_of_le hbk5 HB6.out.size
           have hck6 : ck < w6.heap.size := Nat.lt_of_lt_of_le hck5 HB6.out.size
           have HS6 : w6.cell? ⟨w2.heap.size, 0, none⟩ = some (.int .i64 m.kind) ∧ w6.cell? ⟨w2.heap.size, 1, none⟩ = some (.int .u32 m.chan) ∧ w6.cell? ⟨w2.heap.size, 2, none⟩ = some (.int .u32 m.sender) ∧ w6.cell? ⟨w2.heap.size, 3, none⟩ = some (.int .u32 m.window) ∧ w6.cell? ⟨w2.heap.size, 4, none⟩ = some (.int .u32 m.packet) ∧ w6.cell? ⟨w2.heap.size, 5, none⟩ = some (.int .u32 m.code) ∧ w6.cell? ⟨w2.heap.size, 6, none⟩ = some (.string m.name) ∧ w6.cell? ⟨w2.heap.size, 7, none⟩ = some (.string m.lang) ∧ w6.cell? ⟨w2.heap.size, 8, none⟩ = some (.bool m.want) ∧ w6.cell? ⟨w2.heap.size, 9, none⟩ = some (.slice A1 l c1) ∧ w6.cell? ⟨w4.heap.size, 0, none⟩ = some (.int .i64 m.kind) ∧ w6.cell? ⟨w4.heap.size, 1, none⟩ = some (.int .u32 m.chan) ∧ w6.cell? ⟨w4.heap.size, 2, none⟩ = some (.int .u32 m.sender) ∧ w6.cell? ⟨w4.heap.size, 3, none⟩ = some (.int .u32 m.window) ∧ w6.cell? ⟨w4.heap.size, 4, none⟩ = some (.int .u32 m.packet) ∧ w6.cell? ⟨w4.heap.size, 5, none⟩ = some (.int .u32 m.code) ∧ w6.cell? ⟨w4.heap.size, 6, none⟩ = some (.string m.name) ∧ w6.cell? ⟨w4.heap.size, 7, none⟩ = some (.string m.lang) ∧ w6.cell? ⟨w4.heap.size, 8, none⟩ = some (.bool m.want) ∧ w6.cell? ⟨w4.heap.size, 9, none⟩ = some (.slice A2 l c2) ∧ w6.cell? ⟨bk, bo, none⟩ = some (.int .u8 b0.toNat) ∧ w6.cell? ⟨ck, co, none⟩ = some (.int .u8 b0.toNat) := ⟨HX6.out.cell 0, HX6.out.cell 1, HX6.out.cell 2, HX6.out.cell 3, HX6.out.cell 4, HX6.out.cell 5, HX6.out.cell 6, HX6.out.cell 7, HX6.out.cell 8, HX6.out.cell 9, HY6.out.cell 0, HY6.out.cell 1, HY6.out.cell 2, HY6.out.cell 3, HY6.out.cell 4, HY6.out.cell 5, HY6.out.cell 6, HY6.out.cell 7, HY6.out.cell 8, HY6.out.cell 9, hb6, hc6⟩
           have HO6 : Hid (w6.ownsRow w1.heap.size 5 1 (.slice A1 l c1) l (bv m.data)) := hid (own_keep HO2.out (bel_trans (bel_trans (bel_trans HBB HB4) HB5) HB6).out))
        | (go_at_call 17
           ((with_reducible refine (own_x w6 m m A1 c1 l l w6.heap.size HOWN HL.out HL.out (hid (tk_own HL.out HO6.out))).mono ?_); rintro e w7 ⟨A3, c3, rfl, HB7, HT7⟩)
           have HY7 := box_p HY6 HB7
           have HX7 := box_p HX6 HB7
           have hb7 := (HB7.out.cell (p := ⟨bk, bo, none⟩) hbk6).trans hb6
           have hc7 := (HB7.out.cell (p := ⟨ck, co, none⟩) hck6).trans hc6
           have hbk7 : bk < w7.heap.size := Nat.lt_of_lt_of_le hbk6 HB7.out.size
           have hck7 : ck < w7.heap.size := Nat.lt_of_lt_of_le hck6 HB7.out.size
           have HS7 : w7.cell? ⟨w2.heap.size, 0, none⟩ = some (.int .i64 m.kind) ∧ w7.cell? ⟨w2.heap.size, 1, none⟩ = some (.int .u32 m.chan) ∧ w7.cell? ⟨w2.heap.size, 2, none⟩ = some (.int .u32 m.sender) ∧ w7.cell? ⟨w2.heap.size, 3, none⟩ = some (.int .u32 m.window) ∧ w7.cell? ⟨w2.heap.size, 4, none⟩ = some (.int .u32 m.packet) ∧ w7.cell? ⟨w2.heap.size, 5, none⟩ = some (.int .u32 m.code) ∧ w7.cell? ⟨w2.heap.size, 6, none⟩ = some (.string m.name) ∧ w7.cell? ⟨w2.heap.size, 7, none⟩ = some (.string m.lang) ∧ w7.cell? ⟨w2.heap.size, 8, none⟩ = some (.bool m.want) ∧ w7.cell? ⟨w2.heap.size, 9, none⟩ = some (.slice A1 l c1) ∧ w7.cell? ⟨w4.heap.size, 0, none⟩ = some (.int .i64 m.kind) ∧ w7.cell? ⟨w4.heap.size, 1, none⟩ = some (.int .u32 m.chan) ∧ w7.cell? ⟨w4.heap.size, 2, none⟩ = some (.int .u32 m.sender) ∧ w7.cell? ⟨w4.heap.size, 3, none⟩ = some (.int .u32 m.window) ∧ w7.cell? ⟨w4.heap.size, 4, none⟩ = some (.int .u32 m.packet) ∧ w7.cell? ⟨w4.heap.size, 5, none⟩ = some (.int .u32 m.code) ∧ w7.cell? ⟨w4.heap.size, 6, none⟩ = some (.string m.name) ∧ w7.cell? ⟨w4.heap.size, 7, none⟩ = some (.string m.lang) ∧ w7.cell? ⟨w4.heap.size, 8, none⟩ = some (.bool m.want) ∧ w7.cell? ⟨w4.heap.size, 9, none⟩ = some (.slice A2 l c2) ∧ w7.cell? ⟨bk, bo, none⟩ = some (.int .u8 b0.toNat) ∧ w7.cell? ⟨ck, co, none⟩ = some (.int .u8 b0.toNat) := ⟨HX7.out.cell 0, HX7.out.cell 1, HX7.out.cell 2, HX7.out.cell 3, HX7.out.cell 4, HX7.out.cell 5, HX7.out.cell 6, HX7.out.cell 7, HX7.out.cell 8, HX7.out.cell 9, HY7.out.cell 0, HY7.out.cell 1, HY7.out.cell 2, HY7.out.cell 3, HY7.out.cell 4, HY7.out.cell 5, HY7.out.cell 6, HY7.out.cell 7, HY7.out.cell 8, HY7.out.cell 9, hb7, hc7⟩
           have hL7 : Hid (Lies w7 w7.heap.size A1 (bv m.data)) := hid (Lies.own (own_keep HO6.out HB7.out)))
        | (go_at_call 14
           ((with_reducible refine (same_x w7 m A1 A3 c1 c3 l HL.out hL7 (hid HT7.out.lies) hlm).mono ?_); rintro e w8 ⟨rfl, HB8⟩)
           have HY8 := box_p HY7 HB8
           have HX8 := box_p HX7 HB8
           have hb8 := (HB8.out.cell (p := ⟨bk, bo, none⟩) hbk7).trans hb7
           have hc8 := (HB8.out.cell (p := ⟨ck, co, none⟩) hck7).trans hc7
           have HS8 : w8.cell? ⟨w2.heap.size, 0, none⟩ = some (.int .i64 m.kind) ∧ w8.cell? ⟨w2.heap.size, 1, none⟩ = some (.int .u32 m.chan) ∧ w8.cell? ⟨w2.heap.size, 2, none⟩ = some (.int .u32 m.sender) ∧ w8.cell? ⟨w2.heap.size, 3, none⟩ = some (.int .u32 m.window) ∧ w8.cell? ⟨w2.heap.size, 4, none⟩ = some (.int .u32 m.packet) ∧ w8.cell? ⟨w2.heap.size, 5, none⟩ = some (.int .u32 m.code) ∧ w8.cell? ⟨w2.heap.size, 6, none⟩ = some (.string m.name) ∧ w8.cell? ⟨w2.heap.size, 7, none⟩ = some (.string m.lang) ∧ w8.cell? ⟨w2.heap.size, 8, none⟩ = some (.bool m.want) ∧ w8.cell? ⟨w2.heap.size, 9, none⟩ = some (.slice A1 l c1) ∧ w8.cell? ⟨w4.heap.size, 0, none⟩ = some (.int .i64 m.kind) ∧ w8.cell? ⟨w4.heap.size, 1, none⟩ = some (.int .u32 m.chan) ∧ w8.cell? ⟨w4.heap.size, 2, none⟩ = some (.int .u32 m.sender) ∧ w8.cell? ⟨w4.heap.size, 3, none⟩ = some (.int .u32 m.window) ∧ w8.cell? ⟨w4.heap.size, 4, none⟩ = some (.int .u32 m.packet) ∧ w8.cell? ⟨w4.heap.size, 5, none⟩ = some (.int .u32 m.code) ∧ w8.cell? ⟨w4.heap.size, 6, none⟩ = some (.string m.name) ∧ w8.cell? ⟨w4.heap.size, 7, none⟩ = some (.string m.lang) ∧ w8.cell? ⟨w4.heap.size, 8, none⟩ = some (.bool m.want) ∧ w8.cell? ⟨w4.heap.size, 9, none⟩ = some (.slice A2 l c2) ∧ w8.cell? ⟨bk, bo, none⟩ = some (.int .u8 b0.toNat) ∧ w8.cell? ⟨ck, co, none⟩ = some (.int .u8 b0.toNat) := ⟨HX8.out.cell 0, HX8.out.cell 1, HX8.out.cell 2, HX8.out.cell 3, HX8.out.cell 4, HX8.out.cell 5, HX8.out.cell 6, HX8.out.cell 7, HX8.out.cell 8, HX8.out.cell 9, HY8.out.cell 0, HY8.out.cell 1, HY8.out.cell 2, HY8.out.cell 3, HY8.out.cell 4, HY8.out.cell 5, HY8.out.cell 6, HY8.out.cell 7, HY8.out.cell 8, HY8.out.cell 9, hb8, hc8⟩)))
      all_goals
        go_wp2
        go_ret
        exact ⟨rfl, (bel_trans (bel_trans (bel_trans HB1 HB2) (bel_trans HBB HB4)) (bel_trans (bel_trans HB5 HB6) (bel_trans HB7 HB8))).out⟩
    · have hm0 : m = zeroM := by
        have h := decF_err (b := b) (by rw [HDC.out]; exact her)
        rw [HDC.out] at h
        exact h
      subst hm0
      have hz : (er == 0) = false := by simpa using her
      clear her
      go_enter Tryd.func6, Tryd.ntmps6
      go_wp2_with (first
        | (go_at_call 8
           refine (alive_any _ mm HMM.out).mono ?_
           rintro e w1 ⟨rfl, hb1⟩
           have HB1 := hid hb1
           clear hb1)
        | (go_at_call 15
           ((with_reducible refine (decode_z w1 A c n b mm er HDC HN.out (slb_at HB HB1) (hm_below HMM HB1 hpos)).mono ?_); rintro e w2 ⟨A1, c1, rfl, HB2⟩))
        | (go_at_call 14
           ((with_reducible refine (same_z _ A1 none c1 0).mono ?_); rintro e w3 ⟨rfl, HB3⟩)))
      go_ret
      exact ⟨rfl, (bel_trans (bel_trans HB1 HB2) (bel_al HB3)).out⟩

end Go.Proofs.YtlmdbcmaophhnaaDoor
