import Derived.Test.YtlmdbcmaophhnaaDoorRB
import Derived.Test.YtlmdbcmaophhnaaDoorYF
namespace Go.Proofs.YtlmdbcmaophhnaaDoor
open Go.RowKit

set_option maxHeartbeats 4000000 in
set_option maxRecDepth 100000 in
theorem fields20_none (kd : Int) (hk : ∀ k : Int, k ∈ tab.map Prod.fst → ¬ kd = k) (ch se wi pa co n c : Nat) (nm lg : ByteArray) (wt : Bool) (A : Option Addr) (w : World) :
    Calls Tryd.prog 20 #[.agg #[.int .i64 kd, .int .u32 ch, .int .u32 se, .int .u32 wi, .int .u32 pa, .int .u32 co, .string nm, .string lg, .bool wt, .slice A n c]] w fun e w' => e = .returned (.tuple #[.slice none 0 0, .bool false]) ∧ Hid (Below w.heap.size w w') := by
  have h1 : (kd == 1) = false := by simpa using hk 1 (by simp [tab])
  have h80 : (kd == 80) = false := by simpa using hk 80 (by simp [tab])
  have h81 : (kd == 81) = false := by simpa using hk 81 (by simp [tab])
  have h82 : (kd == 82) = false := by simpa using hk 82 (by simp [tab])
  have h90 : (kd == 90) = false := by simpa using hk 90 (by simp [tab])
  have h91 : (kd == 91) = false := by simpa using hk 91 (by simp [tab])
  have h92 : (kd == 92) = false := by simpa using hk 92 (by simp [tab])
  have h93 : (kd == 93) = false := by simpa using hk 93 (by simp [tab])
  have h94 : (kd == 94) = false := by simpa using hk 94 (by simp [tab])
  have h95 : (kd == 95) = false := by simpa using hk 95 (by simp [tab])
  have h96 : (kd == 96) = false := by simpa using hk 96 (by simp [tab])
  have h97 : (kd == 97) = false := by simpa using hk 97 (by simp [tab])
  have h98 : (kd == 98) = false := by simpa using hk 98 (by simp [tab])
  have h99 : (kd == 99) = false := by simpa using hk 99 (by simp [tab])
  have h100 : (kd == 100) = false := by simpa using hk 100 (by simp [tab])
  clear hk
  go_enter Tryd.func20, Tryd.ntmps20
  go_wp2
  go_ret2
  exact ⟨rfl, bel1 _ _⟩
theorem fields_any (m : Mg) (A : Option Addr) (c l base : Nat) (ps : List Pl) (w : World) (hl : m.data.length = l) (hx : look m.kind tab = some ps) (hm : m.Ok) (hb : base ≤ w.heap.size) (hd : TK w base A c m.data) :
    Calls Tryd.prog 20 #[.agg #[.int .i64 m.kind, .int .u32 m.chan, .int .u32 m.sender, .int .u32 m.window, .int .u32 m.packet, .int .u32 m.code, .string m.name, .string m.lang, .bool m.want, .slice A l c]] w fun e w' => Hid (Below w.heap.size w w') ∧ ∃ A', e = .returned (.tuple #[.slice A' ps.length ps.length, .bool true]) ∧ Hid (∃ cs, Lies w' w'.heap.size A' cs ∧ FlatK w' base (ps.map (Pl.fld m)) cs) := by
  subst hl
  have hmem := look_mem hx
  have hnm := hm.name
  have hlg := hm.lang
  clear hx hm
  obtain ⟨kd, ch, se, wi, pa, co, nm, lg, wt, dt⟩ := m
  simp only at hmem hnm hlg hd
  simp only [tab, List.mem_cons, List.mem_nil_iff, or_false, Prod.mk.injEq] at hmem
  rcases hmem with ⟨rfl, rfl⟩ | ⟨rfl, rfl⟩ | ⟨rfl, rfl⟩ | ⟨rfl, rfl⟩ | ⟨rfl, rfl⟩ | ⟨rfl, rfl⟩ | ⟨rfl, rfl⟩ | ⟨rfl, rfl⟩ | ⟨rfl, rfl⟩ | ⟨rfl, rfl⟩ | ⟨rfl, rfl⟩ | ⟨rfl, rfl⟩ | ⟨rfl, rfl⟩ | ⟨rfl, rfl⟩ | ⟨rfl, rfl⟩
  · exact fields20_1 base ch se wi pa co dt.length _ _ _ c nm lg wt A dt w rfl rfl rfl rfl hnm hlg hb hd
  · exact fields20_80 base ch se wi pa co dt.length _ _ _ c nm lg wt A dt w rfl rfl rfl rfl hnm hlg hb hd
  · exact fields20_81 base ch se wi pa co dt.length _ _ _ c nm lg wt A dt w rfl rfl rfl rfl hnm hlg hb hd
  · exact fields20_82 base ch se wi pa co dt.length _ _ _ c nm lg wt A dt w rfl rfl rfl rfl hnm hlg hb hd
  · exact fields20_90 base ch se wi pa co dt.length _ _ _ c nm lg wt A dt w rfl rfl rfl rfl hnm hlg hb hd
  · exact fields20_91 base ch se wi pa co dt.length _ _ _ c nm lg wt A dt w rfl rfl rfl rfl hnm hlg hb hd
  · exact fields20_92 base ch se wi pa co dt.length _ _ _ c nm lg wt A dt w rfl rfl rfl rfl hnm hlg hb hd
  · exact fields20_93 base ch se wi pa co dt.length _ _ _ c nm lg wt A dt w rfl rfl rfl rfl hnm hlg hb hd
  · exact fields20_94 base ch se wi pa co dt.length _ _ _ c nm lg wt A dt w rfl rfl rfl rfl hnm hlg hb hd
  · exact fields20_95 base ch se wi pa co dt.length _ _ _ c nm lg wt A dt w rfl rfl rfl rfl hnm hlg hb hd
  · exact fields20_96 base ch se wi pa co dt.length _ _ _ c nm lg wt A dt w rfl rfl rfl rfl hnm hlg hb hd
  · exact fields20_97 base ch se wi pa co dt.length _ _ _ c nm lg wt A dt w rfl rfl rfl rfl hnm hlg hb hd
  · exact fields20_98 base ch se wi pa co dt.length _ _ _ c nm lg wt A dt w rfl rfl rfl rfl hnm hlg hb hd
  · exact fields20_99 base ch se wi pa co dt.length _ _ _ c nm lg wt A dt w rfl rfl rfl rfl hnm hlg hb hd
  · exact fields20_100 base ch se wi pa co dt.length _ _ _ c nm lg wt A dt w rfl rfl rfl rfl hnm hlg hb hd
theorem flatK_one {w : World} {base : Nat} : ∀ (fs : List Fd) (cs : List Value), FlatK w base fs cs → ∀ u ∈ cs, u.oneCell' = true
  | [], _, h => by
    have h : _ = [] := h
    subst h
    intro u hu; cases hu
  | _ :: fs, _, ⟨tA, tc, r, e, g0, g1, g3⟩ => by
    subst e
    intro u hu
    simp only [List.mem_cons] at hu
    rcases hu with rfl | rfl | rfl | rfl | hu
    · rfl
    · rfl
    · rfl
    · rfl
    · exact flatK_one fs r g3 u hu
theorem rwrite_n (w : World) (A : Option Addr) (c n : Nat) (l : List Fd) (hn : l.length = n) (hl : FdsV w w.heap.size A l) (h : n ≤ 1000) :
    Calls Tryd.prog 22 #[.slice A n c] w (WriteR w (writeF l)) := by
  subst hn
  exact rwrite_any w A c l hl h
theorem bel_ar {w w' : World} {o : Obj} (h : Hid (Below (w.alloc o).heap.size (w.alloc o) w')) : Hid (Below w.heap.size w w') := (bel1 w o).trans (h.out.mono (by simp))
theorem renc_fin {w w2 w4 : World} {m : Mg} {ps : List Pl} {A4 : Option Addr} {c4 n : Nat} {cs : List Value} (hn : ps.length = n) (hm : m.Ok) (hb : Below w.heap.size w w2) (hkn : (m.kind.toNat : Int) = m.kind) (hk : 1 ≤ m.kind ∧ m.kind ≤ 100)
    (hf : FlatK w2 w.heap.size (ps.map (Pl.fld m)) cs)
    (ho4 : w4.ownsRow w.heap.size 50 4 (.slice A4 (1 + n) c4) (1 + n) ((#[Value.int .i64 1, .int .u32 m.kind, .slice none 0 0, .slice none 0 0] : Array Value).toList ++ cs))
    (hg4 : (w2.alloc (.cells #[.int .i64 1, .int .u32 m.kind, .slice none 0 0, .slice none 0 0] 50)).grownBy w4 (Value.slice (some ⟨w2.heap.size, 0, none⟩) 1 1).ownBlock) :
    Below w.heap.size w w4 ∧ FdsV w4 w4.heap.size A4 (kfm m :: ps.map (Pl.fld m)) := by
  have k4 : Kept w.heap.size [50] w2 w4 := ((Kept.refl w.heap.size [50] w2).alloc _).grown hg4 (fun k hk => by
    have e : w2.heap.size = k := by simpa [Value.ownBlock] using hk
    subst e
    exact ⟨hb.size, 50, _, by simp, Box.new w2 50 _⟩)
  refine ⟨hb.trans (k4.below hb.size), ?_⟩
  have hf4 := FlatK.kept k4 (by decide) _ _ hf
  refine flatK_fds (n := 1 + n) (by simp [hn]; omega) ho4 (show FlatK w4 w.heap.size (kfm m :: ps.map (Pl.fld m)) _ from ⟨none, 0, cs, by simp [kfm, hkn], rfl, TK.nil_ _ _, hf4⟩) ?_
  intro f hf
  rcases List.mem_cons.1 hf with rfl | hf
  · exact ⟨by simp [kfm]; omega, by simp [kfm], by simp [kfm]⟩
  · obtain ⟨q, _, rfl⟩ := List.mem_map.1 hf
    exact fld_wf hm q

set_option maxHeartbeats 4000000 in
set_option maxRecDepth 100000 in
theorem rencode_any (w : World) (m : Mg) (A : Option Addr) (c l : Nat) (hm : m.Ok) (hl : m.data.length = l) (hd : TK w w.heap.size A c m.data) :
    Calls Tryd.prog 12 #[.agg #[.int .i64 m.kind, .int .u32 m.chan, .int .u32 m.sender, .int .u32 m.window, .int .u32 m.packet, .int .u32 m.code, .string m.name, .string m.lang, .bool m.want, .slice A l c]] w (WriteR w (encF m)) := by
  have HM := hid hm
  have HD := hid hd
  have HL := hid hl
  clear hm hd hl
  obtain ⟨x, HX⟩ : ∃ x, Hid (look m.kind tab = x) := ⟨_, hid rfl⟩
  cases x with
  | none =>
    have HE : Hid (encF m = (8, [])) := by show _ = _; rw [encF, HX.out]
    have HN := hid (look_none HX.out)
    go_enter Tryd.func12, Tryd.ntmps12
    go_wp2_with (
      go_at_call 20
      ((with_reducible refine (fields20_none m.kind HN.out m.chan m.sender m.window m.packet m.code l c m.name m.lang m.want A _).mono ?_); rintro e w1 ⟨rfl, HB1⟩))
    go_ret2
    rw [HE.out]
    exact writeR_err _ _ _ (bel_ar HB1)
  | some ps =>
    have hk := look_some HX.out
    have hk5 := look_len HX.out
    have hk3 : m.kind % 4294967296 = m.kind := by omega
    have hkn : (m.kind.toNat : Int) = m.kind := by omega
    obtain ⟨i0, hi0, hz0, hz1, hz2⟩ := info_parts Tryd.info37
    obtain ⟨n, HN⟩ : ∃ n, Hid (ps.length = n) := ⟨_, hid rfl⟩
    have hn5 : n ≤ 5 := by have := HN.out; omega
    have HXB : Hid (Box (w.alloc (.cells #[.int .i64 m.kind, .int .u32 m.chan, .int .u32 m.sender, .int .u32 m.window, .int .u32 m.packet, .int .u32 m.code, .string m.name, .string m.lang, .bool m.want, .slice A l c] 25)) w.heap.size 25 #[.int .i64 m.kind, .int .u32 m.chan, .int .u32 m.sender, .int .u32 m.window, .int .u32 m.packet, .int .u32 m.code, .string m.name, .string m.lang, .bool m.want, .slice A l c]) := hid (Box.new w 25 _)
    obtain ⟨b, HW⟩ : ∃ b, Hid (ps.all (Pl.ok m) = b) := ⟨_, hid rfl⟩
    cases b with
    | false =>
      have HE : Hid (encF m = (4, [])) := by
        show _ = _
        rw [encF, HX.out]
        simp only [HW.out]
        rfl
      go_enter Tryd.func12, Tryd.ntmps12
      go_wp2_with (first
        | (go_at_call 20
           ((with_reducible refine (fields_any m A c l w.heap.size ps _ HL.out HX.out HM.out (by simp) (tk_alloc HD.out _)).mono ?_); rintro e w1 ⟨HB1, A1, rfl, hcs⟩)
           obtain ⟨cs, hL1, hF1⟩ := hcs.out
           have HL1 := hid hL1
           have HF1 := hid hF1
           clear hL1 hF1 hcs
           have HX1 := box_p HXB HB1
           have p0 : w1.cell? ⟨w.heap.size, 0, none⟩ = some (.int .i64 m.kind) := HX1.out.cell 0
           have p1 : w1.cell? ⟨w.heap.size, 1, none⟩ = some (.int .u32 m.chan) := HX1.out.cell 1
           have p2 : w1.cell? ⟨w.heap.size, 2, none⟩ = some (.int .u32 m.sender) := HX1.out.cell 2
           have p3 : w1.cell? ⟨w.heap.size, 3, none⟩ = some (.int .u32 m.window) := HX1.out.cell 3
           have p4 : w1.cell? ⟨w.heap.size, 4, none⟩ = some (.int .u32 m.packet) := HX1.out.cell 4
           have p5 : w1.cell? ⟨w.heap.size, 5, none⟩ = some (.int .u32 m.code) := HX1.out.cell 5
           have p6 : w1.cell? ⟨w.heap.size, 6, none⟩ = some (.string m.name) := HX1.out.cell 6
           have p7 : w1.cell? ⟨w.heap.size, 7, none⟩ = some (.string m.lang) := HX1.out.cell 7
           have p8 : w1.cell? ⟨w.heap.size, 8, none⟩ = some (.bool m.want) := HX1.out.cell 8
           have p9 : w1.cell? ⟨w.heap.size, 9, none⟩ = some (.slice A l c) := HX1.out.cell 9
           rw [HN.out])
        | (go_at_call 21
           ((with_reducible refine (words_any m A c l ps w1 HL.out HX.out HM.out).mono ?_); rw [HW.out]; rintro e w2 ⟨rfl, HB2⟩)))
      go_ret2
      rw [HE.out]
      exact writeR_err _ _ _ ((bel_ar HB1).out.trans (HB2.out.mono (bel_ar HB1).out.size))
    | true =>
      have HE : Hid (encF m = writeF (kfm m :: ps.map (Pl.fld m))) := by
        show _ = _
        rw [encF, HX.out]
        simp only [HW.out, if_true]
      go_enter Tryd.func12, Tryd.ntmps12
      go_wp2_with (first
        | (go_at_call 20
           ((with_reducible refine (fields_any m A c l w.heap.size ps _ HL.out HX.out HM.out (by simp) (tk_alloc HD.out _)).mono ?_); rintro e w1 ⟨HB1, A1, rfl, hcs⟩)
           obtain ⟨cs, hL1, hF1⟩ := hcs.out
           have HL1 := hid hL1
           have HF1 := hid hF1
           clear hL1 hF1 hcs
           have HX1 := box_p HXB HB1
           have p0 : w1.cell? ⟨w.heap.size, 0, none⟩ = some (.int .i64 m.kind) := HX1.out.cell 0
           have p1 : w1.cell? ⟨w.heap.size, 1, none⟩ = some (.int .u32 m.chan) := HX1.out.cell 1
           have p2 : w1.cell? ⟨w.heap.size, 2, none⟩ = some (.int .u32 m.sender) := HX1.out.cell 2
           have p3 : w1.cell? ⟨w.heap.size, 3, none⟩ = some (.int .u32 m.window) := HX1.out.cell 3
           have p4 : w1.cell? ⟨w.heap.size, 4, none⟩ = some (.int .u32 m.packet) := HX1.out.cell 4
           have p5 : w1.cell? ⟨w.heap.size, 5, none⟩ = some (.int .u32 m.code) := HX1.out.cell 5
           have p6 : w1.cell? ⟨w.heap.size, 6, none⟩ = some (.string m.name) := HX1.out.cell 6
           have p7 : w1.cell? ⟨w.heap.size, 7, none⟩ = some (.string m.lang) := HX1.out.cell 7
           have p8 : w1.cell? ⟨w.heap.size, 8, none⟩ = some (.bool m.want) := HX1.out.cell 8
           have p9 : w1.cell? ⟨w.heap.size, 9, none⟩ = some (.slice A l c) := HX1.out.cell 9
           rw [HN.out])
        | (go_at_call 21
           ((with_reducible refine (words_any m A c l ps w1 HL.out HX.out HM.out).mono ?_); rw [HW.out]; rintro e w2 ⟨rfl, HB2⟩)
           have HX2 := box_p HX1 HB2
           have q0 : w2.cell? ⟨w.heap.size, 0, none⟩ = some (.int .i64 m.kind) := HX2.out.cell 0
           have HBW : Hid (Below w.heap.size w w2) := (bel_ar HB1).out.trans (HB2.out.mono (bel_ar HB1).out.size)
           have HL2 := lies_bel HL1 HB2
           have HF2 := hid (FlatK.kept (Kept.of_below HB2.out w.heap.size []) (by simp) _ _ HF1.out))
        | (at_builtin
           refine wpList_app _ rfl (.tmp 20) (.tmp 21) 51 rfl w.heap.size 50 i0 _ 4 64 Tryd.underlying51 hi0 hz0 hz1 hz2 rfl ?g1 (some ⟨w2.heap.size, 0, none⟩) 1 1 _ rfl (World.ownsRow_lit (base := w.heap.size) (e := 50) (size := 4) w2 #[.int .i64 1, .int .u32 m.kind, .slice none 0 0, .slice none 0 0] 1 HBW.out.size (by unfold maxLen; omega) (by simp)) (w2.heap.size + 1) A1 n n cs rfl ?g2 ?g3 (flatK_one _ _ HF2.out) ?g4 ?g5 ?g6 ?_
           case g1 => omega
           case g2 => rw [HF2.out.length, List.length_map, HN.out]
           case g3 => exact ((HL2.out).below (bel1 w2 _)).more (by omega)
           case g4 => unfold maxLen; omega
           case g5 => omega
           case g6 => have := HBW.out.size; simp; omega
           intro A4 c4 w4 ho4 hg4
           have HFIN := hid (renc_fin HN.out HM.out HBW.out hkn hk HF2.out ho4 hg4)
           have HC4 := hid (own_caps ho4)
           clear ho4 hg4)
        | (go_at_call 22
           refine (rwrite_n w4 A4 c4 (1 + n) (kfm m :: ps.map (Pl.fld m)) (by simp [HN.out]; omega) HFIN.out.2 (by omega)).mono ?_
           rintro e w7 ⟨A7, c7, rfl, ho7, hb7⟩
           have HO7 := hid ho7
           have HB7 := hid hb7
           clear ho7 hb7))
      go_ret2
      rw [HE.out]
      exact ⟨A7, c7, rfl, own_mono HO7.out HFIN.out.1.size, HFIN.out.1.trans (HB7.out.mono HFIN.out.1.size)⟩

end Go.Proofs.YtlmdbcmaophhnaaDoor
