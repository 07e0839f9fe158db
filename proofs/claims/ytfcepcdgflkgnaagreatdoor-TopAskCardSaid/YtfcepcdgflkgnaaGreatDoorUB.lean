import Derived.Test.YtfcepcdgflkgnaaGreatDoorQV
namespace Go.Proofs.YtfcepcdgflkgnaaGreatDoor
open Go.RowKit

theorem encode_x (w : World) (m : Mg) (A : Option Addr) (_c _n er : Int) (l k : Nat) (bs : List UInt8) (cn : Nat) (hX : Hid (encF m = (er, bs))) (hm : Hid m.Ok) (hd : Hid (TK w w.heap.size A cn m.data)) (hl : m.data.length = l) (hn : bs.length = k) :
    Calls Tryz.prog 14 #[.agg #[.int .i64 m.kind, .int .u32 m.chan, .int .u32 m.sender, .int .u32 m.window, .int .u32 m.packet, .int .u32 m.code, .string m.name, .string m.lang, .bool m.want, .slice A l cn]] w fun e w' => ∃ A1 c1, e = .returned (.tuple #[.slice A1 k c1, .int .i64 er]) ∧ Hid (w'.ownsRow w.heap.size 5 1 (.slice A1 k c1) k (bv bs)) ∧ Hid (Below w.heap.size w w') := by
  subst hl; subst hn
  refine (encode_any w m A cn hm.out hd.out).mono ?_
  rw [hX.out]
  rintro e w' ⟨A1, c1, rfl, ho, hb⟩
  exact ⟨A1, c1, rfl, ho, hb⟩
theorem decode_x (w : World) (A : Option Addr) (c n l : Nat) (b : List UInt8) (mm er : Int) (m : Mg) (hX : Hid (decF b = (er, m))) (hn : b.length = n) (hl : m.data.length = l) (hb : Hid (SlB w w.heap.size A c b)) (hmm : Hid (w.cell? ⟨0, 0, none⟩ = some (.int .i64 mm))) :
    Calls Tryz.prog 17 #[.slice A n c] w fun e w' => ∃ A1 c1, e = .returned (.tuple #[.agg #[.int .i64 m.kind, .int .u32 m.chan, .int .u32 m.sender, .int .u32 m.window, .int .u32 m.packet, .int .u32 m.code, .string m.name, .string m.lang, .bool m.want, .slice A1 l c1], .int .i64 er]) ∧ Hid (w'.ownsRow w.heap.size 5 1 (.slice A1 l c1) l (bv m.data)) ∧ Hid (Below w.heap.size w w') := by
  subst hl; subst hn
  refine (decode_any w A c b mm hb.out hmm.out).mono ?_
  rw [hX.out]
  rintro e w' ⟨A1, c1, rfl, ho, hb⟩
  exact ⟨A1, c1, rfl, ho, hb⟩

theorem put_small (k : Rw) {r : Rq} (h : (k.put r .zero).fault = 0) : (encs (k.put r .zero).fs).length ≤ 3000 := by
  obtain ⟨hb, hl⟩ := fault_zero h
  have hx : ∀ {l : Nat} {t : ByteArray} {q : Bool}, (q || !wordOk l t) = false → t.data.toList.length ≤ 64 ∧ q = false := by
    intro l t q h
    simp only [Bool.or_eq_false_iff, Bool.not_eq_false'] at h
    exact ⟨wordOk_64 h.2, h.1⟩
  have hy : ∀ {t : List UInt8} {q : Bool}, (q || decide (1024 < t.length)) = false → t.length ≤ 1024 ∧ q = false := by
    intro t q h
    simp only [Bool.or_eq_false_iff, decide_eq_false_iff_not] at h
    exact ⟨by omega, h.1⟩
  have e : ∀ l : List Fd, (encs l).length = (l.map (fun f => (enc f).length)).sum := fun l => by simp [encs, List.length_flatMap]
  rw [e]
  cases k
  · have h1 := (hx (l := 0) (t := r.text) (q := false) hb).1
    have h2 := (hy (t := r.modes) (q := false) hl).1
    show (enc ⟨4, 0, r.text.data.toList, []⟩).length + ((enc ⟨3, r.cols, [], []⟩).length + ((enc ⟨3, r.rows, [], []⟩).length + ((enc ⟨3, r.width, [], []⟩).length + ((enc ⟨3, r.height, [], []⟩).length + ((enc ⟨4, 0, r.modes, []⟩).length + 0))))) ≤ 3000
    rw [enc4_len, enc4_len, enc3_len, enc3_len, enc3_len, enc3_len]
    omega
  · have h0 : ((false || !wordOk 1 r.text) || r.text.data.toList.contains 61) = false := hb
    rw [Bool.or_eq_false_iff] at h0
    have h1 := (hx (l := 1) (t := r.text) (q := false) h0.1).1
    have h2 := (hy (t := r.value.data.toList) (q := false) hl).1
    show (enc ⟨4, 0, r.text.data.toList, []⟩).length + ((enc ⟨4, 0, r.value.data.toList, []⟩).length + 0) ≤ 3000
    rw [enc4_len, enc4_len]
    omega
  · show 0 ≤ 3000
    omega
  · have h2 := (hy (t := r.text.data.toList) (q := false) hl).1
    show (enc ⟨4, 0, r.text.data.toList, []⟩).length + 0 ≤ 3000
    rw [enc4_len]
    omega
  · have h1 := (hx (l := 1) (t := r.text) (q := false) hb).1
    show (enc ⟨4, 0, r.text.data.toList, []⟩).length + 0 ≤ 3000
    rw [enc4_len]
    omega
  · show (enc ⟨3, r.cols, [], []⟩).length + ((enc ⟨3, r.rows, [], []⟩).length + ((enc ⟨3, r.width, [], []⟩).length + ((enc ⟨3, r.height, [], []⟩).length + 0))) ≤ 3000
    rw [enc3_len, enc3_len, enc3_len, enc3_len]
    omega
  · show (enc ⟨2, if r.on then 1 else 0, [], []⟩).length + 0 ≤ 3000
    rw [enc2_len]
    omega
  · have h1 := (hx (l := 1) (t := r.text) (q := false) hb).1
    show (enc ⟨4, 0, r.text.data.toList, []⟩).length + 0 ≤ 3000
    rw [enc4_len]
    omega
  · show (enc ⟨3, r.code, [], []⟩).length + 0 ≤ 3000
    rw [enc3_len]
    omega
  · have h0 : ((false || !wordOk 1 r.text) || !wordOk 0 r.lang) = false := hb
    have h3 := hx (l := 0) (t := r.lang) h0
    have h1 := (hx (l := 1) (t := r.text) (q := false) h3.2).1
    have h2 := (hy (t := r.value.data.toList) (q := false) hl).1
    have h4 := h3.1
    show (enc ⟨4, 0, r.text.data.toList, []⟩).length + ((enc ⟨2, if r.on then 1 else 0, [], []⟩).length + ((enc ⟨4, 0, r.value.data.toList, []⟩).length + ((enc ⟨4, 0, r.lang.data.toList, []⟩).length + 0))) ≤ 3000
    rw [enc4_len, enc4_len, enc4_len, enc2_len]
    omega
theorem encR_small {r : Rq} (h : (encR r).1 = 0) : (encR r).2.2.length ≤ 3000 := by
  unfold encR at h ⊢
  split at h
  · simp at h
  · rename_i k hk
    split at h
    · rename_i hf
      rw [if_pos hf]
      have hw := writeF_ok (put_okW k hf)
      rw [hw]
      exact put_small k hf
    · rename_i hf
      exact absurd h hf
/-- The message that a request goes in. -/
def askM (ch : Nat) (nm : ByteArray) (want : Bool) (data : List UInt8) : Mg := ⟨98, ch, 0, 0, 0, 0, nm, ⟨#[]⟩, want, data⟩
theorem askM_own (ch : Nat) (nm : ByteArray) (want : Bool) (data : List UInt8) : ownM (askM ch nm want data) = askM ch nm want data := rfl
theorem askM_ok (ch : Nat) (k : Rw) (want : Bool) (data : List UInt8) (hc : ch < 4294967296) : (askM ch k.name want data).Ok :=
  ⟨by simp [askM], hc, by simp [askM], by simp [askM], by simp [askM], by simp [askM], by show k.name.size ≤ _; unfold maxLen; cases k <;> decide, by show (0 : Nat) ≤ _; exact Nat.zero_le _⟩
theorem askM_enc (ch : Nat) (k : Rw) (want : Bool) (data : List UInt8) (hd : data.length ≤ 3000) : (encF (askM ch k.name want data)).1 = 0 := by
  have hw : wordOk 1 k.name = true := by cases k <;> rfl
  have hl : k.name.data.toList.length ≤ 64 := by cases k <;> decide
  have hl2 : k.name.size ≤ 64 := by cases k <;> decide
  have e : encF (askM ch k.name want data) = writeF (kfm (askM ch k.name want data) :: [Pl.chan, Pl.name, Pl.want, Pl.rest].map (Pl.fld (askM ch k.name want data))) := by
    have h1 : look (askM ch k.name want data).kind tab = some [Pl.chan, Pl.name, Pl.want, Pl.rest] := rfl
    have h2 : [Pl.chan, Pl.name, Pl.want, Pl.rest].all (Pl.ok (askM ch k.name want data)) = true := by simp [Pl.ok, askM, hw]
    unfold encF
    rw [h1]
    simp only
    rw [if_pos h2]
  rw [e, writeF_ok]
  refine ⟨rfl, ?_, ?_⟩
  · intro f hf
    simp only [List.map_cons, List.map_nil, List.mem_cons, List.not_mem_nil, or_false] at hf
    rcases hf with rfl | rfl | rfl | rfl | rfl
    · rfl
    · exact flt3 _
    · exact flt4 (by simp only [askM]; omega)
    · exact flt2 _
    · simp only [Pl.fld, fault, askM]
      simp; omega
  · simp only [List.map_cons, List.map_nil, encs_cons, List.length_append, Pl.fld, kfm, askM]
    rw [enc3_len, enc4_len, enc2_len]
    simp [enc, encs]
    omega
theorem put_x (w : World) (A : Option Addr) (c n k : Nat) (p q : List UInt8) (hX : Hid (putF p = (0, q))) (hn : p.length = n) (hk : q.length = k) (hb : Hid (SlB w w.heap.size A c p)) (hl : n ≤ maxLen) :
    Calls Tryz.prog 15 #[.slice A n c] w fun e w' => ∃ A' c', e = .returned (.tuple #[.slice A' k c', .int .i64 0]) ∧ Hid (w'.ownsRow w.heap.size 5 1 (.slice A' k c') k (bv q)) ∧ Hid (Below w.heap.size w w') := by
  subst hn; subst hk
  refine (fput_any w _ A c p hb.out (Nat.le_refl _) hl).mono ?_
  rw [hX.out]
  rintro e w' ⟨A1, c1, rfl, ho, hb⟩
  exact ⟨A1, c1, rfl, ho, hb⟩
theorem putF_ok {p : List UInt8} (h : 1 ≤ p.length ∧ p.length ≤ 33792) : putF p = (0, four p.length ++ p) := by unfold putF; rw [if_neg (by omega)]
theorem nextF_nil : nextF [] = (0, 3) := by simp [nextF]
theorem feed_put {p : List UInt8} (h : 1 ≤ p.length ∧ p.length ≤ 33792) : feedX false ([] ++ (four p.length ++ p)) = ([p], [], 0) := by
  have h1 : nextF (four p.length ++ p) = (4 + p.length, 0) := by
    unfold nextF
    have hl : (four p.length ++ p).length = 4 + p.length := by rw [List.length_append, four_len]
    rw [num4_four _ (by omega), if_neg (by omega), if_neg (by omega), if_neg (by omega)]
  rw [List.nil_append]
  unfold feedX
  simp only [Bool.false_eq_true, if_false]
  rw [feedF_next h1]
  have h2 : (four p.length ++ p).take (4 + p.length) = four p.length ++ p := List.take_of_length_le (by rw [List.length_append, four_len]; omega)
  have h3 : (four p.length ++ p).drop (4 + p.length) = [] := List.drop_of_length_le (by rw [List.length_append, four_len]; omega)
  rw [h2, h3, feedF_short nextF_nil]
  rfl
theorem feed_one (w : World) (A : Option Addr) (c n k : Nat) (p b : List UInt8) (hX : Hid (feedX false ([] ++ p) = ([b], [], 0))) (hn : p.length = n) (hk : b.length = k) (hb : Hid (SlB w w.heap.size A c p)) (hl : n ≤ 900000) :
    Calls Tryz.prog 16 #[.agg #[.slice none 0 0, .bool false], .slice A n c] w fun e w' => ∃ A1 c1 gl lc, e = .returned (.tuple #[.agg #[.slice A1 0 c1, .bool false], .slice (some ⟨gl, 0, none⟩) 1 lc, .int .i64 0]) ∧ ∃ A2 c2, Hid (w'.cell? ⟨gl, 0, none⟩ = some (.slice A2 k c2)) ∧ Hid (SlB w' w'.heap.size A2 c2 b) ∧ Hid (Below w.heap.size w w') := by
  subst hn; subst hk
  refine (feed_any w w.heap.size none A 0 c [] p false ⟨Nat.le_refl _, Nat.zero_le _, fun _ => rfl, Lies.nil_⟩ hb.out (Nat.le_refl _) (by simpa using hl)).mono ?_
  rw [hX.out]
  rintro e w' ⟨A1, c1, LA, lc, cs, M, rfl, _, _, _, hol, hpl, _, hbl⟩
  obtain ⟨gl, hg⟩ : ∃ g, LA = some ⟨g, 0, none⟩ := by
    rcases hol.2 with ⟨_, h0⟩ | ⟨g, cap, cur, hv, _⟩
    · simp at h0
    · injection hv with hv
      exact ⟨g, hv⟩
  subst hg
  obtain ⟨A2, c2, h1, h2⟩ := hpl.2 0 (by simp)
  refine ⟨A1, c1, gl, lc, rfl, A2, c2, ?_, own_slb (n := 0) h2, hbl⟩
  have := hol.cells (g := gl) rfl 0 _ h1
  show _ = _
  rw [Addr.add_lit] at this
  simpa using this

theorem fds_lit (w : World) : FdsV (w.alloc (.cells #[.int .i64 2, .int .u32 1, .slice none 0 0, .slice none 0 0] 74)) (w.alloc (.cells #[.int .i64 2, .int .u32 1, .slice none 0 0, .slice none 0 0] 74)).heap.size (some ⟨w.heap.size, 0, none⟩) [⟨2, 1, [], []⟩] := fun _ =>
  ⟨w.heap.size, 0, rfl, by simp, fun k hk => by
    have hk0 : k = 0 := by simp at hk; omega
    subst hk0
    have hx := Box.new w 74 #[.int .i64 2, .int .u32 1, .slice none 0 0, .slice none 0 0]
    exact ⟨none, 0, none, 0, ⟨none, 0, none, 0, rfl, by show (1 : Nat) < _; decide, by show (-9223372036854775808 : Int) ≤ 2 ∧ (2 : Int) ≤ _; decide, Nat.zero_le _, Nat.zero_le _, ⟨Nat.le_refl _, Nat.le_refl _⟩, Lies.nil_, Lies.nil_, by simp⟩, hx.cell 0, hx.cell 1, hx.cell 2, hx.cell 3⟩⟩
theorem shaken_w (W : World) (g : Nat) (hg : W.heap.size = g) : Calls Tryz.prog 22 #[.slice (some ⟨g, 0, none⟩) 1 1] (W.alloc (.cells #[.int .i64 2, .int .u32 1, .slice none 0 0, .slice none 0 0] 74)) fun e w' => ∃ A1 c1, e = .returned (.tuple #[.slice A1 1 c1, .int .i64 0]) ∧ Hid (SlB w' w'.heap.size A1 c1 [1]) ∧ Hid (Below W.heap.size W w') := by
  subst hg
  refine (write_n _ _ 1 1 [⟨2, 1, [], []⟩] rfl (fds_lit W) (Nat.le_refl _) (by unfold maxLen; omega)).mono ?_
  have e : writeF [⟨2, 1, [], []⟩] = (0, [1]) := by kernel_rfl
  rw [e]
  rintro e w' ⟨A1, c1, rfl, ho, hb⟩
  exact ⟨A1, c1, rfl, own_slb (n := 0) (base := (W.alloc (.cells #[.int .i64 2, .int .u32 1, .slice none 0 0, .slice none 0 0] 74)).heap.size) ho, (bel1 W _).trans (hb.mono (by simp))⟩
theorem bytes_lit (w : World) (A : Option Addr) (c n g : Nat) (bs : List UInt8) (C : Array Value) (hC : C.toList = bv bs) (hn : Hid (bs.length = n)) (hg : w.heap.size = g) (hl : n ≤ 1000) (h : Hid (Lies w w.heap.size A (bv bs))) :
    Calls Tryz.prog 9 #[.slice A n c, .slice (some ⟨g, 0, none⟩) n n] (w.alloc (.cells C 5)) fun e w' => e = .returned (.bool true) ∧ Hid (Below w.heap.size w w') := by
  have h1 := hn.out
  subst h1; subst hg
  have hL := lit_lies w C 5 (0, 0) w.heap.size rfl
  rw [hC] at hL
  refine (bytes_any _ w.heap.size (w.heap.size + 1) A (some ⟨w.heap.size, 0, none⟩) c _ bs bs (h.out.below (bel1 w _)) hL (by unfold maxLen; omega) (by unfold maxLen; omega)).mono ?_
  rintro e w' ⟨rfl, k, rfl⟩
  exact ⟨by simp, bel_drewN (bel1 w _) k⟩

set_option maxHeartbeats 2000000 in
set_option maxRecDepth 100000 in
theorem shaken_any (w : World) : Calls Tryz.prog 13 #[] w fun e w' => e = .returned (.bool true) ∧ Hid (Below w.heap.size w w') := by
  have HP : Hid (putF [1] = (0, [0, 0, 0, 1, 1])) := by show _ = _; kernel_rfl
  have HFd : Hid (feedX false ([] ++ [0, 0, 0, 1, 1]) = ([[1]], [], 0)) := feed_put (p := [1]) (by simp)
  go_enter Tryz.func13, Tryz.ntmps13
  go_wp2_with (first
    | (go_at_call 22
       ((with_reducible refine (shaken_w _ _ (by simp)).mono ?_); rintro e w1 ⟨A1, c1, rfl, HS1, HB1⟩))
    | (go_at_call 15
       ((with_reducible refine (put_x _ A1 c1 1 5 [1] _ HP rfl rfl HS1 (by unfold maxLen; omega)).mono ?_); rintro e w2 ⟨A2, c2, rfl, HO2, HB2⟩)
       have HS2 : Hid (SlB w2 w2.heap.size A2 c2 [0, 0, 0, 1, 1]) := own_slb (n := 0) (base := w1.heap.size) HO2.out)
    | (go_at_call 16
       ((with_reducible refine (feed_one _ A2 c2 5 1 _ [1] HFd rfl rfl HS2 (by omega)).mono ?_); rintro e w3 ⟨A3, c3, gl, lc, rfl, A4, c4, HC3, HS3, HB3⟩)
       have cl : ∀ o, (w3.alloc o).cell? ⟨gl, 0, none⟩ = some (.slice A4 1 c4) := fun o => ((bel1 w3 o).cell (p := ⟨gl, 0, none⟩) (World.block_lt_of_cell? w3 _ HC3.out)).trans HC3.out
       have HL3 : ∀ o, Hid (Lies (w3.alloc o) (w3.alloc o).heap.size A4 (bv [1])) := fun o => hid ((HS3.out.2.2.2.below (bel1 w3 o)).more (by simp)))
    | (go_at_call 9
       ((with_reducible refine (bytes_lit _ A4 c4 1 _ [1] #[.int .u8 1] (by simp [bv]) (hid rfl) (by simp) (by omega) (HL3 _)).mono ?_); rintro e w4 ⟨rfl, HB4⟩)))
  go_ret
  exact ⟨rfl, (bel_trans (bel_trans (bel_trans HB1 HB2) HB3) (hid ((bel1 w3 _).trans (HB4.out.mono (by simp))))).out⟩

end Go.Proofs.YtfcepcdgflkgnaaGreatDoor
