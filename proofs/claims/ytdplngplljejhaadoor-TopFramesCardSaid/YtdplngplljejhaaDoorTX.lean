import Derived.Test.YtdplngplljejhaaDoorTO
namespace Go.Proofs.YtdplngplljejhaaDoor
open Go.RowKit

theorem lisV_own {w : World} {base k lc : Nat} {LA : Option Addr} {ps : List (List UInt8)} {cs : List Value} (ho : w.ownsRow base 22 1 (.slice LA k lc) k cs)
    (h : cs.length = ps.length ∧ ∀ k (h : k < ps.length), ∃ A c, cs[k]? = some (.slice A ps[k].length c) ∧ SlB w w.heap.size A c ps[k]) : LisV w w.heap.size LA ps := fun hne => by
  have hcn : cs ≠ [] := by
    intro e
    have := h.1
    rw [e] at this
    exact hne (List.eq_nil_of_length_eq_zero this.symm)
  obtain ⟨b, o, e, hb, hc⟩ := Lies.own ho hcn
  exact ⟨b, o, e, hb, fun k hk => by obtain ⟨A, c, h1, h2⟩ := h.2 k hk; exact ⟨A, c, hc k _ h1, h2⟩⟩
theorem PL.lis {w : World} {base base2 k lc : Nat} {LA : Option Addr} {ps : List (List UInt8)} {cs : List Value} (h : PL w base2 ps cs) (ho : w.ownsRow base 22 1 (.slice LA k lc) k cs) : LisV w w.heap.size LA ps :=
  lisV_own ho ⟨h.1, fun k hk => by obtain ⟨A, c, h1, h2⟩ := h.2 k hk; exact ⟨A, c, h1, own_slb (n := 0) h2⟩⟩
theorem PL.below {w w' : World} {base : Nat} {ps : List (List UInt8)} {cs : List Value} (h : PL w base ps cs) (k : Below w.heap.size w w') : PL w' base ps cs :=
  ⟨h.1, fun i hi => by obtain ⟨A, c, h1, h2⟩ := h.2 i hi; exact ⟨A, c, h1, own_keep h2 k⟩⟩
structure FedK (W w2 : World) (ps : List (List UInt8)) (left : List UInt8) (A : Option Addr) (m c : Nat) (LA : Option Addr) (k lc : Nat) : Prop where
  lenp : ps.length = k
  lenl : left.length = m
  more : ∃ M cs, W.heap.size ≤ M ∧ M ≤ w2.heap.size ∧ w2.ownsRow M 5 1 (.slice A m c) m (bv left) ∧ w2.ownsRow W.heap.size 22 1 (.slice LA k lc) k cs ∧ PL w2 W.heap.size ps cs ∧ (∀ v ∈ cs, ∀ g, v.ownBlock = some g → g < M)
  bel : Below W.heap.size W w2
theorem FedK.slb {W w2 : World} {ps : List (List UInt8)} {left : List UInt8} {A LA : Option Addr} {m c k lc : Nat} (h : FedK W w2 ps left A m c LA k lc) : SlB w2 w2.heap.size A c left := by
  obtain ⟨M, cs, _, _, h3, _⟩ := h.more
  rw [← h.lenl] at h3
  exact own_slb (n := 0) h3
theorem FedK.lis {W w2 : World} {ps : List (List UInt8)} {left : List UInt8} {A LA : Option Addr} {m c k lc : Nat} (h : FedK W w2 ps left A m c LA k lc) : LisV w2 w2.heap.size LA ps := by
  obtain ⟨M, cs, _, _, _, h4, h5, _⟩ := h.more
  exact h5.lis h4
theorem feed_n (W : World) (B : Nat) (FA A : Option Addr) (fc c fn n k m : Nat) (fb b : List UInt8) (bad bd : Bool) (ps : List (List UInt8)) (left : List UInt8) (er : Int) (hX : Hid (feedX bad (fb ++ b) = (ps, left, er))) (hf : Hid (SlB W B FA fc fb)) (hb : Hid (SlB W B A c b)) (hB : Hid (B ≤ W.heap.size))
    (hfn : Hid (fb.length = fn)) (hn : Hid (b.length = n)) (hl : fn + n ≤ 900000) (hk : Hid (ps.length = k)) (hm : Hid (left.length = m)) (hbd : Hid (decide (er ≠ 0) = bd)) :
    Calls Tryd.prog 15 #[.agg #[.slice FA fn fc, .bool bad], .slice A n c] W fun e w2 => ∃ A1 c1 LA lc, e = .returned (.tuple #[.agg #[.slice A1 m c1, .bool bd], .slice LA k lc, .int .i64 er]) ∧ Hid (FedK W w2 ps left A1 m c1 LA k lc) := by
  have h1 := hfn.out
  have h2 := hn.out
  subst h1; subst h2
  refine (feed_any W B FA A fc c fb b bad hf.out hb.out hB.out hl).mono ?_
  rw [hX.out]
  rintro e w2 ⟨A1, c1, LA, lc, cs, M, rfl, h1, h2, h3, h4, h5, h6, h7⟩
  refine ⟨A1, c1, LA, lc, ?_, hk.out, hm.out, ⟨M, cs, h1, h2, ?_, ?_, h5, h6⟩, h7⟩
  · rw [hk.out, hm.out, hbd.out]
  · rw [← hm.out]; exact h3
  · rw [← hk.out]; exact h4
theorem nextF_nil : nextF [] = (0, 3) := by simp [nextF]
theorem feed_put {p : List UInt8} (h : 1 ≤ p.length ∧ p.length ≤ 33792) : feedX false ([] ++ (four p.length ++ p)) = ([p], [], 0) := by
  have h1 : nextF (four p.length ++ p) = (4 + p.length, 0) := by
    unfold nextF
    have hl : (four p.length ++ p).length = 4 + p.length := by rw [List.length_append, four_len]
    rw [num4_four _ (by omega), if_neg (by omega), if_neg (by omega), if_neg (by omega)]
  rw [List.nil_append]
  unfold feedX
  simp only [Bool.false_eq_true, if_false]
  rw [feedF_next h1]
  have h2 : (four p.length ++ p).take (4 + p.length) = four p.length ++ p := List.take_of_length_le (by rw [List.length_append, four_len]; omega)
  have h3 : (four p.length ++ p).drop (4 + p.length) = [] := List.drop_of_length_le (by rw [List.length_append, four_len]; omega)
  rw [h2, h3, feedF_short nextF_nil]
  rfl
theorem feed_one (w : World) (A : Option Addr) (c n k : Nat) (p b : List UInt8) (hX : Hid (feedX false ([] ++ p) = ([b], [], 0))) (hn : p.length = n) (hk : b.length = k) (hb : Hid (SlB w w.heap.size A c p)) (hl : n ≤ 900000) :
    Calls Tryd.prog 15 #[.agg #[.slice none 0 0, .bool false], .slice A n c] w fun e w' => ∃ A1 c1 gl lc, e = .returned (.tuple #[.agg #[.slice A1 0 c1, .bool false], .slice (some ⟨gl, 0, none⟩) 1 lc, .int .i64 0]) ∧ ∃ A2 c2, Hid (w'.cell? ⟨gl, 0, none⟩ = some (.slice A2 k c2)) ∧ Hid (SlB w' w'.heap.size A2 c2 b) ∧ Hid (Below w.heap.size w w') := by
  subst hn; subst hk
  refine (feed_any w w.heap.size none A 0 c [] p false ⟨Nat.le_refl _, Nat.zero_le _, fun _ => rfl, Lies.nil_⟩ hb.out (Nat.le_refl _) (by simpa using hl)).mono ?_
  rw [hX.out]
  rintro e w' ⟨A1, c1, LA, lc, cs, M, rfl, _, _, _, hol, hpl, _, hbl⟩
  obtain ⟨gl, hg⟩ : ∃ g, LA = some ⟨g, 0, none⟩ := by
    rcases hol.2 with ⟨_, h0⟩ | ⟨g, cap, cur, hv, _⟩
    · simp at h0
    · injection hv with hv
      exact ⟨g, hv⟩
  subst hg
  obtain ⟨A2, c2, h1, h2⟩ := hpl.2 0 (by simp)
  refine ⟨A1, c1, gl, lc, rfl, A2, c2, ?_, own_slb (n := 0) h2, hbl⟩
  have := hol.cells (g := gl) rfl 0 _ h1
  show _ = _
  rw [Addr.add_lit] at this
  simpa using this

theorem fds_lit (w : World) : FdsV (w.alloc (.cells #[.int .i64 2, .int .u32 1, .slice none 0 0, .slice none 0 0] 80)) (w.alloc (.cells #[.int .i64 2, .int .u32 1, .slice none 0 0, .slice none 0 0] 80)).heap.size (some ⟨w.heap.size, 0, none⟩) [⟨2, 1, [], []⟩] := fun _ =>
  ⟨w.heap.size, 0, rfl, by simp, fun k hk => by
    have hk0 : k = 0 := by simp at hk; omega
    subst hk0
    have hx := Box.new w 80 #[.int .i64 2, .int .u32 1, .slice none 0 0, .slice none 0 0]
    exact ⟨none, 0, none, 0, ⟨none, 0, none, 0, rfl, by show (1 : Nat) < _; decide, by show (-9223372036854775808 : Int) ≤ 2 ∧ (2 : Int) ≤ _; decide, Nat.zero_le _, Nat.zero_le _, ⟨Nat.le_refl _, Nat.le_refl _⟩, Lies.nil_, Lies.nil_, by simp⟩, hx.cell 0, hx.cell 1, hx.cell 2, hx.cell 3⟩⟩
theorem shaken_w (W : World) (g : Nat) (hg : W.heap.size = g) : Calls Tryd.prog 27 #[.slice (some ⟨g, 0, none⟩) 1 1] (W.alloc (.cells #[.int .i64 2, .int .u32 1, .slice none 0 0, .slice none 0 0] 80)) fun e w' => ∃ A1 c1, e = .returned (.tuple #[.slice A1 1 c1, .int .i64 0]) ∧ Hid (SlB w' w'.heap.size A1 c1 [1]) ∧ Hid (Below W.heap.size W w') := by
  subst hg
  refine (write_n _ _ 1 1 [⟨2, 1, [], []⟩] rfl (fds_lit W) (Nat.le_refl _) (by unfold maxLen; omega)).mono ?_
  have e : writeF [⟨2, 1, [], []⟩] = (0, [1]) := by kernel_rfl
  rw [e]
  rintro e w' ⟨A1, c1, rfl, ho, hb⟩
  exact ⟨A1, c1, rfl, own_slb (n := 0) (base := (W.alloc (.cells #[.int .i64 2, .int .u32 1, .slice none 0 0, .slice none 0 0] 80)).heap.size) ho, (bel1 W _).trans (hb.mono (by simp))⟩
theorem bytes_lit (w : World) (A : Option Addr) (c n g : Nat) (bs : List UInt8) (C : Array Value) (hC : C.toList = bv bs) (hn : Hid (bs.length = n)) (hg : w.heap.size = g) (hl : n ≤ 1000) (h : Hid (Lies w w.heap.size A (bv bs))) :
    Calls Tryd.prog 9 #[.slice A n c, .slice (some ⟨g, 0, none⟩) n n] (w.alloc (.cells C 5)) fun e w' => e = .returned (.bool true) ∧ Hid (Below w.heap.size w w') := by
  have h1 := hn.out
  subst h1; subst hg
  have hL := lit_lies w C 5 (0, 0) w.heap.size rfl
  rw [hC] at hL
  refine (bytes_any _ w.heap.size (w.heap.size + 1) A (some ⟨w.heap.size, 0, none⟩) c _ bs bs (h.out.below (bel1 w _)) hL (by unfold maxLen; omega) (by unfold maxLen; omega)).mono ?_
  rintro e w' ⟨rfl, k, rfl⟩
  exact ⟨by simp, bel_drewN (bel1 w _) k⟩

set_option maxHeartbeats 2000000 in
set_option maxRecDepth 100000 in
theorem shaken_any (w : World) : Calls Tryd.prog 10 #[] w fun e w' => e = .returned (.bool true) ∧ Hid (Below w.heap.size w w') := by
  have HFd : Hid (feedX false ([] ++ [0, 0, 0, 1, 1]) = ([[1]], [], 0)) := feed_put (p := [1]) (by simp)
  go_enter Tryd.func10, Tryd.ntmps10
  go_wp2_with (first
    | (go_at_call 27
       ((with_reducible refine (shaken_w _ _ (by simp)).mono ?_); rintro e w1 ⟨A1, c1, rfl, HS1, HB1⟩))
    | (go_at_call 13
       ((with_reducible refine (put_x _ A1 c1 1 5 [1] (by simp) rfl rfl HS1).mono ?_); rintro e w2 ⟨A2, c2, rfl, HO2, HB2⟩)
       have HS2 : Hid (SlB w2 w2.heap.size A2 c2 [0, 0, 0, 1, 1]) := own_slb (n := 0) (base := w1.heap.size) HO2.out)
    | (go_at_call 15
       ((with_reducible refine (feed_one _ A2 c2 5 1 _ [1] HFd rfl rfl HS2 (by omega)).mono ?_); rintro e w3 ⟨A3, c3, gl, lc, rfl, A4, c4, HC3, HS3, HB3⟩)
       have cl : ∀ o, (w3.alloc o).cell? ⟨gl, 0, none⟩ = some (.slice A4 1 c4) := fun o => ((bel1 w3 o).cell (p := ⟨gl, 0, none⟩) (World.block_lt_of_cell? w3 _ HC3.out)).trans HC3.out
       have HL3 : ∀ o, Hid (Lies (w3.alloc o) (w3.alloc o).heap.size A4 (bv [1])) := fun o => hid ((HS3.out.2.2.2.below (bel1 w3 o)).more (by simp)))
    | (go_at_call 9
       ((with_reducible refine (bytes_lit _ A4 c4 1 _ [1] #[.int .u8 1] (by simp [bv]) (hid rfl) (by simp) (by omega) (HL3 _)).mono ?_); rintro e w4 ⟨rfl, HB4⟩)))
  go_ret
  exact ⟨rfl, (bel_trans (bel_trans (bel_trans HB1 HB2) HB3) (hid ((bel1 w3 _).trans (HB4.out.mono (by simp))))).out⟩

/-- What holds behind some pieces that were handed to the framer, which lies behind u. -/
structure L2 (u wr : World) (P : List (List UInt8)) (W : List Mg) (T : Nat) (SA : Option Addr) (sn sc : Nat) (st : List UInt8) (WA : Option Addr) (wk wc : Nat) (FA : Option Addr) (fc fl : Nat) (got : List (List UInt8)) (fbuf : List UInt8) : Prop where
  fed : Fed P got fbuf st T
  slen : st.length = sn
  str : SlB u u.heap.size SA sc st
  want : MsgsV u u.heap.size WA (W.drop got.length)
  wlen : (W.drop got.length).length = wk
  wcap : wk ≤ wc ∧ wc ≤ maxLen
  flen : fbuf.length = fl
  fbox : Box wr u.heap.size 47 #[.slice FA fl fc, .bool false]
  fown : wr.ownsRow u.heap.size 5 1 (.slice FA fl fc) fl (bv fbuf)
  bel : Below u.heap.size u wr
theorem L2.next {u wr w7 w8 : World} {P : List (List UInt8)} {W : List Mg} {T : Nat} {SA : Option Addr} {sn sc : Nat} {st : List UInt8} {WA : Option Addr} {wk wc : Nat} {FA : Option Addr} {fc fl : Nat} {got : List (List UInt8)} {fbuf : List UInt8}
    (h : L2 u wr P W T SA sn sc st WA wk wc FA fc fl got fbuf) {sm : List (List UInt8)} {left : List UInt8} {A7 LA7 : Option Addr} {m7 c7 k7 lc7 : Nat} (hk : FedK wr.drew w7 sm left A7 m7 c7 LA7 k7 lc7)
    (hw8 : w8 = (w7.setCell ⟨u.heap.size, 0, none⟩ (.slice A7 m7 c7)).setCell ⟨u.heap.size, 1, none⟩ (.bool false)) :
    Hid (Box w8 u.heap.size 47 #[.slice A7 m7 c7, .bool false]) ∧ Hid (w8.ownsRow u.heap.size 5 1 (.slice A7 m7 c7) m7 (bv left)) ∧ Hid (LisV w8 w8.heap.size LA7 sm) ∧ Hid (Below u.heap.size u w8) ∧ Hid (left.length = m7) ∧ Hid (sm.length = k7) := by
  subst hw8
  obtain ⟨M, cs7, hM1, hM2, ho5, hl7, hp7, _⟩ := hk.more
  have hbd : Below wr.heap.size wr w7 := (bel_drewN (Below.refl _ wr) 1).trans hk.bel
  have hw : u.heap.size ≤ wr.heap.size := h.bel.size
  obtain ⟨hx8, hb8, hk8⟩ := two_fin (u0 := .slice A7 m7 c7) (u1 := .bool false) (h.bel.trans (hbd.mono hw)) (Nat.le_refl _) (box_below h.fbox hbd)
  exact ⟨hx8, own_mono (hk8.own ho5 (by decide)) (Nat.le_trans hw hM1), (hp7.kept hk8 (by decide)).lis (hk8.own hl7 (by decide)), hb8, hk.lenl, hk.lenp⟩
theorem L2.fin {u wr w9 : World} {P : List (List UInt8)} {W : List Mg} {T : Nat} {SA SA' : Option Addr} {sn sc sn' sc' : Nat} {st st' : List UInt8} {WA WA' : Option Addr} {wk wc wk' wc' : Nat} {FA A7 : Option Addr} {fc fl m7 c7 : Nat} {got sm : List (List UInt8)} {fbuf left : List UInt8} {w8 : World}
    (h : L2 u wr P W T SA sn sc st WA wk wc FA fc fl got fbuf) (hf : Hid (Fed P (got ++ sm) left st' T)) (hs : Hid (SlB u u.heap.size SA' sc' st')) (hsl : Hid (st'.length = sn')) (h1 : Hid (Box w8 u.heap.size 47 #[.slice A7 m7 c7, .bool false])) (h2 : Hid (w8.ownsRow u.heap.size 5 1 (.slice A7 m7 c7) m7 (bv left))) (h3 : Hid (Below u.heap.size u w8)) (h4 : Hid (left.length = m7))
    (h5 : Hid (Below w8.heap.size w8 w9)) (h6 : Hid (MsgsV u u.heap.size WA' (W.drop (got.length + sm.length)))) (h7 : Hid ((W.drop (got.length + sm.length)).length = wk')) (h8 : wk' ≤ wc' ∧ wc' ≤ maxLen) : Hid (L2 u w9 P W T SA' sn' sc' st' WA' wk' wc' A7 c7 m7 (got ++ sm) left) :=
  hid { fed := hf.out
        slen := hsl.out
        str := hs.out
        want := by rw [List.length_append]; exact h6.out
        wlen := by rw [List.length_append]; exact h7.out
        wcap := h8
        flen := h4.out
        fbox := box_below h1.out h5.out
        fown := own_keep h2.out h5.out
        bel := h3.out.trans (h5.out.mono h3.out.size) }
/-- The payload that came says what the message at its place says. -/
theorem Good.at_ {P got sm : List (List UInt8)} {W : List Mg} {left st : List UInt8} {T k : Nat} (h : Good P W) (hf : Fed P (got ++ sm) left st T) (hk : k < sm.length) :
    ∃ (m : Mg) (rest : List Mg), W.drop (got.length + k) = m :: rest ∧ decF sm[k] = (0, m) ∧ W.drop (got.length + (k + 1)) = rest := by
  obtain ⟨r, hP, _⟩ := hf.rest
  obtain ⟨h1, _, h3⟩ := h
  have hlP : got.length + k < P.length := by rw [hP]; simp; omega
  have hlW : got.length + k < W.length := by omega
  refine ⟨W[got.length + k], W.drop (got.length + k + 1), List.drop_eq_getElem_cons hlW, ?_, rfl⟩
  rw [← h3 _ hlP hlW]
  congr 1
  subst hP
  rw [List.getElem_append_left (by simp; omega), List.getElem_append_right (by omega)]
  congr 1
  omega
theorem Good.end_ {P : List (List UInt8)} {W : List Mg} (h : Good P W) : W.drop P.length = [] := List.drop_eq_nil_of_le (by rw [h.1]; exact Nat.le_refl _)
theorem isM_two {w w' : World} {g b o c c' : Nat} {A A' : Option Addr} {m m' : Mg} (h1 : Box w' g 40 (m.cells A c)) (h2 : w.rangeAt b o (m'.cells A' c').toList) (hb : b < w.heap.size) (k : Below w.heap.size w w') :
    isM w' (.pointer (some ⟨g, 0, none⟩)) = true ∧ csM w' (.pointer (some ⟨g, 0, none⟩)) = m.cells A c ∧ isM w' (.pointer (some ⟨b, o, none⟩)) = true ∧ csM w' (.pointer (some ⟨b, o, none⟩)) = m'.cells A' c' := by
  have h3 := isM_of (box_range h1)
  have h4 : w'.rangeAt b o (m'.cells A' c').toList := fun j v hj => (k.cell (p := ⟨b, o + j, none⟩) hb).trans (h2 j v hj)
  exact ⟨h3.1, h3.2, (isM_of h4).1, (isM_of h4).2⟩
theorem decode_x (w : World) (A : Option Addr) (c n : Nat) (b : List UInt8) (m : Mg) (mm : Int) (hX : Hid (decF b = (0, m))) (hn : b.length = n) (hb : Hid (SlB w w.heap.size A c b)) (hmm : Hid (w.cell? ⟨0, 0, none⟩ = some (.int .i64 mm))) :
    Calls Tryd.prog 16 #[.slice A n c] w fun e w' => ∃ A1 c1, e = .returned (.tuple #[.agg (m.cells A1 c1), .int .i64 0]) ∧ Hid (SlB w' w'.heap.size A1 c1 m.data) ∧ Hid (Below w.heap.size w w') := by
  subst hn
  refine (decode_any w A c b mm hb.out hmm.out).mono ?_
  rw [hX.out]
  rintro e w' ⟨A1, c1, rfl, ho, hk⟩
  exact ⟨A1, c1, rfl, own_slb (n := 0) ho, hk⟩

end Go.Proofs.YtdplngplljejhaaDoor
