import Derived.Test.YtfpkjocoifoigaaGreatDoorTC
import Derived.Test.YtfpkjocoifoigaaGreatDoorTD
import Derived.Test.YtfpkjocoifoigaaGreatDoorYF
import Derived.Test.YtfpkjocoifoigaaGreatDoorQM
import Derived.Test.YtfpkjocoifoigaaGreatDoorQV
namespace Go.Proofs.YtfpkjocoifoigaaGreatDoor
open Go.RowKit

theorem lies_fds {w : World} {base : Nat} {A : Option Addr} {fs : List Fd} {cs : List Value} (ho : Lies w w.heap.size A cs) (hf : FlatK w base fs cs) (hw : ∀ f ∈ fs, Wf f) : Hid (FdsV w w.heap.size A fs) := fun hne => by
  have hl := hf.length
  have h0 : cs ≠ [] := by
    intro e
    rw [e] at hl
    have : fs.length ≠ 0 := fun h => hne (List.eq_nil_of_length_eq_zero h)
    simp at hl; omega
  obtain ⟨b, o, rfl, hb, hc⟩ := ho h0
  refine ⟨b, o, rfl, hb, fun k hk => ?_⟩
  obtain ⟨tA, tc, g0, g1, g2, g3, g4, g5⟩ := flatK_at fs cs hf k hk
  obtain ⟨w1, w2, w3⟩ := hw fs[k] (List.getElem_mem hk)
  have e0 : fs[k].list.length = 0 := by rw [g4]; rfl
  refine ⟨tA, tc, none, 0, ⟨tA, tc, none, 0, rfl, w1, w2, Nat.le_trans g5.1 g5.2.1, by rw [e0]; exact Nat.zero_le _, ⟨g5.1, by rw [e0]; exact Nat.le_refl _⟩, g5.lies, by rw [g4]; exact Lies.nil_, w3⟩, hc _ _ g0, ?_, ?_, ?_⟩
  · rw [Nat.add_assoc]; exact hc _ _ g1
  · rw [Nat.add_assoc]; exact hc _ _ g2
  · rw [Nat.add_assoc, e0]; exact hc _ _ g3

set_option maxHeartbeats 2000000 in
theorem qfields_any (k : Rw) (r : Rq) (A : Option Addr) (c n : Nat) (kd : Int) (base : Nat) (w : World) (hk : kd = k.kind) (hn : r.modes.length = n) (hr : r.Ok) (s1 : r.text.size ≤ maxLen) (s2 : r.value.size ≤ maxLen) (s3 : r.lang.size ≤ maxLen) (hd : Hid (TK w base A c r.modes)) (hb : base ≤ w.heap.size) :
    Calls Tryz.prog 25 #[.agg #[.int .i64 kd, .string r.text, .string r.value, .string r.lang, .int .u32 r.cols, .int .u32 r.rows, .int .u32 r.width, .int .u32 r.height, .slice A n c, .bool r.on, .int .u32 r.code]] w fun e w' => ∃ A' c', e = .returned (.slice A' (k.put r .zero).fs.length c') ∧ Hid (FdsV w' w'.heap.size A' (k.put r .zero).fs) ∧ Hid (Below w.heap.size w w') := by
  subst hk
  cases k
  · refine (qfields_pty base r.cols r.rows r.width r.height r.code n c _ r.text r.value r.lang r.modes r.on A w hb rfl s1 hn hd).mono ?_
    rintro e w' ⟨hb2, A', c', rfl, hcs⟩
    obtain ⟨_, _, cs, hl, hf⟩ := hcs.out
    exact ⟨A', c', rfl, lies_fds hl hf (put_wf .pty hr), hb2⟩
  · refine (qfields_env base r.cols r.rows r.width r.height r.code n c _ _ _ _ r.text r.value r.lang r.on A w hb rfl rfl rfl rfl s1 s2 s3).mono ?_
    rintro e w' ⟨hb2, A', rfl, hcs⟩
    obtain ⟨cs, hl, hf⟩ := hcs.out
    exact ⟨A', 2, rfl, lies_fds hl hf (put_wf .env hr), hb2⟩
  · refine (qfields_shell base r.cols r.rows r.width r.height r.code n c r.text r.value r.lang r.on A w hb s1).mono ?_
    rintro e w' ⟨hb2, rfl⟩
    exact ⟨none, 0, rfl, fun h => absurd rfl h, hb2⟩
  · refine (qfields_exec base r.cols r.rows r.width r.height r.code n c r.text r.value r.lang r.on A w hb s1).mono ?_
    rintro e w' ⟨hb2, A', rfl, hcs⟩
    obtain ⟨cs, hl, hf⟩ := hcs.out
    exact ⟨A', 1, rfl, lies_fds hl hf (put_wf .exec hr), hb2⟩
  · refine (qfields_subsystem base r.cols r.rows r.width r.height r.code n c r.text r.value r.lang r.on A w hb s1).mono ?_
    rintro e w' ⟨hb2, A', rfl, hcs⟩
    obtain ⟨cs, hl, hf⟩ := hcs.out
    exact ⟨A', 1, rfl, lies_fds hl hf (put_wf .subsystem hr), hb2⟩
  · refine (qfields_change base r.cols r.rows r.width r.height r.code n c r.text r.value r.lang r.on A w hb s1).mono ?_
    rintro e w' ⟨hb2, A', rfl, hcs⟩
    obtain ⟨cs, hl, hf⟩ := hcs.out
    exact ⟨A', 4, rfl, lies_fds hl hf (put_wf .change hr), hb2⟩
  · have hwf := put_wf .xon hr
    cases hon : r.on with
    | true =>
      have e2 : (Rw.put r .zero .xon).fs = [⟨2, 1, [], []⟩] := by
        have h : (Rw.put r .zero .xon).fs = [⟨2, if r.on then 1 else 0, [], []⟩] := rfl
        rw [h, hon]; rfl
      rw [e2] at hwf ⊢
      refine (qfields_xon_true base r.cols r.rows r.width r.height r.code n c r.text r.value r.lang A w hb s1).mono ?_
      rintro e w' ⟨hb2, A', rfl, hcs⟩
      obtain ⟨cs, hl, hf⟩ := hcs.out
      exact ⟨A', 1, rfl, lies_fds hl hf hwf, hb2⟩
    | false =>
      have e2 : (Rw.put r .zero .xon).fs = [⟨2, 0, [], []⟩] := by
        have h : (Rw.put r .zero .xon).fs = [⟨2, if r.on then 1 else 0, [], []⟩] := rfl
        rw [h, hon]; rfl
      rw [e2] at hwf ⊢
      refine (qfields_xon_false base r.cols r.rows r.width r.height r.code n c r.text r.value r.lang A w hb s1).mono ?_
      rintro e w' ⟨hb2, A', rfl, hcs⟩
      obtain ⟨cs, hl, hf⟩ := hcs.out
      exact ⟨A', 1, rfl, lies_fds hl hf hwf, hb2⟩
  · refine (qfields_signal base r.cols r.rows r.width r.height r.code n c r.text r.value r.lang r.on A w hb s1).mono ?_
    rintro e w' ⟨hb2, A', rfl, hcs⟩
    obtain ⟨cs, hl, hf⟩ := hcs.out
    exact ⟨A', 1, rfl, lies_fds hl hf (put_wf .signal hr), hb2⟩
  · refine (qfields_status base r.cols r.rows r.width r.height r.code n c r.text r.value r.lang r.on A w hb s1).mono ?_
    rintro e w' ⟨hb2, A', rfl, hcs⟩
    obtain ⟨cs, hl, hf⟩ := hcs.out
    exact ⟨A', 1, rfl, lies_fds hl hf (put_wf .status hr), hb2⟩
  · have hwf := put_wf .ends hr
    cases hon : r.on with
    | true =>
      have e2 : (Rw.put r .zero .ends).fs = [⟨4, 0, r.text.data.toList, []⟩, ⟨2, 1, [], []⟩, ⟨4, 0, r.value.data.toList, []⟩, ⟨4, 0, r.lang.data.toList, []⟩] := by
        have h : (Rw.put r .zero .ends).fs = [⟨4, 0, r.text.data.toList, []⟩, ⟨2, if r.on then 1 else 0, [], []⟩, ⟨4, 0, r.value.data.toList, []⟩, ⟨4, 0, r.lang.data.toList, []⟩] := rfl
        rw [h, hon]; rfl
      rw [e2] at hwf ⊢
      refine (qfields_ends_true base r.cols r.rows r.width r.height r.code n c _ _ _ r.text r.value r.lang A w hb rfl rfl rfl s1 s2 s3).mono ?_
      rintro e w' ⟨hb2, A', rfl, hcs⟩
      obtain ⟨cs, hl, hf⟩ := hcs.out
      exact ⟨A', 4, rfl, lies_fds hl hf hwf, hb2⟩
    | false =>
      have e2 : (Rw.put r .zero .ends).fs = [⟨4, 0, r.text.data.toList, []⟩, ⟨2, 0, [], []⟩, ⟨4, 0, r.value.data.toList, []⟩, ⟨4, 0, r.lang.data.toList, []⟩] := by
        have h : (Rw.put r .zero .ends).fs = [⟨4, 0, r.text.data.toList, []⟩, ⟨2, if r.on then 1 else 0, [], []⟩, ⟨4, 0, r.value.data.toList, []⟩, ⟨4, 0, r.lang.data.toList, []⟩] := rfl
        rw [h, hon]; rfl
      rw [e2] at hwf ⊢
      refine (qfields_ends_false base r.cols r.rows r.width r.height r.code n c _ _ _ r.text r.value r.lang A w hb rfl rfl rfl s1 s2 s3).mono ?_
      rintro e w' ⟨hb2, A', rfl, hcs⟩
      obtain ⟨cs, hl, hf⟩ := hcs.out
      exact ⟨A', 4, rfl, lies_fds hl hf hwf, hb2⟩

set_option maxHeartbeats 1000000 in
theorem qname_none (kd : Int) (h : kd < 1 ∨ 10 < kd) (w : World) : Calls Tryz.prog 11 #[.int .i64 kd] w fun e w' => e = .returned (.tuple #[.string ⟨#[]⟩, .bool false]) ∧ w = w' := by
  rcases h with h | h
  · go_enter Tryz.func11, Tryz.ntmps11
    go_wp2
    go_ret2
    exact ⟨rfl, rfl⟩
  · have h1 : ¬ kd < 1 := by omega
    go_enter Tryz.func11, Tryz.ntmps11
    go_wp2
    go_ret2
    exact ⟨rfl, rfl⟩
theorem rowK_none {kd : Int} (h : rowK kd Rw.all = none) : kd < 1 ∨ 10 < kd := by
  by_cases h1 : kd < 1
  · exact .inl h1
  · by_cases h2 : 10 < kd
    · exact .inr h2
    · exfalso
      have h3 : kd = 1 ∨ kd = 2 ∨ kd = 3 ∨ kd = 4 ∨ kd = 5 ∨ kd = 6 ∨ kd = 7 ∨ kd = 8 ∨ kd = 9 ∨ kd = 10 := by omega
      rcases h3 with rfl | rfl | rfl | rfl | rfl | rfl | rfl | rfl | rfl | rfl <;> cases h
theorem rowK_some' {k : Int} {x : Rw} : ∀ {l : List Rw}, rowK k l = some x → x.kind = k
  | [], h => by cases h
  | a :: r, h => by
    rw [rowK] at h
    by_cases e : a.kind = k
    · rw [if_pos e] at h
      injection h with h
      rw [← h]; exact e
    · rw [if_neg e] at h
      exact rowK_some' h
theorem qfields_n (k : Rw) (r : Rq) (A : Option Addr) (c n L : Nat) (kd : Int) (fs : List Fd) (base : Nat) (w : World) (hk : Hid (kd = k.kind)) (hn : r.modes.length = n) (hr : Hid r.Ok) (hd : Hid (TK w base A c r.modes)) (hb : base ≤ w.heap.size) (hf : Hid ((k.put r .zero).fs = fs)) (hL : Hid (fs.length = L)) :
    Calls Tryz.prog 25 #[.agg #[.int .i64 kd, .string r.text, .string r.value, .string r.lang, .int .u32 r.cols, .int .u32 r.rows, .int .u32 r.width, .int .u32 r.height, .slice A n c, .bool r.on, .int .u32 r.code]] w fun e w' => ∃ A' c', e = .returned (.slice A' L c') ∧ Hid (FdsV w' w'.heap.size A' fs) ∧ Hid (Below w.heap.size w w') := by
  have h1 := hf.out
  have h2 := hL.out
  subst h1; subst h2
  exact qfields_any k r A c n kd base w hk.out hn hr.out hr.out.text hr.out.value hr.out.lang hd hb
theorem rwrite_n (w : World) (A : Option Addr) (c n k : Nat) (er : Int) (l : List Fd) (bs : List UInt8) (hl : Hid (FdsV w w.heap.size A l)) (hn : Hid (l.length = n)) (hs : n ≤ 1000) (hX : Hid (writeF l = (er, bs))) (hk : Hid (bs.length = k)) :
    Calls Tryz.prog 24 #[.slice A n c] w fun e w' => ∃ A1 c1, e = .returned (.tuple #[.slice A1 k c1, .int .i64 er]) ∧ Hid (w'.ownsRow w.heap.size 5 1 (.slice A1 k c1) k (bv bs)) ∧ Hid (Below w.heap.size w w') := by
  have h1 := hn.out
  have h2 := hk.out
  subst h1; subst h2
  refine (rwrite_any w A c l hl.out hs).mono ?_
  rw [hX.out]
  rintro e w' ⟨A1, c1, rfl, ho, hb⟩
  exact ⟨A1, c1, rfl, ho, hb⟩
theorem fault_n4 (k : Rw) (r : Rq) (A : Option Addr) (c n : Nat) (kd fl : Int) (w : World) (hk : Hid (kd = k.kind)) (hn : r.modes.length = n) (hr : Hid r.Ok) (s4 : n ≤ maxLen) (hF : Hid ((k.put r .zero).fault = fl)) :
    Calls Tryz.prog 23 #[.agg #[.int .i64 kd, .string r.text, .string r.value, .string r.lang, .int .u32 r.cols, .int .u32 r.rows, .int .u32 r.width, .int .u32 r.height, .slice A n c, .bool r.on, .int .u32 r.code]] w fun e w' => e = .returned (.int .i64 fl) ∧ Hid (Below w.heap.size w w') := by
  have h := qfault_any k r A c n kd w hk.out hn hr.out.text hr.out.value hr.out.lang s4
  rw [hF.out] at h
  exact h
theorem qname_n (k : Rw) (nm : ByteArray) (kd : Int) (w : World) (hk : Hid (kd = k.kind)) (hn : Hid (k.name = nm)) : Calls Tryz.prog 11 #[.int .i64 kd] w fun e w' => e = .returned (.tuple #[.string nm, .bool true]) ∧ w' = w := by
  have h1 := hk.out
  have h2 := hn.out
  subst h1; subst h2
  exact (qname_any k w).mono fun e w' h => ⟨h.1, h.2.symm⟩

set_option maxHeartbeats 4000000 in
set_option maxRecDepth 100000 in
/-- The document's Encode. -/
theorem rencode_x (w : World) (r : Rq) (A : Option Addr) (er : Int) (l k cn : Nat) (nm : ByteArray) (bs : List UInt8) (hX : Hid (encR r = (er, nm, bs))) (hm : Hid r.Ok) (hd : Hid (TK w w.heap.size A cn r.modes)) (hl : r.modes.length = l) (hn : bs.length = k) :
    Calls Tryz.prog 8 #[.agg #[.int .i64 r.kind, .string r.text, .string r.value, .string r.lang, .int .u32 r.cols, .int .u32 r.rows, .int .u32 r.width, .int .u32 r.height, .slice A l cn, .bool r.on, .int .u32 r.code]] w fun e w' => ∃ A1 c1, e = .returned (.tuple #[.string nm, .slice A1 k c1, .int .i64 er]) ∧ Hid (w'.ownsRow w.heap.size 5 1 (.slice A1 k c1) k (bv bs)) ∧ Hid (Below w.heap.size w w') := by
  have hlm : l ≤ maxLen := by have := hd.out.1; have := hd.out.2.1; omega
  have HX0 : Hid (Box (w.alloc (.cells #[.int .i64 r.kind, .string r.text, .string r.value, .string r.lang, .int .u32 r.cols, .int .u32 r.rows, .int .u32 r.width, .int .u32 r.height, .slice A l cn, .bool r.on, .int .u32 r.code] 27)) w.heap.size 27 #[.int .i64 r.kind, .string r.text, .string r.value, .string r.lang, .int .u32 r.cols, .int .u32 r.rows, .int .u32 r.width, .int .u32 r.height, .slice A l cn, .bool r.on, .int .u32 r.code]) := hid (Box.new w 27 _)
  have hx := hX.out
  cases hrk : rowK r.kind Rw.all with
  | none =>
    rw [encR, hrk] at hx
    injection hx with e1 e2
    injection e2 with e2 e3
    subst e1; subst e2; subst e3
    subst hn
    have hno := rowK_none hrk
    go_enter Tryz.func8, Tryz.ntmps8
    go_wp2_with (first
      | (go_at_call 11
         ((with_reducible refine (qname_none r.kind hno _).mono ?_); rintro e w1 ⟨rfl, rfl⟩)))
    go_ret3
    exact ⟨none, 0, rfl, World.ownsRow_nil _ _ _ _, bel1 _ _⟩
  | some kk =>
    have HRK := hid (rowK_some' hrk).symm
    obtain ⟨fl, HFL⟩ : ∃ x, Hid ((kk.put r .zero).fault = x) := ⟨_, hid rfl⟩
    obtain ⟨fs, HFS⟩ : ∃ x, Hid ((kk.put r .zero).fs = x) := ⟨_, hid rfl⟩
    obtain ⟨L, HLF⟩ : ∃ x : Nat, Hid (fs.length = x) := ⟨_, hid rfl⟩
    have HNM := hid (show kk.name = kk.name from rfl)
    rw [encR, hrk] at hx
    simp only at hx
    rw [HFL.out] at hx
    by_cases h0 : fl = 0
    · rw [if_pos h0] at hx
      have hok := put_okW kk (show (kk.put r .zero).fault = 0 by rw [HFL.out]; exact h0)
      have hw := writeF_ok hok
      rw [hw, HFS.out] at hx
      rw [HFS.out] at hw
      injection hx with e1 e2
      injection e2 with e2 e3
      subst e1
      have e3' : encs fs = bs := e3
      have HW : Hid (writeF fs = (0, bs)) := by show _ = _; rw [hw, e3']
      have HN : Hid (kk.name = nm) := e2
      have HKK : Hid (bs.length = k) := hn
      have hL6 : L ≤ 1000 := by rw [← HLF.out, ← HFS.out]; cases kk <;> simp [Rw.put, Ws.wrd, Ws.txt, Ws.num, Ws.flg, Ws.eqs, Ws.size, Ws.zero]
      subst h0
      clear hok hw e2 e3 e3' hn
      go_enter Tryz.func8, Tryz.ntmps8
      go_wp2_with (first
        | (go_at_call 11
           ((with_reducible refine (qname_n kk nm r.kind _ HRK HN).mono ?_); rintro e w1 ⟨rfl, rfl⟩))
        | (go_at_call 23
           ((with_reducible refine (fault_n4 kk r A cn l r.kind 0 _ HRK hl hm hlm HFL).mono ?_); rintro e w2 ⟨rfl, HB2⟩)
           have HX2 := q_box_p HX0 HB2
           have p0 : w2.cell? ⟨w.heap.size, 0, none⟩ = some (.int .i64 r.kind) := HX2.out.cell 0
           have p1 : w2.cell? ⟨w.heap.size, 1, none⟩ = some (.string r.text) := HX2.out.cell 1
           have p2 : w2.cell? ⟨w.heap.size, 2, none⟩ = some (.string r.value) := HX2.out.cell 2
           have p3 : w2.cell? ⟨w.heap.size, 3, none⟩ = some (.string r.lang) := HX2.out.cell 3
           have p4 : w2.cell? ⟨w.heap.size, 4, none⟩ = some (.int .u32 r.cols) := HX2.out.cell 4
           have p5 : w2.cell? ⟨w.heap.size, 5, none⟩ = some (.int .u32 r.rows) := HX2.out.cell 5
           have p6 : w2.cell? ⟨w.heap.size, 6, none⟩ = some (.int .u32 r.width) := HX2.out.cell 6
           have p7 : w2.cell? ⟨w.heap.size, 7, none⟩ = some (.int .u32 r.height) := HX2.out.cell 7
           have p8 : w2.cell? ⟨w.heap.size, 8, none⟩ = some (.slice A l cn) := HX2.out.cell 8
           have p9 : w2.cell? ⟨w.heap.size, 9, none⟩ = some (.bool r.on) := HX2.out.cell 9
           have p10 : w2.cell? ⟨w.heap.size, 10, none⟩ = some (.int .u32 r.code) := HX2.out.cell 10
           have HBw2 : Hid (Below w.heap.size w w2) := (bel1 w _).trans (HB2.out.mono (by simp))
           have HD2 := q_tk_base (q_tk_hid hd HBw2) HBw2.out.size)
        | (go_at_call 25
           ((with_reducible refine (qfields_n kk r A cn l L r.kind fs w2.heap.size w2 HRK hl hm HD2 (Nat.le_refl _) HFS HLF).mono ?_); rintro e w3 ⟨A3, c3, rfl, HF3, HB3⟩))
        | (go_at_call 24
           ((with_reducible refine (rwrite_n w3 A3 c3 L k 0 fs bs HF3 HLF hL6 HW HKK).mono ?_); rintro e w4 ⟨A4, c4, rfl, HO4, HB4⟩)))
      go_ret3
      have hb := bel_trans HBw2 HB3
      exact ⟨A4, c4, rfl, own_mono HO4.out hb.out.size, bel_trans hb HB4⟩
    · rw [if_neg h0] at hx
      injection hx with e1 e2
      injection e2 with e2 e3
      subst e1; subst e2; subst e3
      subst hn
      have h1 : (fl != 0) = true := by simpa using h0
      go_enter Tryz.func8, Tryz.ntmps8
      go_wp2_with (first
        | (go_at_call 11
           ((with_reducible refine (qname_n kk kk.name r.kind _ HRK HNM).mono ?_); rintro e w1 ⟨rfl, rfl⟩))
        | (go_at_call 23
           ((with_reducible refine (fault_n4 kk r A cn l r.kind fl _ HRK hl hm hlm HFL).mono ?_); rintro e w2 ⟨rfl, HB2⟩)))
      go_ret3
      exact ⟨none, 0, rfl, World.ownsRow_nil _ _ _ _, (bel1 w _).trans (HB2.out.mono (by simp))⟩

theorem bytes_x (w : World) (A A2 : Option Addr) (c c2 n : Nat) (xs : List UInt8) (hx : Hid (Lies w w.heap.size A (bv xs))) (hy : Hid (Lies w w.heap.size A2 (bv xs))) (hn : Hid (xs.length = n)) (hl : n ≤ maxLen) :
    Calls Tryz.prog 9 #[.slice A n c, .slice A2 n c2] w fun e w' => ∃ d, e = .returned (.bool true) ∧ w' = w.drewN d := by
  have h1 := hn.out
  subst h1
  refine (bytes_any w w.heap.size w.heap.size A A2 c c2 xs xs hx.out hy.out hl hl).mono ?_
  rintro e w' ⟨rfl, k, rfl⟩
  exact ⟨k, by simp, rfl⟩
theorem rname_x (kd : Int) (nm : ByteArray) (b : Bool) (w : World) (hX : Hid (nameV kd = (nm, b))) : Calls Tryz.prog 11 #[.int .i64 kd] w fun e w' => e = .returned (.tuple #[.string nm, .bool b]) ∧ w' = w := by
  have hx := hX.out
  cases hrk : rowK kd Rw.all with
  | none =>
    rw [nameV, hrk] at hx
    injection hx with e1 e2
    subst e1; subst e2
    exact (qname_none kd (rowK_none hrk) w).mono fun e w' h => ⟨h.1, h.2.symm⟩
  | some k =>
    rw [nameV, hrk] at hx
    injection hx with e1 e2
    subst e1; subst e2
    exact qname_n k k.name kd w (hid (rowK_some' hrk).symm) (hid rfl)
theorem tk_own_n {w : World} {base n c : Nat} {A : Option Addr} {bs : List UInt8} (hn : bs.length = n) (h : w.ownsRow base 5 1 (.slice A n c) n (bv bs)) : TK w w.heap.size A c bs := by
  subst hn
  exact tk_own h
/-- A row of bytes that the law turns. -/
structure Mb (w0 w : World) (B : Nat) (A : Option Addr) (n : Nat) : Prop where
  bel : Below B w0 w
  row : 0 < n → ∃ g cur, A = some ⟨g, 0, none⟩ ∧ B ≤ g ∧ Box w g 5 cur ∧ ∀ j, j < n → ∃ z : Int, cur[j]? = some (.int .u8 z)
theorem Mb.start {w : World} {base n c : Nat} {A : Option Addr} {xs : List UInt8} (hn : xs.length = n) (h : w.ownsRow base 5 1 (.slice A n c) n (bv xs)) : Mb w w base A n := by
  subst hn
  refine ⟨Below.refl _ _, fun hp => ?_⟩
  rcases h.2 with ⟨_, h0⟩ | ⟨g, cap, cur, hv, hb, hx, _⟩
  · omega
  · injection hv with e1 _ _
    subst e1
    refine ⟨g, cur, rfl, hb, hx, fun j hj => ⟨(xs[j].toNat : Int), ?_⟩⟩
    have h2 := h.cells (g := g) rfl j (.int .u8 (xs[j].toNat : Int)) (by simp [bv, List.getElem?_map, List.getElem?_eq_getElem hj])
    rw [Addr.add_lit, Nat.zero_add] at h2
    rw [← Box.cell hx]
    exact h2
theorem Mb.store {w0 w : World} {B n g : Nat} {cur : Array Value} (m : Mb w0 w B (some ⟨g, 0, none⟩) n) (hB : B ≤ g) (hx : Box w g 5 cur) (hc : ∀ j, j < n → ∃ z : Int, cur[j]? = some (.int .u8 z)) (k : Nat) (z : Int) : Mb w0 (w.setCell ⟨g, k, none⟩ (.int .u8 z)) B (some ⟨g, 0, none⟩) n := by
  refine ⟨m.bel.setCell hB _, fun _ => ⟨g, _, rfl, hB, hx.store k _, fun j hj => ?_⟩⟩
  obtain ⟨y, hy⟩ := hc j hj
  by_cases hkj : k = j
  · subst hkj
    have hlt := (Array.getElem?_eq_some_iff.1 hy).1
    exact ⟨z, by simp [Array.getElem?_setIfInBounds, hlt]⟩
  · exact ⟨y, by rw [Array.getElem?_setIfInBounds, if_neg hkj]; exact hy⟩

set_option maxHeartbeats 8000000 in
set_option maxRecDepth 100000 in
theorem encodesq_any (w : World) (r : Rq) (A : Option Addr) (c l : Nat) (mm : Int) (hr : r.Ok) (hl : r.modes.length = l) (hd : TK w w.heap.size A c r.modes) (hmm : w.cell? ⟨0, 0, none⟩ = some (.int .i64 mm)) :
    Calls Tryz.prog 3 #[.agg #[.int .i64 r.kind, .string r.text, .string r.value, .string r.lang, .int .u32 r.cols, .int .u32 r.rows, .int .u32 r.width, .int .u32 r.height, .slice A l c, .bool r.on, .int .u32 r.code]] w fun e w' => e = .returned (.bool true) ∧ Below w.heap.size w w' := by
  obtain ⟨i0, hi0, hz0, hz1, hz2⟩ := info_parts Tryz.info5
  have hpos : 0 < w.heap.size := World.block_lt_of_cell? w _ hmm
  have hlm : l ≤ maxLen := by have := hd.1; have := hd.2.1; omega
  have HR := hid hr
  have HD := hid hd
  have HMM := hid hmm
  have HL := hid hl
  clear hr hd hmm hl
  obtain ⟨gb, HG⟩ : ∃ g, Hid (greatQ r = g) := ⟨_, hid rfl⟩
  obtain ⟨⟨er, nm, bs⟩, HE⟩ : ∃ x, Hid (encR r = x) := ⟨_, hid rfl⟩
  obtain ⟨k, HK⟩ : ∃ k, Hid (bs.length = k) := ⟨_, hid rfl⟩
  have hk1 := HR.out.kind.1
  have hk2 := HR.out.kind.2
  cases gb with
  | true =>
    go_enter Tryz.func3, Tryz.ntmps3
    go_wp2_with (first
      | (go_at_call 5
         refine (aliveq_any _ mm (q_below HMM (bel1 w _) hpos).out).mono ?_
         rintro e w1 ⟨rfl, hb⟩
         have HX1 : Hid (Box w1 w.heap.size 27 #[.int .i64 r.kind, .string r.text, .string r.value, .string r.lang, .int .u32 r.cols, .int .u32 r.rows, .int .u32 r.width, .int .u32 r.height, .slice A l c, .bool r.on, .int .u32 r.code]) := hid (box_below (Box.new w 27 _) hb)
         have p0 : w1.cell? ⟨w.heap.size, 0, none⟩ = some (.int .i64 r.kind) := HX1.out.cell 0
         have p1 : w1.cell? ⟨w.heap.size, 1, none⟩ = some (.string r.text) := HX1.out.cell 1
         have p2 : w1.cell? ⟨w.heap.size, 2, none⟩ = some (.string r.value) := HX1.out.cell 2
         have p3 : w1.cell? ⟨w.heap.size, 3, none⟩ = some (.string r.lang) := HX1.out.cell 3
         have p4 : w1.cell? ⟨w.heap.size, 4, none⟩ = some (.int .u32 r.cols) := HX1.out.cell 4
         have p5 : w1.cell? ⟨w.heap.size, 5, none⟩ = some (.int .u32 r.rows) := HX1.out.cell 5
         have p6 : w1.cell? ⟨w.heap.size, 6, none⟩ = some (.int .u32 r.width) := HX1.out.cell 6
         have p7 : w1.cell? ⟨w.heap.size, 7, none⟩ = some (.int .u32 r.height) := HX1.out.cell 7
         have p8 : w1.cell? ⟨w.heap.size, 8, none⟩ = some (.slice A l c) := HX1.out.cell 8
         have p9 : w1.cell? ⟨w.heap.size, 9, none⟩ = some (.bool r.on) := HX1.out.cell 9
         have p10 : w1.cell? ⟨w.heap.size, 10, none⟩ = some (.int .u32 r.code) := HX1.out.cell 10
         have HB1 : Hid (Below w.heap.size w w1) := (bel1 w _).trans (hb.mono (by simp))
         clear hb)
      | (go_at_call 6
         ((with_reducible refine (greatq_x w1 r A c l true HG HR HL.out hlm).mono ?_); rintro e w2 ⟨rfl, HB2⟩)))
    go_ret
    exact ⟨rfl, HB1.out.trans (HB2.out.mono HB1.out.size)⟩
  | false =>
    obtain ⟨⟨mn, mb⟩, HNV⟩ : ∃ x, Hid (nameV r.kind = x) := ⟨_, hid rfl⟩
    have hnq : (nm.toList == nm.toList) = true := by simp
    have hnq2 : (mn.toList == mn.toList) = true := by simp
    have ee : (er != er) = false := by simp
    have hl47 : l ≤ 140737488355328 := by
      have h := HG.out
      simp only [greatQ, Bool.or_eq_false_iff, decide_eq_false_iff_not] at h
      have h2 := h.2
      rw [HL.out] at h2
      omega
    go_enter Tryz.func3, Tryz.ntmps3
    go_wp2_with (first
      | (go_at_call 5
         refine (aliveq_any _ mm (q_below HMM (bel1 w _) hpos).out).mono ?_
         rintro e w1 ⟨rfl, hb⟩
         have HX1 : Hid (Box w1 w.heap.size 27 #[.int .i64 r.kind, .string r.text, .string r.value, .string r.lang, .int .u32 r.cols, .int .u32 r.rows, .int .u32 r.width, .int .u32 r.height, .slice A l c, .bool r.on, .int .u32 r.code]) := hid (box_below (Box.new w 27 _) hb)
         have p0 : w1.cell? ⟨w.heap.size, 0, none⟩ = some (.int .i64 r.kind) := HX1.out.cell 0
         have p1 : w1.cell? ⟨w.heap.size, 1, none⟩ = some (.string r.text) := HX1.out.cell 1
         have p2 : w1.cell? ⟨w.heap.size, 2, none⟩ = some (.string r.value) := HX1.out.cell 2
         have p3 : w1.cell? ⟨w.heap.size, 3, none⟩ = some (.string r.lang) := HX1.out.cell 3
         have p4 : w1.cell? ⟨w.heap.size, 4, none⟩ = some (.int .u32 r.cols) := HX1.out.cell 4
         have p5 : w1.cell? ⟨w.heap.size, 5, none⟩ = some (.int .u32 r.rows) := HX1.out.cell 5
         have p6 : w1.cell? ⟨w.heap.size, 6, none⟩ = some (.int .u32 r.width) := HX1.out.cell 6
         have p7 : w1.cell? ⟨w.heap.size, 7, none⟩ = some (.int .u32 r.height) := HX1.out.cell 7
         have p8 : w1.cell? ⟨w.heap.size, 8, none⟩ = some (.slice A l c) := HX1.out.cell 8
         have p9 : w1.cell? ⟨w.heap.size, 9, none⟩ = some (.bool r.on) := HX1.out.cell 9
         have p10 : w1.cell? ⟨w.heap.size, 10, none⟩ = some (.int .u32 r.code) := HX1.out.cell 10
         have HB1 : Hid (Below w.heap.size w w1) := (bel1 w _).trans (hb.mono (by simp))
         clear hb)
      | (go_at_call 6
         ((with_reducible refine (greatq_x w1 r A c l false HG HR HL.out hlm).mono ?_); rintro e w2 ⟨rfl, HB2⟩)
         have HX2 := q_box_p HX1 HB2
         have q0 : w2.cell? ⟨w.heap.size, 0, none⟩ = some (.int .i64 r.kind) := HX2.out.cell 0
         have q1 : w2.cell? ⟨w.heap.size, 1, none⟩ = some (.string r.text) := HX2.out.cell 1
         have q2 : w2.cell? ⟨w.heap.size, 2, none⟩ = some (.string r.value) := HX2.out.cell 2
         have q3 : w2.cell? ⟨w.heap.size, 3, none⟩ = some (.string r.lang) := HX2.out.cell 3
         have q4 : w2.cell? ⟨w.heap.size, 4, none⟩ = some (.int .u32 r.cols) := HX2.out.cell 4
         have q5 : w2.cell? ⟨w.heap.size, 5, none⟩ = some (.int .u32 r.rows) := HX2.out.cell 5
         have q6 : w2.cell? ⟨w.heap.size, 6, none⟩ = some (.int .u32 r.width) := HX2.out.cell 6
         have q7 : w2.cell? ⟨w.heap.size, 7, none⟩ = some (.int .u32 r.height) := HX2.out.cell 7
         have q8 : w2.cell? ⟨w.heap.size, 8, none⟩ = some (.slice A l c) := HX2.out.cell 8
         have q9 : w2.cell? ⟨w.heap.size, 9, none⟩ = some (.bool r.on) := HX2.out.cell 9
         have q10 : w2.cell? ⟨w.heap.size, 10, none⟩ = some (.int .u32 r.code) := HX2.out.cell 10
         have HBw2 := bel_trans HB1 HB2
         have hz22 := HBw2.out.size
         have HXa := q_box_a HX2 (.cells #[.int .i64 r.kind, .string r.text, .string r.value, .string r.lang, .int .u32 r.cols, .int .u32 r.rows, .int .u32 r.width, .int .u32 r.height, .slice A l c, .bool r.on, .int .u32 r.code] 27)
         have HXb := q_box_a HXa (.cells #[] 5)
         have v8 : ((w2.alloc (.cells #[.int .i64 r.kind, .string r.text, .string r.value, .string r.lang, .int .u32 r.cols, .int .u32 r.rows, .int .u32 r.width, .int .u32 r.height, .slice A l c, .bool r.on, .int .u32 r.code] 27)).alloc (.cells #[] 5)).cell? ⟨w.heap.size, 8, none⟩ = some (.slice A l c) := HXb.out.cell 8
         have HT2 : Hid (Lies ((w2.alloc (.cells #[.int .i64 r.kind, .string r.text, .string r.value, .string r.lang, .int .u32 r.cols, .int .u32 r.rows, .int .u32 r.width, .int .u32 r.height, .slice A l c, .bool r.on, .int .u32 r.code] 27)).alloc (.cells #[] 5)) w2.heap.size A (bv r.modes)) := (q_tk_hid HD HBw2).out.lies.below (bel2 w2 _ _))
      | (at_builtin
         (refine wpList_app _ rfl (.tmp 20) (.tmp 22) 25 rfl (w2.heap.size + 1) 5 i0 _ 1 1 Tryz.underlying25 hi0 hz0 hz1 hz2 rfl (by decide) (some ⟨w2.heap.size + 1, 0, none⟩) 0 0 [] rfl (lit_own (by simp) (by simp)) w2.heap.size A l c (bv r.modes) rfl (by rw [bv_length, HL.out, Nat.mul_one]) HT2.out (bv_one _) (by unfold maxLen at *; omega) (by omega) (by simp) ?_
          intro A3 c3 w3 ho3 hg3
          have HO3 : Hid (w3.ownsRow (w2.heap.size + 1) 5 1 (.slice A3 l c3) l (bv r.modes)) := by
            show World.ownsRow _ _ _ _ _ _ _
            simpa using ho3
          have IN3 : Hid (Box w3 w2.heap.size 27 #[.int .i64 r.kind, .string r.text, .string r.value, .string r.lang, .int .u32 r.cols, .int .u32 r.rows, .int .u32 r.width, .int .u32 r.height, .slice A l c, .bool r.on, .int .u32 r.code]) := (box_below (Box.new w2 27 #[.int .i64 r.kind, .string r.text, .string r.value, .string r.lang, .int .u32 r.cols, .int .u32 r.rows, .int .u32 r.width, .int .u32 r.height, .slice A l c, .bool r.on, .int .u32 r.code]) (bel1 _ _)).same (hg3.block _ (by simp <;> omega) (fun e => by simp [Value.ownBlock] at e <;> omega))
          have HB23 : Hid (Below w2.heap.size w2 w3) := hid ((bel2 w2 _ _).trans (grown_lo hg3 (by omega) (by simp <;> omega)))
          have f38 := IN3.out.frozen 8
          have c38 := IN3.out.cell 8
          have IN4 : Hid (Box (w3.setCell ⟨w2.heap.size, 8, none⟩ (.slice A3 l c3)) w2.heap.size 27 #[.int .i64 r.kind, .string r.text, .string r.value, .string r.lang, .int .u32 r.cols, .int .u32 r.rows, .int .u32 r.width, .int .u32 r.height, .slice A3 l c3, .bool r.on, .int .u32 r.code]) := by
            have h := IN3.out.store 8 (.slice A3 l c3)
            show Box _ _ _ _
            simpa using h
          have HB24 : Hid (Below w2.heap.size w2 (w3.setCell ⟨w2.heap.size, 8, none⟩ (.slice A3 l c3))) := hid (HB23.out.setCell (Nat.le_refl _) _)
          have HO4 : Hid ((w3.setCell ⟨w2.heap.size, 8, none⟩ (.slice A3 l c3)).ownsRow (w2.heap.size + 1) 5 1 (.slice A3 l c3) l (bv r.modes)) := ((Kept.refl 0 [27] w3).store IN3.out (Nat.zero_le _) (by simp) _).own HO3.out (by decide)
          have HX4 := q_box_p HX2 HB24
          have HBw4 := bel_trans HBw2 HB24
          have s0 : (w3.setCell ⟨w2.heap.size, 8, none⟩ (.slice A3 l c3)).cell? ⟨w2.heap.size, 0, none⟩ = some (.int .i64 r.kind) := IN4.out.cell 0
          have s1 : (w3.setCell ⟨w2.heap.size, 8, none⟩ (.slice A3 l c3)).cell? ⟨w2.heap.size, 1, none⟩ = some (.string r.text) := IN4.out.cell 1
          have s2 : (w3.setCell ⟨w2.heap.size, 8, none⟩ (.slice A3 l c3)).cell? ⟨w2.heap.size, 2, none⟩ = some (.string r.value) := IN4.out.cell 2
          have s3 : (w3.setCell ⟨w2.heap.size, 8, none⟩ (.slice A3 l c3)).cell? ⟨w2.heap.size, 3, none⟩ = some (.string r.lang) := IN4.out.cell 3
          have s4 : (w3.setCell ⟨w2.heap.size, 8, none⟩ (.slice A3 l c3)).cell? ⟨w2.heap.size, 4, none⟩ = some (.int .u32 r.cols) := IN4.out.cell 4
          have s5 : (w3.setCell ⟨w2.heap.size, 8, none⟩ (.slice A3 l c3)).cell? ⟨w2.heap.size, 5, none⟩ = some (.int .u32 r.rows) := IN4.out.cell 5
          have s6 : (w3.setCell ⟨w2.heap.size, 8, none⟩ (.slice A3 l c3)).cell? ⟨w2.heap.size, 6, none⟩ = some (.int .u32 r.width) := IN4.out.cell 6
          have s7 : (w3.setCell ⟨w2.heap.size, 8, none⟩ (.slice A3 l c3)).cell? ⟨w2.heap.size, 7, none⟩ = some (.int .u32 r.height) := IN4.out.cell 7
          have s8 : (w3.setCell ⟨w2.heap.size, 8, none⟩ (.slice A3 l c3)).cell? ⟨w2.heap.size, 8, none⟩ = some (.slice A3 l c3) := IN4.out.cell 8
          have s9 : (w3.setCell ⟨w2.heap.size, 8, none⟩ (.slice A3 l c3)).cell? ⟨w2.heap.size, 9, none⟩ = some (.bool r.on) := IN4.out.cell 9
          have s10 : (w3.setCell ⟨w2.heap.size, 8, none⟩ (.slice A3 l c3)).cell? ⟨w2.heap.size, 10, none⟩ = some (.int .u32 r.code) := IN4.out.cell 10
          have HT4 : Hid (TK (w3.setCell ⟨w2.heap.size, 8, none⟩ (.slice A3 l c3)) (w3.setCell ⟨w2.heap.size, 8, none⟩ (.slice A3 l c3)).heap.size A3 c3 r.modes) := hid (tk_own_n HL.out HO4.out)
          clear ho3 hg3))
      | (go_at_call 7
         ((with_reducible refine (encodeq_x _ r A3 0 er l k c3 nm bs HE HR HT4 HL.out HK.out).mono ?_); rintro e w5 ⟨A5, c5, rfl, HO5, HB45⟩)
         have HX5 := q_box_p HX4 HB45
         have IN5 := q_box_p IN4 HB45
         have HBw5 := bel_trans HBw4 HB45
         have y0 : w5.cell? ⟨w.heap.size, 0, none⟩ = some (.int .i64 r.kind) := HX5.out.cell 0
         have y1 : w5.cell? ⟨w.heap.size, 1, none⟩ = some (.string r.text) := HX5.out.cell 1
         have y2 : w5.cell? ⟨w.heap.size, 2, none⟩ = some (.string r.value) := HX5.out.cell 2
         have y3 : w5.cell? ⟨w.heap.size, 3, none⟩ = some (.string r.lang) := HX5.out.cell 3
         have y4 : w5.cell? ⟨w.heap.size, 4, none⟩ = some (.int .u32 r.cols) := HX5.out.cell 4
         have y5 : w5.cell? ⟨w.heap.size, 5, none⟩ = some (.int .u32 r.rows) := HX5.out.cell 5
         have y6 : w5.cell? ⟨w.heap.size, 6, none⟩ = some (.int .u32 r.width) := HX5.out.cell 6
         have y7 : w5.cell? ⟨w.heap.size, 7, none⟩ = some (.int .u32 r.height) := HX5.out.cell 7
         have y8 : w5.cell? ⟨w.heap.size, 8, none⟩ = some (.slice A l c) := HX5.out.cell 8
         have y9 : w5.cell? ⟨w.heap.size, 9, none⟩ = some (.bool r.on) := HX5.out.cell 9
         have y10 : w5.cell? ⟨w.heap.size, 10, none⟩ = some (.int .u32 r.code) := HX5.out.cell 10
         have HD5 := q_tk_base (q_tk_hid HD HBw5) HBw5.out.size)
      | (go_at_call 8
         ((with_reducible refine (rencode_x w5 r A er l k c nm bs HE HR HD5 HL.out HK.out).mono ?_); rintro e w6 ⟨A6, c6, rfl, HO6, HB56⟩)
         have HLb : Hid (Lies w6 w6.heap.size A5 (bv bs)) := Lies.own (own_keep HO5.out HB56.out)
         have HLw : Hid (Lies w6 w6.heap.size A6 (bv bs)) := Lies.own HO6.out
         have hkm : k ≤ maxLen := by have h := own_caps HO5.out; omega)
      | (go_at_call 9
         ((with_reducible refine (bytes_x w6 A5 A6 c5 c6 k bs HLb HLw HK hkm).mono ?_); rintro e w7 ⟨d, rfl, rfl⟩)))
    obtain ⟨M, hM⟩ : ∃ z, z = (w3.setCell ⟨w2.heap.size, 8, none⟩ (.slice A3 l c3)).heap.size := ⟨_, rfl⟩
    obtain ⟨W7, hW7⟩ : ∃ z : World, z = w6.drewN d := ⟨_, rfl⟩
    have HBM : Hid (Below M (w3.setCell ⟨w2.heap.size, 8, none⟩ (.slice A3 l c3)) W7) := by
      rw [hM, hW7]
      exact hid (bel_drewN (bel_trans HB45 HB56).out d)
    have hzM : w2.heap.size < M := by rw [hM]; have := IN4.out.lt; exact this
    have hzM2 : w.heap.size < M := by rw [hM]; have := HX4.out.lt; exact this
    have HO7 : Hid (W7.ownsRow M 5 1 (.slice A5 k c5) k (bv bs)) := by
      rw [hM, hW7]
      exact (show w6.ownsRow _ 5 1 (.slice A5 k c5) k (bv bs) from own_keep HO5.out HB56.out)
    have hk63 : k ≤ 9223372036854775807 := by unfold maxLen at hkm; omega
    have HX7 : Hid (Box W7 w.heap.size 27 #[.int .i64 r.kind, .string r.text, .string r.value, .string r.lang, .int .u32 r.cols, .int .u32 r.rows, .int .u32 r.width, .int .u32 r.height, .slice A l c, .bool r.on, .int .u32 r.code]) := hid (HX4.out.same (HBM.out.block _ hzM2))
    have IN7 : Hid (Box W7 w2.heap.size 27 #[.int .i64 r.kind, .string r.text, .string r.value, .string r.lang, .int .u32 r.cols, .int .u32 r.rows, .int .u32 r.width, .int .u32 r.height, .slice A3 l c3, .bool r.on, .int .u32 r.code]) := hid (IN4.out.same (HBM.out.block _ hzM))
    have HI7 : Hid (Lies W7 M A3 (bv r.modes)) := by
      have h := HT4.out.lies
      rw [← hM] at h
      exact hid (h.below HBM.out)
    have HBw7 : Hid (Below w.heap.size w W7) := hid (HBw4.out.trans (HBM.out.mono (Nat.le_of_lt hzM2)))
    have hMW : M ≤ W7.heap.size := by
      rw [hM]
      exact HBM.out.size
    rw [← hW7]
    have HMb : Hid (Mb W7 W7 M A5 k) := Mb.start HK.out HO7.out
    clear hM hW7
    go_wp2
    go_loopw [53] (fun i w9 => ∃ k1 : Nat, k1 ≤ k ∧ i = .int .i64 k1 ∧ Hid (Mb W7 w9 M A5 k)) (fun i _ => k - (intOf i).toNat)
    case atStart => exact ⟨0, Nat.zero_le _, rfl, HMb.out⟩
    case round =>
      obtain ⟨k1, hk1', rfl, HM1⟩ := hrel
      by_cases hlt1 : k1 < k
      · obtain ⟨gb, cur, hA5, hgM, hbx, hz⟩ := HM1.out.row (by omega)
        subst hA5
        obtain ⟨z, hz2'⟩ := hz k1 hlt1
        have cc : wr.cell? ⟨gb, k1, none⟩ = some (.int .u8 z) := by rw [hbx.cell]; exact hz2'
        have ff : wr.frozen? ⟨gb, k1, none⟩ = false := hbx.frozen k1
        have HBX := hid hbx
        have HZ := hid hz
        have i2 : (k1 : Int) < k := by omega
        clear hbx hz hz2'
        go_wp2
        go_roundw
        case rel => exact ⟨k1 + 1, by omega, by go_num, HM1.out.store hgM HBX.out HZ.out k1 _⟩
        case measure => simp [intOf]; omega
      · have j9 : ¬ ((k1 : Int) < k) := by omega
        have HX8 : Hid (Box wr w.heap.size 27 #[.int .i64 r.kind, .string r.text, .string r.value, .string r.lang, .int .u32 r.cols, .int .u32 r.rows, .int .u32 r.width, .int .u32 r.height, .slice A l c, .bool r.on, .int .u32 r.code]) := hid (HX7.out.same (HM1.out.bel.block _ hzM2))
        have IN8 : Hid (Box wr w2.heap.size 27 #[.int .i64 r.kind, .string r.text, .string r.value, .string r.lang, .int .u32 r.cols, .int .u32 r.rows, .int .u32 r.width, .int .u32 r.height, .slice A3 l c3, .bool r.on, .int .u32 r.code]) := hid (IN7.out.same (HM1.out.bel.block _ hzM))
        have HI8 : Hid (Lies wr M A3 (bv r.modes)) := hid (HI7.out.below HM1.out.bel)
        have hzr : M ≤ wr.heap.size := Nat.le_trans hMW HM1.out.bel.size
        have HBw8 : Hid (Below w.heap.size w wr) := hid (HBw7.out.trans (HM1.out.bel.mono (Nat.le_of_lt hzM2)))
        have u0 := HX8.out.cell 0
        have HR8 : Hid (Lies wr wr.heap.size A (bv r.modes)) := (q_tk_hid HD HBw8).out.lies
        clear HM1
        go_wp2_with (first
          | (go_at_call 10
             ((with_reducible refine (name_x r.kind mn mb _ HNV hk1 hk2).mono ?_); rintro e w10 ⟨rfl, HB10⟩)
             have HX10 := q_box_p HX8 HB10
             have IN10 := q_box_p IN8 HB10
             have d0 : w10.cell? ⟨w.heap.size, 0, none⟩ = some (.int .i64 r.kind) := HX10.out.cell 0
             have d1 : w10.cell? ⟨w.heap.size, 1, none⟩ = some (.string r.text) := HX10.out.cell 1
             have d2 : w10.cell? ⟨w.heap.size, 2, none⟩ = some (.string r.value) := HX10.out.cell 2
             have d3 : w10.cell? ⟨w.heap.size, 3, none⟩ = some (.string r.lang) := HX10.out.cell 3
             have d4 : w10.cell? ⟨w.heap.size, 4, none⟩ = some (.int .u32 r.cols) := HX10.out.cell 4
             have d5 : w10.cell? ⟨w.heap.size, 5, none⟩ = some (.int .u32 r.rows) := HX10.out.cell 5
             have d6 : w10.cell? ⟨w.heap.size, 6, none⟩ = some (.int .u32 r.width) := HX10.out.cell 6
             have d7 : w10.cell? ⟨w.heap.size, 7, none⟩ = some (.int .u32 r.height) := HX10.out.cell 7
             have d8 : w10.cell? ⟨w.heap.size, 8, none⟩ = some (.slice A l c) := HX10.out.cell 8
             have d9 : w10.cell? ⟨w.heap.size, 9, none⟩ = some (.bool r.on) := HX10.out.cell 9
             have d10 : w10.cell? ⟨w.heap.size, 10, none⟩ = some (.int .u32 r.code) := HX10.out.cell 10
             have g0 : w10.cell? ⟨w2.heap.size, 0, none⟩ = some (.int .i64 r.kind) := IN10.out.cell 0
             have g1 : w10.cell? ⟨w2.heap.size, 1, none⟩ = some (.string r.text) := IN10.out.cell 1
             have g2 : w10.cell? ⟨w2.heap.size, 2, none⟩ = some (.string r.value) := IN10.out.cell 2
             have g3 : w10.cell? ⟨w2.heap.size, 3, none⟩ = some (.string r.lang) := IN10.out.cell 3
             have g4 : w10.cell? ⟨w2.heap.size, 4, none⟩ = some (.int .u32 r.cols) := IN10.out.cell 4
             have g5 : w10.cell? ⟨w2.heap.size, 5, none⟩ = some (.int .u32 r.rows) := IN10.out.cell 5
             have g6 : w10.cell? ⟨w2.heap.size, 6, none⟩ = some (.int .u32 r.width) := IN10.out.cell 6
             have g7 : w10.cell? ⟨w2.heap.size, 7, none⟩ = some (.int .u32 r.height) := IN10.out.cell 7
             have g8 : w10.cell? ⟨w2.heap.size, 8, none⟩ = some (.slice A3 l c3) := IN10.out.cell 8
             have g9 : w10.cell? ⟨w2.heap.size, 9, none⟩ = some (.bool r.on) := IN10.out.cell 9
             have g10 : w10.cell? ⟨w2.heap.size, 10, none⟩ = some (.int .u32 r.code) := IN10.out.cell 10
             have HR10 : Hid (Lies w10 w10.heap.size A (bv r.modes)) := (HR8.out.below HB10.out).more HB10.out.size
             have HI10 : Hid (Lies w10 w10.heap.size A3 (bv r.modes)) := ((HI8.out.more hzr).below HB10.out).more HB10.out.size)
          | (go_at_call 11
             ((with_reducible refine (rname_x r.kind mn mb _ HNV).mono ?_); rintro e w11 ⟨rfl, rfl⟩))
          | (go_at_call 12
             ((with_reducible refine (sameq_x _ r A3 A c3 c l HL.out HI10 HR10 hlm).mono ?_); rintro e w12 ⟨rfl, HB12⟩)))
        go_ret
        exact ⟨rfl, (bel_trans HBw8 (bel_trans HB10 HB12)).out⟩

end Go.Proofs.YtfpkjocoifoigaaGreatDoor
