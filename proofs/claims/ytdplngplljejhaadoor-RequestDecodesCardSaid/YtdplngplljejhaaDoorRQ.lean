import Derived.Test.YtdplngplljejhaaDoorQP
import Derived.Test.YtdplngplljejhaaDoorVI
import Derived.Test.YtdplngplljejhaaDoorVN
import Derived.Deep.RegionHeld3
namespace Go.Proofs.YtdplngplljejhaaDoor
open Go.RowKit

set_option maxHeartbeats 2000000 in
set_option maxRecDepth 100000 in
theorem same_q (r : Rq) (A A2 : Option Addr) (c c2 B B2 : Nat) (w : World) (hx : Lies w B A (bv r.modes)) (hy : Lies w B2 A2 (bv r.modes)) (hB : B ≤ w.heap.size) (hB2 : B2 ≤ w.heap.size) (hl : r.modes.length ≤ maxLen) :
    Calls Tryd.prog 8 #[.agg (r.cells A c), .agg (r.cells A2 c2)] w fun e w' => e = .returned (.bool true) ∧ Below w.heap.size w w' := by
  have HX := hid hx
  have HY := hid hy
  clear hx hy
  unfold Rq.cells
  go_enter Tryd.func8, Tryd.ntmps8
  go_wp2_with (
    go_at_call 9
    refine (bytes_any _ B B2 A A2 c c2 r.modes r.modes (HX.out.below ((bel2 w _ _).mono hB)) (HY.out.below ((bel2 w _ _).mono hB2)) hl hl).mono ?_
    rintro e w2 ⟨rfl, n, rfl⟩
    rw [decide_eq_true rfl])
  go_ret
  exact ⟨rfl, bel_drewN (bel2 w _ _) n⟩

theorem rdec_kind (k : Rw) (w : World) (nm : ByteArray) (A : Option Addr) (c n : Nat) (bs : List UInt8) (fs : List Fd) (hb : Hid (SlB w w.heap.size A c bs)) (hn : bs.length = n) (hbl : n ≤ 100000) (hX : Hid (rowN nm Rw.all = some k)) (hR : Hid (readF k.kinds bs = (0, fs))) (r : Rq) (hr : Hid (k.get fs { zeroR with kind := k.kind } = r)) (fl : Int) (hfl : Hid ((k.put r .zero).fault = fl)) :
    Calls Tryd.prog 7 #[.string nm, .slice A n c] w (DecF w r fl) := by
  cases k
  · exact rdec_pty .pty w nm A c n bs fs hb hn hbl hX hR (hid rfl) r hr fl hfl
  · exact rdec_env .env w nm A c n bs fs hb hn hbl hX hR (hid rfl) r hr fl hfl
  · exact rdec_shell .shell w nm A c n bs fs hb hn hbl hX hR (hid rfl) r hr fl hfl
  · exact rdec_exec .exec w nm A c n bs fs hb hn hbl hX hR (hid rfl) r hr fl hfl
  · exact rdec_subsystem .subsystem w nm A c n bs fs hb hn hbl hX hR (hid rfl) r hr fl hfl
  · exact rdec_change .change w nm A c n bs fs hb hn hbl hX hR (hid rfl) r hr fl hfl
  · exact rdec_xon .xon w nm A c n bs fs hb hn hbl hX hR (hid rfl) r hr fl hfl
  · exact rdec_signal .signal w nm A c n bs fs hb hn hbl hX hR (hid rfl) r hr fl hfl
  · exact rdec_status .status w nm A c n bs fs hb hn hbl hX hR (hid rfl) r hr fl hfl
  · exact rdec_ends .ends w nm A c n bs fs hb hn hbl hX hR (hid rfl) r hr fl hfl
/-- The document's Decode. -/
theorem rdecodeq_any (w : World) (nm : ByteArray) (A : Option Addr) (c n : Nat) (bs : List UInt8) (hb : Hid (SlB w w.heap.size A c bs)) (hn : bs.length = n) (hbl : n ≤ 100000) :
    Calls Tryd.prog 7 #[.string nm, .slice A n c] w (DecodeQ w (decR nm bs)) := by
  cases hX : rowN nm Rw.all with
  | none =>
    have e : decR nm bs = (8, zeroR) := by rw [decR, hX]
    rw [e]
    exact rdec_none w nm A c n (hid hX)
  | some k =>
    obtain ⟨⟨er, fs⟩, hR⟩ : ∃ z, readF k.kinds bs = z := ⟨_, rfl⟩
    by_cases he : er = 0
    · subst he
      refine (rdec_kind k w nm A c n bs fs hb hn hbl (hid hX) (hid hR) _ (hid rfl) _ (hid rfl)).mono ?_
      intro e w' h
      unfold DecF at h
      rw [decR, hX]
      simp only [hR, if_true]
      exact h
    · have e : decR nm bs = (er, zeroR) := by
        rw [decR, hX]
        simp only [hR, if_neg he]
      rw [e]
      exact rdec_err k w nm A c n bs er fs hb hn hbl (hid hX) (hid hR) he

theorem sameq_x (w : World) (X : Rq) (A A2 : Option Addr) (c c2 lx : Nat) (hl : X.modes.length = lx) (hx : Hid (Lies w w.heap.size A (bv X.modes))) (hy : Hid (Lies w w.heap.size A2 (bv X.modes))) (hm : lx ≤ maxLen) :
    Calls Tryd.prog 8 #[.agg #[.int .i64 X.kind, .string X.text, .string X.value, .string X.lang, .int .u32 X.cols, .int .u32 X.rows, .int .u32 X.width, .int .u32 X.height, .slice A lx c, .bool X.on, .int .u32 X.code], .agg #[.int .i64 X.kind, .string X.text, .string X.value, .string X.lang, .int .u32 X.cols, .int .u32 X.rows, .int .u32 X.width, .int .u32 X.height, .slice A2 lx c2, .bool X.on, .int .u32 X.code]] w fun e w' => e = .returned (.bool true) ∧ Hid (Below w.heap.size w w') := by
  subst hl
  exact (same_q X A A2 c c2 _ _ w hx.out hy.out (Nat.le_refl _) (Nat.le_refl _) hm)
theorem rdecodeq_x (w : World) (nm : ByteArray) (A : Option Addr) (c n lx : Nat) (bs : List UInt8) (er : Int) (X : Rq) (hX : Hid (decR nm bs = (er, X))) (hb : Hid (SlB w w.heap.size A c bs)) (hn : bs.length = n) (hbl : n ≤ 100000) (hl : X.modes.length = lx) :
    Calls Tryd.prog 7 #[.string nm, .slice A n c] w fun e w' => ∃ A1 c1, e = .returned (.tuple #[.agg #[.int .i64 X.kind, .string X.text, .string X.value, .string X.lang, .int .u32 X.cols, .int .u32 X.rows, .int .u32 X.width, .int .u32 X.height, .slice A1 lx c1, .bool X.on, .int .u32 X.code], .int .i64 er]) ∧ Hid (w'.ownsRow w.heap.size 5 1 (.slice A1 lx c1) lx (bv X.modes)) ∧ Hid (Below w.heap.size w w') := by
  subst hl
  refine (rdecodeq_any w nm A c n bs hb hn hbl).mono ?_
  rw [hX.out]
  rintro e w' ⟨A1, c1, rfl, h1, h2⟩
  exact ⟨A1, c1, rfl, h1, h2⟩
/-- A copy in a literal. -/
theorem app_copyq {ops : Array Oper} {rest : List Oper} {o : Oper} {a : Act} {Q : Exit → Act → World → Prop} (w : World) (hgd : o.guard = none) (s x : Operand) (ho : o.op = .call { callee := .builtin .append, args := #[s, x], argTypes := #[22, 22] })
    (hs : a.eval s = .slice (some ⟨w.heap.size, 0, none⟩) 0 0) (A : Option Addr) (n c : Nat) (bs : List UInt8) (hx : a.eval x = .slice A n c) (hS : Hid (SlB w w.heap.size A c bs)) (hn : bs.length = n) (hm : n ≤ 1000000)
    (h : ∀ A2 c2 u2, Hid (Below w.heap.size w u2) → Hid (SlB u2 u2.heap.size A2 c2 bs) → wpList Tryd.prog ops Q rest (a.put o.dst (.slice A2 n c2)) u2) : wpList Tryd.prog ops Q (o :: rest) a (w.alloc (.cells #[] 5)) := by
  subst hn
  obtain ⟨i5, hi5, hz5, hz51, hz52⟩ := info_parts Tryd.info5
  refine wpList_app _ hgd s x 22 ho w.heap.size 5 i5 _ 1 1 Tryd.underlying22 hi5 hz5 hz51 hz52 rfl (by decide) _ 0 0 [] hs (lit_own (Nat.le_refl _) rfl) w.heap.size A bs.length c (bv bs) hx (by rw [bv_length, Nat.mul_one]) (hS.out.2.2.2.alloc (Nat.le_refl _) _) (bv_one _) (by unfold maxLen; omega) (by omega) (by simp) ?_
  intro A2 c2 u2 ho2 hg2
  simp only [Nat.zero_add, List.nil_append] at ho2 ⊢
  exact h A2 c2 u2 (hid (lit_grown rfl hg2)) (hid (own_slb (n := 0) ho2))
/-- A request's bytes while they are written to. -/
structure Wr (w u W : World) (gr : Nat) (cs : Array Value) (A : Option Addr) (n : Nat) : Prop where
  bel : Below w.heap.size w W
  bm : Below u.heap.size u W
  box : Box W gr 28 cs
  row : n ≠ 0 → ∃ (g : Nat) (bx : Array Value), A = some ⟨g, 0, none⟩ ∧ u.heap.size ≤ g ∧ Box W g 5 bx ∧ ∀ j, j < n → ∃ z : Int, bx[j]? = some (.int .u8 z)
theorem wr_start {w u W : World} {gr n c B : Nat} {cs : Array Value} {A : Option Addr} {bs : List UInt8} (h1 : Below w.heap.size w W) (h2 : Below u.heap.size u W) (h3 : Box W gr 28 cs) (hn : bs.length = n) (ho : W.ownsRow B 5 1 (.slice A n c) n (bv bs)) (hB : u.heap.size ≤ B) : Wr w u W gr cs A n := by
  refine ⟨h1, h2, h3, fun hne => ?_⟩
  rcases ho.2 with ⟨_, h0⟩ | ⟨g, cap, cur, hv, hb, hh, _, _, _, htk⟩
  · exact absurd h0 hne
  · injection hv with hA _ _
    refine ⟨g, cur, hA, by omega, hh, fun j hj => ?_⟩
    have e : (cur.toList.take (n * 1))[j]? = (bv bs)[j]? := by rw [htk]
    rw [List.getElem?_take, if_pos (by omega)] at e
    refine ⟨((bs[j]'(by omega)).toNat : Int), ?_⟩
    rw [← Array.getElem?_toList, e]
    simp [bv, hn, hj]
theorem Wr.store {w u W : World} {gr n g : Nat} {cs bx : Array Value} {A : Option Addr} (h : Wr w u W gr cs A n) (hwu : w.heap.size ≤ u.heap.size) (hA : A = some ⟨g, 0, none⟩) (hg : u.heap.size ≤ g) (hb : Box W g 5 bx) (hz : ∀ j, j < n → ∃ z : Int, bx[j]? = some (.int .u8 z)) (i : Nat) (z : Int) : Wr w u (W.setCell ⟨g, i, none⟩ (.int .u8 z)).drew gr cs A n := by
  have hne : gr ≠ g := box_ne h.box hb (by decide)
  refine ⟨(h.bel.setCell (show w.heap.size ≤ g from Nat.le_trans hwu hg) _).drew, (h.bm.setCell hg _).drew, h.box.same (Below.heap_setCell _ _ _ _ hne), fun _ => ⟨g, _, hA, hg, hb.store i _, fun j hj => ?_⟩⟩
  obtain ⟨z', hz'⟩ := hz j hj
  by_cases e2 : i = j
  · subst e2
    refine ⟨z, ?_⟩
    have hlt := (Array.getElem?_eq_some_iff.1 hz').1
    simp [hlt]
  · refine ⟨z', ?_⟩
    rw [Array.getElem?_setIfInBounds_ne e2]
    exact hz'
set_option maxHeartbeats 4000000 in
set_option maxRecDepth 100000 in
theorem decodes_long (w : World) (nm : ByteArray) (A : Option Addr) (c n : Nat) (mm : Int) (hs : nm.size ≤ maxLen) (hmm : w.cell? ⟨0, 0, none⟩ = some (.int .i64 mm)) (hnl : n ≤ maxLen) (h : 100000 < n) :
    Calls Tryd.prog 3 #[.string nm, .slice A n c] w fun e w' => e = .returned (.bool true) ∧ Below w.heap.size w w' := by
  have HMM := hid hmm
  unfold maxLen at hnl hs
  clear hmm
  have d1 : (100000 : Int) < (n : Int) := by omega
  go_enter Tryd.func3, Tryd.ntmps3
  go_wp2_with (first
    | (go_at_call 5
       refine (aliveq_any _ mm HMM.out).mono ?_
       rintro e w1 ⟨rfl, hb1⟩
       have HB1 := hid hb1
       clear hb1))
  go_ret
  exact ⟨rfl, HB1.out⟩
set_option maxHeartbeats 4000000 in
set_option maxRecDepth 100000 in
theorem decodes_name (w : World) (nm : ByteArray) (A : Option Addr) (c n : Nat) (mm : Int) (hs : nm.size ≤ maxLen) (hmm : w.cell? ⟨0, 0, none⟩ = some (.int .i64 mm)) (h0 : n ≤ 100000) (h : 10000 < nm.size) :
    Calls Tryd.prog 3 #[.string nm, .slice A n c] w fun e w' => e = .returned (.bool true) ∧ Below w.heap.size w w' := by
  have HMM := hid hmm
  unfold maxLen at hs
  clear hmm
  have d0 : decide ((100000 : Int) < (n : Int)) = false := by simp; omega
  have d1 : (10000 : Int) < (nm.size : Int) := by omega
  go_enter Tryd.func3, Tryd.ntmps3
  go_wp2_with (first
    | (go_at_call 5
       refine (aliveq_any _ mm HMM.out).mono ?_
       rintro e w1 ⟨rfl, hb1⟩
       have HB1 := hid hb1
       clear hb1))
  go_ret
  exact ⟨rfl, HB1.out⟩
set_option maxHeartbeats 8000000 in
set_option maxRecDepth 100000 in
theorem decodes_ok (w : World) (nm : ByteArray) (A : Option Addr) (c n : Nat) (bs : List UInt8) (mm : Int) (hs : nm.size ≤ maxLen) (hb : SlB w w.heap.size A c bs) (hn : bs.length = n) (hmm : w.cell? ⟨0, 0, none⟩ = some (.int .i64 mm)) (h0 : n ≤ 100000) (h : nm.size ≤ 10000) :
    Calls Tryd.prog 3 #[.string nm, .slice A n c] w fun e w' => e = .returned (.bool true) ∧ Below w.heap.size w w' := by
  have HSB := hid hb
  have HMM := hid hmm
  have HN := hid hn
  have hpos : 0 < w.heap.size := World.block_lt_of_cell? w _ hmm
  have HS := hid hs
  clear hb hmm hn hs
  have d0 : decide ((100000 : Int) < (n : Int)) = false := by simp; omega
  have d1 : decide ((10000 : Int) < (nm.size : Int)) = false := by simp; omega
  obtain ⟨⟨er, X⟩, hX⟩ : ∃ y, decR nm bs = y := ⟨_, rfl⟩
  have HX := hid hX
  have hz : (er != er) = false := by simp
  obtain ⟨lx, HLX⟩ : ∃ lx, Hid (X.modes.length = lx) := ⟨_, hid rfl⟩
  have hm6 : n ≤ 1000000 := by omega
  clear hX
  go_enter Tryd.func3, Tryd.ntmps3
  go_wp2_with (first
    | (go_at_call 5
       refine (aliveq_any _ mm HMM.out).mono ?_
       rintro e w1 ⟨rfl, hb1⟩
       have HB1 := hid hb1
       have S1 := slb_at HSB HB1
       clear hb1)
    | (at_builtin
       refine app_copyq w1 rfl (.tmp 21) (.tmp 22) rfl rfl A n c bs rfl S1 HN.out hm6 ?_
       intro Ai ci w2 k2 SI2
       have HB2 := bel_trans HB1 k2
       have S2 := slb_at S1 k2)
    | (go_at_call 6
       have hM := q_below HMM HB2 hpos
       ((with_reducible refine (decodeq_x _ nm Ai ci n lx bs mm er X HX HS.out HN.out HLX.out SI2 hM).mono ?_); rintro e w3 ⟨A3, c3, rfl, HO3, HB3⟩)
       have HXR := q_box_p (hid (Box.new w3 28 #[.int .i64 X.kind, .string X.text, .string X.value, .string X.lang, .int .u32 X.cols, .int .u32 X.rows, .int .u32 X.width, .int .u32 X.height, .slice A3 lx c3, .bool X.on, .int .u32 X.code])) (hid (Below.refl (w3.alloc (.cells #[.int .i64 X.kind, .string X.text, .string X.value, .string X.lang, .int .u32 X.cols, .int .u32 X.rows, .int .u32 X.width, .int .u32 X.height, .slice A3 lx c3, .bool X.on, .int .u32 X.code] 28)).heap.size (w3.alloc (.cells #[.int .i64 X.kind, .string X.text, .string X.value, .string X.lang, .int .u32 X.cols, .int .u32 X.rows, .int .u32 X.width, .int .u32 X.height, .slice A3 lx c3, .bool X.on, .int .u32 X.code] 28))))
       have HBA := hid (bel1 w3 (.cells #[.int .i64 X.kind, .string X.text, .string X.value, .string X.lang, .int .u32 X.cols, .int .u32 X.rows, .int .u32 X.width, .int .u32 X.height, .slice A3 lx c3, .bool X.on, .int .u32 X.code] 28))
       have S3 := slb_at S2 (bel_trans HB3 HBA))
    | (go_at_call 7
       ((with_reducible refine (rdecodeq_x _ nm A c n lx bs er X HX S3 HN.out h0 HLX.out).mono ?_); rintro e w4 ⟨A4, c4, rfl, HO4, HB4⟩)
       have HXR5 := hid (box_below (q_box_p HXR HB4).out (bel1 w4 (.cells #[.int .i64 X.kind, .string X.text, .string X.value, .string X.lang, .int .u32 X.cols, .int .u32 X.rows, .int .u32 X.width, .int .u32 X.height, .slice A4 lx c4, .bool X.on, .int .u32 X.code] 28)))
       have HYR5 : Hid (Box (w4.alloc (.cells #[.int .i64 X.kind, .string X.text, .string X.value, .string X.lang, .int .u32 X.cols, .int .u32 X.rows, .int .u32 X.width, .int .u32 X.height, .slice A4 lx c4, .bool X.on, .int .u32 X.code] 28)) w4.heap.size 28 #[.int .i64 X.kind, .string X.text, .string X.value, .string X.lang, .int .u32 X.cols, .int .u32 X.rows, .int .u32 X.width, .int .u32 X.height, .slice A4 lx c4, .bool X.on, .int .u32 X.code]) := hid (Box.new w4 28 _)
       have HK45 := bel_trans HB4 (hid (bel1 w4 (.cells #[.int .i64 X.kind, .string X.text, .string X.value, .string X.lang, .int .u32 X.cols, .int .u32 X.rows, .int .u32 X.width, .int .u32 X.height, .slice A4 lx c4, .bool X.on, .int .u32 X.code] 28)))
       have HO35 := hid (own_keep HO3.out (bel_trans HBA HK45).out)
       have HL3 := hid (Lies.own HO35.out)
       have HL4 := hid (Lies.own (own_keep HO4.out (bel1 w4 (.cells #[.int .i64 X.kind, .string X.text, .string X.value, .string X.lang, .int .u32 X.cols, .int .u32 X.rows, .int .u32 X.width, .int .u32 X.height, .slice A4 lx c4, .bool X.on, .int .u32 X.code] 28)))))
    | (refine ld28 (by rfl) _ (by rfl) w3.heap.size (by rfl) #[.int .i64 X.kind, .string X.text, .string X.value, .string X.lang, .int .u32 X.cols, .int .u32 X.rows, .int .u32 X.width, .int .u32 X.height, .slice A3 lx c3, .bool X.on, .int .u32 X.code] HXR5.out rfl ?_)
    | (refine ld28 (by rfl) _ (by rfl) w4.heap.size (by rfl) #[.int .i64 X.kind, .string X.text, .string X.value, .string X.lang, .int .u32 X.cols, .int .u32 X.rows, .int .u32 X.width, .int .u32 X.height, .slice A4 lx c4, .bool X.on, .int .u32 X.code] HYR5.out rfl ?_)
    | (go_at_call 8
       ((with_reducible refine (sameq_x _ X A3 A4 c3 c4 lx HLX.out HL3 HL4 (by have h := own_caps HO3.out; omega)).mono ?_); rintro e w6 ⟨rfl, HB6⟩)
       have HXR6 := q_box_p HXR5 HB6
       have c8 : w6.cell? ⟨w3.heap.size, 8, none⟩ = some (.slice A3 lx c3) := HXR6.out.cell 8))
  have hwu : w.heap.size ≤ w2.heap.size := HB2.out.size
  have hlm : lx ≤ maxLen := by have h := own_caps HO3.out; omega
  unfold maxLen at hlm
  have HB26 := bel_trans HB3 (bel_trans HBA (bel_trans HK45 HB6))
  have HWr : Hid (Wr w w2 w6 w3.heap.size #[.int .i64 X.kind, .string X.text, .string X.value, .string X.lang, .int .u32 X.cols, .int .u32 X.rows, .int .u32 X.width, .int .u32 X.height, .slice A3 lx c3, .bool X.on, .int .u32 X.code] A3 lx) := hid (wr_start (c := c3) (bel_trans HB2 HB26).out HB26.out HXR6.out HLX.out (own_keep HO35.out HB6.out) (Nat.le_refl _))
  have HIN := SI2
  clear c8 HXR6 HXR5 HYR5 HL3 HL4 HO35 HO3 HO4
  go_loopw [48] (fun i wr => ∃ j : Nat, j ≤ lx ∧ i = .int .i64 (j : Int) ∧ Hid (Wr w w2 wr w3.heap.size #[.int .i64 X.kind, .string X.text, .string X.value, .string X.lang, .int .u32 X.cols, .int .u32 X.rows, .int .u32 X.width, .int .u32 X.height, .slice A3 lx c3, .bool X.on, .int .u32 X.code] A3 lx)) (fun i _ => lx - (intOf i).toNat)
  case atStart => exact ⟨0, Nat.zero_le _, rfl, HWr⟩
  case round =>
    obtain ⟨j, hj, rfl, HW⟩ := hrel
    by_cases hjl : j < lx
    · have kj : (j : Int) < (lx : Int) := by omega
      obtain ⟨g, bx, hA, hg, hbx, hz⟩ := HW.out.row (by omega)
      obtain ⟨z, hzj⟩ := hz j hjl
      have q1 : wr.cell? ⟨g, j, none⟩ = some (.int .u8 z) := (hbx.cell j).trans hzj
      have f1 := hbx.frozen j
      have c8 : wr.cell? ⟨w3.heap.size, 8, none⟩ = some (.slice A3 lx c3) := HW.out.box.cell 8
      have HBX := hid hbx
      have HZ := hid hz
      subst hA
      clear hbx hz hzj
      go_wp2
      go_region
      all_goals
        go_wp2
        go_roundw
        case rel => exact ⟨j + 1, by omega, by go_num, hid (HW.out.store hwu rfl hg HBX.out HZ.out _ _)⟩
        case measure => simp [intOf]; omega
    · have kj : ¬ (j : Int) < (lx : Int) := by omega
      have SI := slb_at HIN (hid HW.out.bm)
      have SL := slb_at HSB (hid HW.out.bel)
      have HB := hid HW.out.bel
      have HBN : Hid (Calls Tryd.prog 9 #[.slice Ai n ci, .slice A n c] wr fun e w' => e = .returned (.bool true) ∧ Hid (Below wr.heap.size wr w')) := by
        obtain rfl := HN.out
        refine hid ((bytes_any wr _ _ Ai A ci c bs bs SI.out.2.2.2 SL.out.2.2.2 (by unfold maxLen; omega) (by unfold maxLen; omega)).mono ?_)
        rintro e w' ⟨rfl, d, rfl⟩
        exact ⟨by simp, hid (bel_drewN (Below.refl _ _) d)⟩
      clear SI SL
      go_wp2_with (first
        | (go_at_call 9
           (with_reducible refine HBN.out.mono ?_)
           rintro e w9 ⟨rfl, k9⟩
           have K9 := bel_trans HB k9))
      go_ret
      exact ⟨rfl, K9.out⟩
theorem decodes_any2 (w : World) (nm : ByteArray) (A : Option Addr) (c n : Nat) (bs : List UInt8) (mm : Int) (hs : nm.size ≤ maxLen) (hb : SlB w w.heap.size A c bs) (hn : bs.length = n) (hmm : w.cell? ⟨0, 0, none⟩ = some (.int .i64 mm)) :
    Calls Tryd.prog 3 #[.string nm, .slice A n c] w fun e w' => e = .returned (.bool true) ∧ Below w.heap.size w w' := by
  by_cases h0 : 100000 < n
  · exact decodes_long w nm A c n mm hs hmm (by have h1 := hb.1; have h2 := hb.2.1; omega) h0
  · by_cases h1 : 10000 < nm.size
    · exact decodes_name w nm A c n mm hs hmm (by omega) h1
    · exact decodes_ok w nm A c n bs mm hs hb hn hmm (by omega) (by omega)

end Go.Proofs.YtdplngplljejhaaDoor
