import Derived.Test.YtdplngplljejhaaDoorMG
namespace Go.Proofs.YtdplngplljejhaaDoor
open Go.RowKit

def kv (l : List Int) : List Value := l.map (Value.int .i64)
theorem Tryd.info3m : (Tryd.prog.info? 3).map (fun i => (i.zero, i.size, i.bytes)) = some (some (.int .i64 0), 1, 8) := by kernel_rfl
theorem one1m (k : Int) : ∀ u ∈ (#[Value.int .i64 k] : Array Value).toList, u.oneCell' = true := by
  intro u hu
  simp only [List.mem_cons, List.mem_nil_iff, or_false] at hu
  subst hu
  rfl
theorem run_field0 (p : Pl) (g : Nat) : ∀ w, (Instr.field 95 (p.slotV g) 0).run Tryd.prog w = .ok (.int .i64 p.kind) w := by
  unfold Pl.slotV Pl.getV Pl.putV
  intro w
  simp [Instr.field, asAgg, go_sem, run_underlying Tryd.underlying95]
theorem run_field2 (p : Pl) (g : Nat) : ∀ w, (Instr.field 95 (p.slotV g) 2).run Tryd.prog w = .ok (p.putV g) w := by
  unfold Pl.slotV Pl.getV
  intro w
  simp [Instr.field, asAgg, go_sem, run_underlying Tryd.underlying95]
def DecodeR (x : Int × Mg) (w : World) (e : Ending) (w' : World) : Prop :=
  ∃ A c, e = .returned (.tuple #[.agg (x.2.cells A c), .int .i64 x.1]) ∧ w'.ownsRow w.heap.size 5 1 (.slice A x.2.data.length c) x.2.data.length (bv x.2.data) ∧ Below w.heap.size w w'
theorem decodeR_err (w w' : World) (er : Int) (h : Below w.heap.size w w') : DecodeR (er, zeroM) w (.returned (.tuple #[.agg (zeroM.cells none 0), .int .i64 er])) w' :=
  ⟨none, 0, rfl, World.ownsRow_nil _ _ _ _, h⟩
theorem bel_ten {w w' : World} {g : Nat} (h : Below w.heap.size w w') (hg : w.heap.size ≤ g) (a b c d e f i j k l : Value) :
    Below w.heap.size w ((((((((((w'.setCell ⟨g, 0, none⟩ a).setCell ⟨g, 1, none⟩ b).setCell ⟨g, 2, none⟩ c).setCell ⟨g, 3, none⟩ d).setCell ⟨g, 4, none⟩ e).setCell ⟨g, 5, none⟩ f).setCell ⟨g, 6, none⟩ i).setCell ⟨g, 7, none⟩ j).setCell ⟨g, 8, none⟩ k).setCell ⟨g, 9, none⟩ l) :=
  (((((((((h.setCell hg _).setCell hg _).setCell hg _).setCell hg _).setCell hg _).setCell hg _).setCell hg _).setCell hg _).setCell hg _).setCell hg _
theorem kept_ten {w : World} {B g : Nat} {t : TypeId} {cs : Array Value} (h : Box w g t cs) (hg : B ≤ g) (a b c d e f i j k l : Value) :
    Kept B [t] w ((((((((((w.setCell ⟨g, 0, none⟩ a).setCell ⟨g, 1, none⟩ b).setCell ⟨g, 2, none⟩ c).setCell ⟨g, 3, none⟩ d).setCell ⟨g, 4, none⟩ e).setCell ⟨g, 5, none⟩ f).setCell ⟨g, 6, none⟩ i).setCell ⟨g, 7, none⟩ j).setCell ⟨g, 8, none⟩ k).setCell ⟨g, 9, none⟩ l) := by
  have hs : ∀ {w : World} {cs : Array Value} (_ : Box w g t cs) (i : Nat) (u : Value), Kept B [t] w (w.setCell ⟨g, i, none⟩ u) := fun h i u => (Kept.refl _ _ _).store h hg (by simp) u
  exact (hs h 0 a).trans <| (hs (h.store 0 a) 1 b).trans <| (hs ((h.store 0 a).store 1 b) 2 c).trans <| (hs (((h.store 0 a).store 1 b).store 2 c) 3 d).trans <|
    (hs ((((h.store 0 a).store 1 b).store 2 c).store 3 d) 4 e).trans <| (hs (((((h.store 0 a).store 1 b).store 2 c).store 3 d).store 4 e) 5 f).trans <|
    (hs ((((((h.store 0 a).store 1 b).store 2 c).store 3 d).store 4 e).store 5 f) 6 i).trans <| (hs (((((((h.store 0 a).store 1 b).store 2 c).store 3 d).store 4 e).store 5 f).store 6 i) 7 j).trans <|
    (hs ((((((((h.store 0 a).store 1 b).store 2 c).store 3 d).store 4 e).store 5 f).store 6 i).store 7 j) 8 k).trans <| (hs (((((((((h.store 0 a).store 1 b).store 2 c).store 3 d).store 4 e).store 5 f).store 6 i).store 7 j).store 8 k) 9 l)

theorem rdF_len : ∀ (ks : List Int) (acc : List Fd) (left : List UInt8), (rdF acc ks left).1 = 0 → (rdF acc ks left).2.length = acc.length + ks.length
  | [], acc, left, h => by
    rw [rdF] at h ⊢
    by_cases e : left = []
    · rw [if_pos e]; simp
    · rw [if_neg e] at h; simp at h
  | k :: r, acc, left, h => by
    rw [rdF] at h ⊢
    by_cases e : (getF k left).1 = 0
    · rw [if_pos e] at h ⊢
      rw [rdF_len r _ _ h]
      simp; omega
    · rw [if_neg e] at h
      exact absurd h e
theorem readF_len {ks : List Int} {b : List UInt8} (h : (readF ks b).1 = 0) : (readF ks b).2.length = ks.length := by
  unfold readF at h ⊢
  split
  · rename_i hk
    rw [if_pos hk] at h
    simpa using rdF_len ks [] b h
  · rename_i hk
    rw [if_neg hk] at h
    simp at h

/-- What holds at each round of the first loop. -/
structure DecI (w wr : World) (g : Nat) (m : Mg) (ps : List Pl) (pA : Option Addr) (k : Nat) (A : Option Addr) (c : Nat) : Prop where
  bel : Below w.heap.size w wr
  msg : MsgO wr w.heap.size g m
  res : Box wr w.heap.size 40 (zeroM.cells none 0)
  pls : LT wr w.heap.size 91 pA (ps.map Pl.funV)
  own : wr.ownsRow w.heap.size 3 1 (.slice A (k + 1) c) (k + 1) (kv (1 :: (ps.take k).map Pl.kind))

theorem dec_start {w w1 : World} {b0 : UInt8} {ps : List Pl} {pA : Option Addr} (hb : Below (w.heap.size + 2) ((w.alloc (.cells (zeroM.cells none 0) 40)).alloc (.cells (Mg.cells { zeroM with kind := b0.toNat } none 0) 89)) w1) (hl : LT w1 0 91 pA (ps.map Pl.funV)) :
    DecI w (w1.alloc (.cells #[.int .i64 1] 3)) (w.heap.size + 1) { zeroM with kind := b0.toNat } ps pA 0 (some ⟨w1.heap.size, 0, none⟩) 1 := by
  have hb1 : Below w.heap.size w w1 := (bel2 w _ _).trans (hb.mono (by omega))
  have hz : w.heap.size + 2 ≤ w1.heap.size := by have := hb.size; simpa using this
  refine ⟨hb1.alloc hb1.size _, ⟨by omega, by show (0 : Nat) ≤ _; omega, by show (0 : Nat) ≤ _; omega, none, 0, ?_, World.ownsRow_nil _ _ _ _⟩, ?_, (hl.base (Nat.zero_le _)).below (bel1 _ _), ?_⟩
  · have h := (Box.new (w.alloc (.cells (zeroM.cells none 0) 40)) 89 (Mg.cells { zeroM with kind := b0.toNat } none 0)).same (hb.block _ (by simp))
    have h2 := h.same (Below.heap_alloc w1 (.cells #[.int .i64 1] 3) _ (by simp; omega))
    simpa using h2
  · have h := ((Box.new w 40 (zeroM.cells none 0)).same (Below.heap_alloc _ (.cells (Mg.cells { zeroM with kind := b0.toNat } none 0) 89) _ (by simp))).same (hb.block _ (by omega))
    exact h.same (Below.heap_alloc w1 (.cells #[.int .i64 1] 3) _ (by omega))
  · exact World.ownsRow_lit (base := w.heap.size) (e := 3) (size := 1) w1 #[.int .i64 1] 1 hb1.size (by unfold maxLen; omega) (by simp)
theorem dec_step {w wr w4 w6 : World} {g k c' c6 : Nat} {m : Mg} {ps : List Pl} {pA A' A6 : Option Addr} {p : Pl} {o1 : Obj} (hk : k < ps.length) (hp : ps[k] = p) (h : DecI w wr g m ps pA k A' c')
    (hb4 : Below wr.heap.size wr w4) (ho6 : w6.ownsRow w.heap.size 3 1 (.slice A6 (k + 1 + 1) c6) (k + 1 + 1) (kv (1 :: (ps.take k).map Pl.kind) ++ [Value.int .i64 p.kind]))
    (hg6 : (w4.alloc o1).grownBy w6 (Value.slice A' (k + 1) c').ownBlock) : DecI w w6 g m ps pA (k + 1) A6 c6 := by
  have ho5 : (w4.alloc o1).ownsRow w.heap.size 3 1 (.slice A' (k + 1) c') (k + 1) (kv (1 :: (ps.take k).map Pl.kind)) := (own_keep h.own hb4).alloc _
  have k6 : Kept w.heap.size [3] wr w6 := (((Kept.of_below hb4 w.heap.size [3])).alloc o1).grown hg6 (fun k hk => by obtain ⟨a, cs, b⟩ := own_box ho5 k hk; exact ⟨a, 3, cs, by simp, b⟩)
  refine ⟨h.bel.trans (k6.below h.bel.size), h.msg.kept k6 (by decide) (by decide), k6.box h.res (by decide), h.pls.kept k6 (by decide), ?_⟩
  have htk' : (ps.take (k + 1)) = ps.take k ++ [p] := by rw [take_snoc ps k hk, hp]
  rw [htk']
  simpa [kv] using ho6

structure DecJ (w wr : World) (g : Nat) (m : Mg) (ps : List Pl) (pA : Option Addr) (fs : List Fd) (A : Option Addr) (c : Nat) (cs : List Value) : Prop where
  bel : Below w.heap.size w wr
  msg : MsgO wr w.heap.size g m
  res : Box wr w.heap.size 40 (zeroM.cells none 0)
  pls : LT wr w.heap.size 91 pA (ps.map Pl.funV)
  own : wr.ownsRow w.heap.size 80 4 (.slice A fs.length c) fs.length cs
  flat : FlatF wr w.heap.size fs cs
theorem DecJ.of_read {w wr w6 : World} {g k c' c1 : Nat} {m : Mg} {ps : List Pl} {pA A' A1 : Option Addr} {fs : List Fd} {cs : List Value} (h : DecI w wr g m ps pA k A' c') (hb : Below wr.heap.size wr w6)
    (ho : w6.ownsRow wr.heap.size 80 4 (.slice A1 fs.length c1) fs.length cs) (hf : FlatF w6 wr.heap.size fs cs) : DecJ w w6 g m ps pA fs A1 c1 cs :=
  ⟨h.bel.trans (hb.mono h.bel.size), h.msg.below hb, box_below h.res hb, h.pls.below hb, own_mono ho h.bel.size, FlatF.base h.bel.size _ _ hf⟩
theorem DecJ.step {w wr w4 w7 : World} {g : Nat} {m m' : Mg} {ps : List Pl} {pA A1 : Option Addr} {c1 : Nat} {fs : List Fd} {cs : List Value} (h : DecJ w wr g m ps pA fs A1 c1 cs) (hb : Below wr.heap.size wr w4)
    (hm : MsgO w7 w.heap.size g m') (hk : Kept w.heap.size [89] w4 w7) : DecJ w w7 g m' ps pA fs A1 c1 cs := by
  have k : Kept w.heap.size [89] wr w7 := (Kept.of_below hb _ _).trans hk
  exact ⟨h.bel.trans (k.below h.bel.size), hm, k.box h.res (by decide), h.pls.kept k (by decide), k.own h.own (by decide), FlatF.kept k (by decide) (by decide) _ _ h.flat⟩

set_option maxHeartbeats 2000000 in
set_option maxRecDepth 100000 in
theorem decode_any (w : World) (A : Option Addr) (c : Nat) (b : List UInt8) (mm : Int) (hb : SlB w w.heap.size A c b) (hmm : w.cell? ⟨0, 0, none⟩ = some (.int .i64 mm)) :
    Calls Tryd.prog 16 #[.slice A b.length c] w (DecodeR (decF b) w) := by
  have h1 : ∀ (w : World) (a : Addr) (m : Mode) (f : Fn) (xs ys : Array Value), (store a (.func f xs ys) m).run Tryd.prog w = stored Tryd.prog w a (.func f xs ys) m := fun w a m f xs ys => run_store Tryd.prog w a _ m rfl
  have HB := hid hb
  have HMM := hid hmm
  clear hmm
  cases b with
  | nil =>
    clear hb
    go_enter Tryd.func16, Tryd.ntmps16
    go_wp2
    refine bodyPost_ret (v := .tuple #[.agg (zeroM.cells none 0), .int .i64 3]) (by simp [results, Tryd.results16, go_sem, zeroM, Mg.cells]) rfl ?_
    exact decodeR_err _ _ _ (bel1 w _)
  | cons b0 r =>
    obtain ⟨bk, o, rfl, hbk, hcells⟩ := hb.2.2.2 (by simp [bv])
    have cb : w.cell? ⟨bk, o, none⟩ = some (.int .u8 b0.toNat) := hcells 0 _ rfl
    have cb1 : ∀ ob, (w.alloc ob).cell? ⟨bk, o, none⟩ = some (.int .u8 b0.toNat) := fun ob => ((bel1 w ob).cell (p := ⟨bk, o, none⟩) hbk).trans cb
    have hlo : (-9223372036854775808 : Int) ≤ (b0.toNat : Int) := by omega
    have hhi : (b0.toNat : Int) ≤ 9223372036854775807 := by have := b0.toNat_lt; omega
    clear hcells hb
    obtain ⟨x, HX⟩ : ∃ x, Hid (look b0.toNat tab = x) := ⟨_, hid rfl⟩
    have hlen : (b0 :: r).length = r.length + 1 := rfl
    cases x with
    | none =>
      have HE : Hid (decF (b0 :: r) = (8, zeroM)) := by show _ = _; rw [decF, HX.out]
      go_enter Tryd.func16, Tryd.ntmps16
      go_wp2_with (
        go_at_call 28
        refine (placesOf_any b0.toNat _ hlo hhi).mono ?_
        rw [HX.out]
        rintro e w1 ⟨hb1, rfl⟩
        have hx : Box w1 w.heap.size 40 #[.int .i64 0, .int .u32 0, .int .u32 0, .int .u32 0, .int .u32 0, .int .u32 0, .string ⟨#[]⟩, .string ⟨#[]⟩, .bool false, .slice none 0 0] := ((Box.new w 40 _).same (Below.heap_alloc _ _ _ (by simp))).same (hb1.block _ (by simp; omega))
        have rc0 : w1.cell? ⟨w.heap.size, 0, none⟩ = some (.int .i64 0) := hx.cell 0
        have rf0 : w1.frozen? ⟨w.heap.size, 0, none⟩ = false := hx.frozen 0
        have rc1 : w1.cell? ⟨w.heap.size, 1, none⟩ = some (.int .u32 0) := hx.cell 1
        have rf1 : w1.frozen? ⟨w.heap.size, 1, none⟩ = false := hx.frozen 1
        have rc2 : w1.cell? ⟨w.heap.size, 2, none⟩ = some (.int .u32 0) := hx.cell 2
        have rf2 : w1.frozen? ⟨w.heap.size, 2, none⟩ = false := hx.frozen 2
        have rc3 : w1.cell? ⟨w.heap.size, 3, none⟩ = some (.int .u32 0) := hx.cell 3
        have rf3 : w1.frozen? ⟨w.heap.size, 3, none⟩ = false := hx.frozen 3
        have rc4 : w1.cell? ⟨w.heap.size, 4, none⟩ = some (.int .u32 0) := hx.cell 4
        have rf4 : w1.frozen? ⟨w.heap.size, 4, none⟩ = false := hx.frozen 4
        have rc5 : w1.cell? ⟨w.heap.size, 5, none⟩ = some (.int .u32 0) := hx.cell 5
        have rf5 : w1.frozen? ⟨w.heap.size, 5, none⟩ = false := hx.frozen 5
        have rc6 : w1.cell? ⟨w.heap.size, 6, none⟩ = some (.string ⟨#[]⟩) := hx.cell 6
        have rf6 : w1.frozen? ⟨w.heap.size, 6, none⟩ = false := hx.frozen 6
        have rc7 : w1.cell? ⟨w.heap.size, 7, none⟩ = some (.string ⟨#[]⟩) := hx.cell 7
        have rf7 : w1.frozen? ⟨w.heap.size, 7, none⟩ = false := hx.frozen 7
        have rc8 : w1.cell? ⟨w.heap.size, 8, none⟩ = some (.bool false) := hx.cell 8
        have rf8 : w1.frozen? ⟨w.heap.size, 8, none⟩ = false := hx.frozen 8
        have rc9 : w1.cell? ⟨w.heap.size, 9, none⟩ = some (.slice none 0 0) := hx.cell 9
        have rf9 : w1.frozen? ⟨w.heap.size, 9, none⟩ = false := hx.frozen 9
        have HB1 : Hid (Below w.heap.size w w1) := (bel2 w _ _).trans (hb1.mono (by simp; omega))
        clear hx hb1)
      refine bodyPost_ret (v := .tuple #[.agg (zeroM.cells none 0), .int .i64 8]) (by simp [results, Tryd.results16, go_sem, zeroM, Mg.cells, rc0, rc1, rc2, rc3, rc4, rc5, rc6, rc7, rc8, rc9]) rfl ?_
      rw [HE.out]
      exact decodeR_err _ _ _ (bel_ten HB1.out (Nat.le_refl _) _ _ _ _ _ _ _ _ _ _)
    | some ps =>
      have hk5 := look_len HX.out
      have hkind := look_some HX.out
      obtain ⟨i3, hi3, hz3, hz31, hz32⟩ := info_parts Tryd.info3m
      go_enter Tryd.func16, Tryd.ntmps16
      go_wp2_with (
        go_at_call 28
        refine (placesOf_any b0.toNat _ hlo hhi).mono ?_
        rw [HX.out]
        rintro e w1 ⟨hb1, pA, pc, rfl, hp1, hp2, hL⟩
        have HI : Hid (DecI w (w1.alloc (.cells #[.int .i64 1] 3)) (w.heap.size + 1) { zeroM with kind := b0.toNat } ps pA 0 (some ⟨w1.heap.size, 0, none⟩) 1) := hid (dec_start (hb1.mono (by simp)) hL)
        clear hL hb1)
      generalize hW : (w1.alloc _) = w2 at HI
      have HW := hid hW
      clear hW
      generalize w1.heap.size = g1 at HI
      go_loopw [38, 7] (fun i v wr => ∃ (k : Nat) (A' : Option Addr) (c' : Nat), k ≤ ps.length ∧ i = .int .i64 k ∧ v = .slice A' (k + 1) c' ∧ Hid (DecI w wr (w.heap.size + 1) { zeroM with kind := b0.toNat } ps pA k A' c')) (fun i _ _ => ps.length - (intOf i).toNat)
      case atStart => exact ⟨0, _, _, by omega, rfl, rfl, HI⟩
      case round =>
        obtain ⟨k, A', c', hk, rfl, rfl, HR⟩ := hrel
        by_cases hlt : k < ps.length
        · obtain ⟨pb, po, rfl, hpb, _, hpc⟩ := HR.out.pls (by intro e; have := congrArg List.length e; simp at this; subst this; simp at hlt)
          have hc0 : wr.cell? ⟨pb, po + k, none⟩ = some (.func (.func ps[k].fn) #[] #[]) := hpc k _ (by simp [hlt, Pl.funV])
          clear hpc
          obtain ⟨p, HP⟩ : ∃ p, Hid (ps[k] = p) := ⟨_, hid rfl⟩
          rw [HP.out] at hc0
          have e1 := run_fn p
          have e3 := run_field0 p (w.heap.size + 1)
          unfold Pl.slotV Pl.getV Pl.putV at e3
          go_wp2_with (first
            | ((with_reducible refine (place_any p (w.heap.size + 1) _).mono ?_)
               rintro e w4 ⟨rfl, hb4⟩
               have HB4 := hid hb4
               clear hb4
               unfold Pl.slotV Pl.getV Pl.putV)
            | (at_builtin
               refine wpList_app _ rfl (.tmp 42) (.tmp 46) 66 rfl w.heap.size 3 i3 _ 1 8 Tryd.underlying66 hi3 hz3 hz31 hz32 rfl ?g1 A' (k + 1) c' (kv (1 :: (ps.take k).map Pl.kind)) rfl ((own_keep HR.out.own HB4.out).alloc _) _ _ 1 1 [.int .i64 p.kind] rfl ?g2 (lies_lit _ _ _) (one1m _) ?g3 ?g4 ?g5 ?_
               case g1 => omega
               case g2 => rfl
               case g3 => unfold maxLen; omega
               case g4 => omega
               case g5 => have := HB4.out.size; have := HR.out.bel.size; simp; omega
               intro A6 c6 w6 ho6 hg6
               have HFIN := hid (dec_step hlt HP.out HR.out HB4.out ho6 hg6)
               clear ho6 hg6))
          go_roundw
          case rel => exact ⟨k + 1, A6, c6, by omega, by go_num, rfl, HFIN⟩
          case measure => simp [intOf]; omega
        · have hkn2 : k = ps.length := by omega
          subst hkn2
          obtain ⟨⟨er, fs⟩, HRD⟩ : ∃ x, Hid (readF (1 :: ps.map Pl.kind) (b0 :: r) = x) := ⟨_, hid rfl⟩
          have hown := HR.out.own
          rw [List.take_length] at hown
          have HLK : Hid (Lies wr wr.heap.size A' ((1 :: ps.map Pl.kind).map (Value.int .i64))) := hid (Lies.own hown)
          have HSB : Hid (SlB wr wr.heap.size (some ⟨bk, o, none⟩) c (b0 :: r)) := slb_at HB (hid HR.out.bel)
          have HM0 : Hid (wr.cell? ⟨0, 0, none⟩ = some (.int .i64 mm)) := hid ((HR.out.bel.cell (p := ⟨0, 0, none⟩) (World.block_lt_of_cell? w _ HMM.out)).trans HMM.out)
          clear hown
          by_cases her : er = 0
          · subst her
            have hfl : fs.length = ps.length + 1 := by
              have h := readF_len (ks := 1 :: ps.map Pl.kind) (b := b0 :: r) (by rw [HRD.out])
              rw [HRD.out] at h
              simpa using h
            have HE0 : Hid (decF (b0 :: r) = putsF ps (fs.drop 1) { zeroM with kind := b0.toNat }) := by
              show _ = _
              rw [decF, HX.out]
              simp only [HRD.out, if_pos]
            go_wp2_with (
              go_at_call 20
              (with_reducible refine (read_n wr A' c' (ps.length + 1) (1 :: ps.map Pl.kind) (some ⟨bk, o, none⟩) c (r.length + 1) (b0 :: r) mm 0 fs (ps.length + 1) HRD hfl (by simp) rfl HLK (by omega) HSB HM0).mono ?_)
              rintro e w6 ⟨A1, c1, rfl, hown, hb6⟩
              obtain ⟨cs, ho1, hf1⟩ := hown.out
              have HJ := hid (DecJ.of_read HR.out hb6.out ho1 hf1)
              clear ho1 hf1 hown hb6)
            clear HLK HSB HM0 HR
            go_loopw [61] (fun i wr => ∃ (k : Nat) (m : Mg), k ≤ ps.length ∧ i = .int .i64 k ∧ Hid (DecJ w wr (w.heap.size + 1) m ps pA fs A1 c1 cs) ∧ Hid (putsF ps (fs.drop 1) { zeroM with kind := b0.toNat } = putsF (ps.drop k) (fs.drop (1 + k)) m)) (fun i _ => ps.length - (intOf i).toNat)
            case atStart => exact ⟨0, _, by omega, rfl, HJ, hid rfl⟩
            case round =>
              obtain ⟨k, m, hk, rfl, HR, HPU⟩ := hrel
              by_cases hlt : k < ps.length
              · obtain ⟨pb, po, rfl, hpb, _, hpc⟩ := HR.out.pls (by intro e; have := congrArg List.length e; simp at this; subst this; simp at hlt)
                have hc0 : wr.cell? ⟨pb, po + k, none⟩ = some (.func (.func ps[k].fn) #[] #[]) := hpc k _ (by simp [hlt, Pl.funV])
                clear hpc
                have hfk : 1 + k < fs.length := by omega
                obtain ⟨tA, tc, lA, lc, q0, q1, q2, q3, q4, q5⟩ := flat_at fs cs HR.out.flat (1 + k) hfk
                have hcs : cs ≠ [] := by intro e; subst e; simp at q0
                obtain ⟨fb, fo, rfl, hfb, hfc⟩ := Lies.own HR.out.own hcs
                have d0 := hfc _ _ q0
                have d1 := hfc _ _ q1
                have d2 := hfc _ _ q2
                have d3 := hfc _ _ q3
                clear hfc q0 q1 q2 q3 q5
                have hdp : ps.drop k = ps[k] :: ps.drop (k + 1) := List.drop_eq_getElem_cons hlt
                have hdf : fs.drop (1 + k) = fs[1 + k] :: fs.drop (1 + (k + 1)) := by rw [List.drop_eq_getElem_cons hfk]; rfl
                rw [hdp, hdf] at HPU
                generalize ps[k] = p at hc0 HPU
                generalize fs[1 + k] = f at d0 d1 d2 d3 q4 HPU
                have Q4 := hid q4
                clear hdp hdf q4
                have e1 := run_fn p
                have e2 := run_putN p
                have e3 := run_field2 p (w.heap.size + 1)
                unfold Pl.slotV Pl.getV Pl.putV at e3
                obtain ⟨n, Hn⟩ : ∃ n, Hid (f.text.length = n) := ⟨_, hid rfl⟩
                have hj0 : (0 : Int) ≤ 1 + (k : Int) := by omega
                have hjn : 1 + (k : Int) < (ps.length : Int) + 1 := by omega
                have hjt : (1 + (k : Int)).toNat = 1 + k := by omega
                have hwr : IntKind.i64.wrap (1 + (k : Int)) = 1 + (k : Int) := by simp [IntKind.wrap, IntKind.bits, IntKind.signed]; omega
                rw [← Nat.add_assoc] at d1 d2 d3
                rw [Hn.out] at d2
                by_cases hok : Pl.ok (p.put f m) p = true
                · have HERN : Hid ((if Pl.ok (p.put f m) p = true then (0 : Int) else 4) = 0) := hid (if_pos hok)
                  have HPN : Hid (putsF ps (fs.drop 1) { zeroM with kind := b0.toNat } = putsF (ps.drop (k + 1)) (fs.drop (1 + (k + 1))) (p.put f m)) := by
                    show _ = _
                    rw [HPU.out, putsF, if_pos hok]
                  clear hok
                  go_wp2
                  go_region_law (first
                    | (go_simp
                       (with_reducible refine (place_any p (w.heap.size + 1) wr.drew).mono ?_)
                       rintro e w4 ⟨rfl, hb4⟩
                       have y0 := (hb4.cell (p := ⟨fb, _, none⟩) hfb).trans d0
                       have y1 := (hb4.cell (p := ⟨fb, _, none⟩) hfb).trans d1
                       have y2 := (hb4.cell (p := ⟨fb, _, none⟩) hfb).trans d2
                       have y3 := (hb4.cell (p := ⟨fb, _, none⟩) hfb).trans d3
                       have HB4 : Hid (Below wr.heap.size wr w4) := hid ⟨hb4.os, hb4.tape, hb4.output, hb4.size, hb4.block⟩
                       clear hb4
                       unfold Pl.slotV Pl.getV Pl.putV)
                    | (go_simp
                       (with_reducible refine (put_any p f m 0 w.heap.size (w.heap.size + 1) n tc f.list.length lc tA lA w4 (HR.out.msg.below HB4.out) HERN.out Hn.out (own_keep Q4.out HB4.out)).mono ?_)
                       rintro e w7 ⟨rfl, hmo, hk7⟩
                       have HJ7 := hid (DecJ.step HR.out HB4.out hmo hk7)
                       clear hmo hk7))
                  all_goals
                    go_wp2
                    go_roundw
                    case rel => exact ⟨k + 1, p.put f m, by omega, by go_num, HJ7, HPN⟩
                    case measure => simp [intOf]; omega
                · have HERN : Hid ((if Pl.ok (p.put f m) p = true then (0 : Int) else 4) = 4) := hid (if_neg hok)
                  have HPN : Hid (decF (b0 :: r) = (4, zeroM)) := by
                    show _ = _
                    rw [HE0.out, HPU.out, putsF, if_neg hok]
                  clear hok
                  go_wp2
                  go_region_law (first
                    | (go_simp
                       (with_reducible refine (place_any p (w.heap.size + 1) wr.drew).mono ?_)
                       rintro e w4 ⟨rfl, hb4⟩
                       have y0 := (hb4.cell (p := ⟨fb, _, none⟩) hfb).trans d0
                       have y1 := (hb4.cell (p := ⟨fb, _, none⟩) hfb).trans d1
                       have y2 := (hb4.cell (p := ⟨fb, _, none⟩) hfb).trans d2
                       have y3 := (hb4.cell (p := ⟨fb, _, none⟩) hfb).trans d3
                       have HB4 : Hid (Below wr.heap.size wr w4) := hid ⟨hb4.os, hb4.tape, hb4.output, hb4.size, hb4.block⟩
                       clear hb4
                       unfold Pl.slotV Pl.getV Pl.putV)
                    | (go_simp
                       (with_reducible refine (put_any p f m 4 w.heap.size (w.heap.size + 1) n tc f.list.length lc tA lA w4 (HR.out.msg.below HB4.out) HERN.out Hn.out (own_keep Q4.out HB4.out)).mono ?_)
                       rintro e w7 ⟨rfl, hmo, hk7⟩
                       have HJ7 := hid (DecJ.step HR.out HB4.out hmo hk7)
                       have hxr := HJ7.out.res
                       have rc0 : w7.cell? ⟨w.heap.size, 0, none⟩ = some (.int .i64 0) := hxr.cell 0
                       have rf0 : w7.frozen? ⟨w.heap.size, 0, none⟩ = false := hxr.frozen 0
                       have rc1 : w7.cell? ⟨w.heap.size, 1, none⟩ = some (.int .u32 0) := hxr.cell 1
                       have rf1 : w7.frozen? ⟨w.heap.size, 1, none⟩ = false := hxr.frozen 1
                       have rc2 : w7.cell? ⟨w.heap.size, 2, none⟩ = some (.int .u32 0) := hxr.cell 2
                       have rf2 : w7.frozen? ⟨w.heap.size, 2, none⟩ = false := hxr.frozen 2
                       have rc3 : w7.cell? ⟨w.heap.size, 3, none⟩ = some (.int .u32 0) := hxr.cell 3
                       have rf3 : w7.frozen? ⟨w.heap.size, 3, none⟩ = false := hxr.frozen 3
                       have rc4 : w7.cell? ⟨w.heap.size, 4, none⟩ = some (.int .u32 0) := hxr.cell 4
                       have rf4 : w7.frozen? ⟨w.heap.size, 4, none⟩ = false := hxr.frozen 4
                       have rc5 : w7.cell? ⟨w.heap.size, 5, none⟩ = some (.int .u32 0) := hxr.cell 5
                       have rf5 : w7.frozen? ⟨w.heap.size, 5, none⟩ = false := hxr.frozen 5
                       have rc6 : w7.cell? ⟨w.heap.size, 6, none⟩ = some (.string ⟨#[]⟩) := hxr.cell 6
                       have rf6 : w7.frozen? ⟨w.heap.size, 6, none⟩ = false := hxr.frozen 6
                       have rc7 : w7.cell? ⟨w.heap.size, 7, none⟩ = some (.string ⟨#[]⟩) := hxr.cell 7
                       have rf7 : w7.frozen? ⟨w.heap.size, 7, none⟩ = false := hxr.frozen 7
                       have rc8 : w7.cell? ⟨w.heap.size, 8, none⟩ = some (.bool false) := hxr.cell 8
                       have rf8 : w7.frozen? ⟨w.heap.size, 8, none⟩ = false := hxr.frozen 8
                       have rc9 : w7.cell? ⟨w.heap.size, 9, none⟩ = some (.slice none 0 0) := hxr.cell 9
                       have rf9 : w7.frozen? ⟨w.heap.size, 9, none⟩ = false := hxr.frozen 9
                       clear hxr
                       clear hmo hk7))
                  all_goals
                    go_wp2
                    refine bodyPost_ret (v := .tuple #[.agg (zeroM.cells none 0), .int .i64 4]) (by simp [results, Tryd.results16, go_sem, zeroM, Mg.cells, rc0, rc1, rc2, rc3, rc4, rc5, rc6, rc7, rc8, rc9]) rfl ?_
                    rw [HPN.out]
                    exact decodeR_err _ _ _ (bel_ten HJ7.out.bel (Nat.le_refl _) _ _ _ _ _ _ _ _ _ _)
              · have hkn3 : k = ps.length := by omega
                subst hkn3
                have HPN : Hid (decF (b0 :: r) = (0, m)) := by
                  show _ = _
                  rw [HE0.out, HPU.out, List.drop_length]
                  rfl
                have hxr := HR.out.res
                have rc0 : wr.cell? ⟨w.heap.size, 0, none⟩ = some (.int .i64 0) := hxr.cell 0
                have rf0 : wr.frozen? ⟨w.heap.size, 0, none⟩ = false := hxr.frozen 0
                have rc1 : wr.cell? ⟨w.heap.size, 1, none⟩ = some (.int .u32 0) := hxr.cell 1
                have rf1 : wr.frozen? ⟨w.heap.size, 1, none⟩ = false := hxr.frozen 1
                have rc2 : wr.cell? ⟨w.heap.size, 2, none⟩ = some (.int .u32 0) := hxr.cell 2
                have rf2 : wr.frozen? ⟨w.heap.size, 2, none⟩ = false := hxr.frozen 2
                have rc3 : wr.cell? ⟨w.heap.size, 3, none⟩ = some (.int .u32 0) := hxr.cell 3
                have rf3 : wr.frozen? ⟨w.heap.size, 3, none⟩ = false := hxr.frozen 3
                have rc4 : wr.cell? ⟨w.heap.size, 4, none⟩ = some (.int .u32 0) := hxr.cell 4
                have rf4 : wr.frozen? ⟨w.heap.size, 4, none⟩ = false := hxr.frozen 4
                have rc5 : wr.cell? ⟨w.heap.size, 5, none⟩ = some (.int .u32 0) := hxr.cell 5
                have rf5 : wr.frozen? ⟨w.heap.size, 5, none⟩ = false := hxr.frozen 5
                have rc6 : wr.cell? ⟨w.heap.size, 6, none⟩ = some (.string ⟨#[]⟩) := hxr.cell 6
                have rf6 : wr.frozen? ⟨w.heap.size, 6, none⟩ = false := hxr.frozen 6
                have rc7 : wr.cell? ⟨w.heap.size, 7, none⟩ = some (.string ⟨#[]⟩) := hxr.cell 7
                have rf7 : wr.frozen? ⟨w.heap.size, 7, none⟩ = false := hxr.frozen 7
                have rc8 : wr.cell? ⟨w.heap.size, 8, none⟩ = some (.bool false) := hxr.cell 8
                have rf8 : wr.frozen? ⟨w.heap.size, 8, none⟩ = false := hxr.frozen 8
                have rc9 : wr.cell? ⟨w.heap.size, 9, none⟩ = some (.slice none 0 0) := hxr.cell 9
                have rf9 : wr.frozen? ⟨w.heap.size, 9, none⟩ = false := hxr.frozen 9
                obtain ⟨_, _, _, LA, lc, hxl, howl⟩ := HR.out.msg
                have lc0 : wr.cell? ⟨w.heap.size + 1, 0, none⟩ = some (.int .i64 m.kind) := hxl.cell 0
                have lc1 : wr.cell? ⟨w.heap.size + 1, 1, none⟩ = some (.int .u32 m.chan) := hxl.cell 1
                have lc2 : wr.cell? ⟨w.heap.size + 1, 2, none⟩ = some (.int .u32 m.sender) := hxl.cell 2
                have lc3 : wr.cell? ⟨w.heap.size + 1, 3, none⟩ = some (.int .u32 m.window) := hxl.cell 3
                have lc4 : wr.cell? ⟨w.heap.size + 1, 4, none⟩ = some (.int .u32 m.packet) := hxl.cell 4
                have lc5 : wr.cell? ⟨w.heap.size + 1, 5, none⟩ = some (.int .u32 m.code) := hxl.cell 5
                have lc6 : wr.cell? ⟨w.heap.size + 1, 6, none⟩ = some (.string m.name) := hxl.cell 6
                have lc7 : wr.cell? ⟨w.heap.size + 1, 7, none⟩ = some (.string m.lang) := hxl.cell 7
                have lc8 : wr.cell? ⟨w.heap.size + 1, 8, none⟩ = some (.bool m.want) := hxl.cell 8
                have lc9 : wr.cell? ⟨w.heap.size + 1, 9, none⟩ = some (.slice LA m.data.length lc) := hxl.cell 9
                have HXR := hid hxr
                have HOW := hid howl
                clear hxr hxl howl
                go_wp2
                refine bodyPost_ret (v := .tuple #[.agg (m.cells LA lc), .int .i64 0]) (by simp [results, Tryd.results16, go_sem, Mg.cells, rc0, rc1, rc2, rc3, rc4, rc5, rc6, rc7, rc8, rc9]) rfl ?_
                rw [HPN.out]
                exact ⟨LA, lc, rfl, (kept_ten HXR.out (Nat.zero_le _) _ _ _ _ _ _ _ _ _ _).own HOW.out (by decide), bel_ten HR.out.bel (Nat.le_refl _) _ _ _ _ _ _ _ _ _ _⟩
          · have HER := hid her
            have hz : (er == 0) = false := by simpa using her
            have HE0 : Hid (decF (b0 :: r) = (er, zeroM)) := by
              show _ = _
              rw [decF, HX.out]
              simp only [HRD.out, if_neg her]
            clear her
            go_wp2_with (
              go_at_call 20
              (with_reducible refine (read_n wr A' c' (ps.length + 1) (1 :: ps.map Pl.kind) (some ⟨bk, o, none⟩) c (r.length + 1) (b0 :: r) mm er fs fs.length HRD rfl (by simp) rfl HLK (by omega) HSB HM0).mono ?_)
              rintro e w6 ⟨A1, c1, rfl, _, hb6⟩
              have hxr := box_below HR.out.res hb6.out
              have rc0 : w6.cell? ⟨w.heap.size, 0, none⟩ = some (.int .i64 0) := hxr.cell 0
              have rf0 : w6.frozen? ⟨w.heap.size, 0, none⟩ = false := hxr.frozen 0
              have rc1 : w6.cell? ⟨w.heap.size, 1, none⟩ = some (.int .u32 0) := hxr.cell 1
              have rf1 : w6.frozen? ⟨w.heap.size, 1, none⟩ = false := hxr.frozen 1
              have rc2 : w6.cell? ⟨w.heap.size, 2, none⟩ = some (.int .u32 0) := hxr.cell 2
              have rf2 : w6.frozen? ⟨w.heap.size, 2, none⟩ = false := hxr.frozen 2
              have rc3 : w6.cell? ⟨w.heap.size, 3, none⟩ = some (.int .u32 0) := hxr.cell 3
              have rf3 : w6.frozen? ⟨w.heap.size, 3, none⟩ = false := hxr.frozen 3
              have rc4 : w6.cell? ⟨w.heap.size, 4, none⟩ = some (.int .u32 0) := hxr.cell 4
              have rf4 : w6.frozen? ⟨w.heap.size, 4, none⟩ = false := hxr.frozen 4
              have rc5 : w6.cell? ⟨w.heap.size, 5, none⟩ = some (.int .u32 0) := hxr.cell 5
              have rf5 : w6.frozen? ⟨w.heap.size, 5, none⟩ = false := hxr.frozen 5
              have rc6 : w6.cell? ⟨w.heap.size, 6, none⟩ = some (.string ⟨#[]⟩) := hxr.cell 6
              have rf6 : w6.frozen? ⟨w.heap.size, 6, none⟩ = false := hxr.frozen 6
              have rc7 : w6.cell? ⟨w.heap.size, 7, none⟩ = some (.string ⟨#[]⟩) := hxr.cell 7
              have rf7 : w6.frozen? ⟨w.heap.size, 7, none⟩ = false := hxr.frozen 7
              have rc8 : w6.cell? ⟨w.heap.size, 8, none⟩ = some (.bool false) := hxr.cell 8
              have rf8 : w6.frozen? ⟨w.heap.size, 8, none⟩ = false := hxr.frozen 8
              have rc9 : w6.cell? ⟨w.heap.size, 9, none⟩ = some (.slice none 0 0) := hxr.cell 9
              have rf9 : w6.frozen? ⟨w.heap.size, 9, none⟩ = false := hxr.frozen 9
              have HB6 : Hid (Below w.heap.size w w6) := HR.out.bel.trans (hb6.out.mono HR.out.bel.size)
              clear hxr hb6)
            refine bodyPost_ret (v := .tuple #[.agg (zeroM.cells none 0), .int .i64 er]) (by simp [results, Tryd.results16, go_sem, zeroM, Mg.cells, rc0, rc1, rc2, rc3, rc4, rc5, rc6, rc7, rc8, rc9]) rfl ?_
            rw [HE0.out]
            exact decodeR_err _ _ _ (bel_ten HB6.out (Nat.le_refl _) _ _ _ _ _ _ _ _ _ _)

end Go.Proofs.YtdplngplljejhaaDoor
