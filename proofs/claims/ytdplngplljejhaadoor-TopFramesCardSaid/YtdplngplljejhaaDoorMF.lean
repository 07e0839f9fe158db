import Derived.Test.YtdplngplljejhaaDoorME
namespace Go.Proofs.YtdplngplljejhaaDoor
open Go.RowKit

structure Mg.Ok (m : Mg) : Prop where
  kind : -9223372036854775808 ≤ m.kind ∧ m.kind ≤ 9223372036854775807
  chan : m.chan < 4294967296
  sender : m.sender < 4294967296
  window : m.window < 4294967296
  packet : m.packet < 4294967296
  code : m.code < 4294967296
  name : m.name.size ≤ maxLen
  lang : m.lang.size ≤ maxLen
theorem look_mem {k : Int} {ps : List Pl} : ∀ {l : List (Int × List Pl)}, look k l = some ps → (k, ps) ∈ l
  | [], h => by cases h
  | (a, qs) :: r, h => by
    rw [look] at h
    by_cases e : a = k
    · rw [if_pos e] at h
      injection h with h
      subst e; subst h
      simp
    · rw [if_neg e] at h
      exact List.mem_cons_of_mem _ (look_mem h)
theorem tab_all : ∀ x ∈ tab, (1 ≤ x.1 ∧ x.1 ≤ 100) ∧ x.2.length ≤ 5 := by
  intro x hx
  simp only [tab, List.mem_cons, List.mem_nil_iff, or_false] at hx
  rcases hx with rfl | rfl | rfl | rfl | rfl | rfl | rfl | rfl | rfl | rfl | rfl | rfl | rfl | rfl | rfl <;> simp
theorem look_some {k : Int} {ps : List Pl} (h : look k tab = some ps) : 1 ≤ k ∧ k ≤ 100 := (tab_all _ (look_mem h)).1
theorem look_len {k : Int} {ps : List Pl} (h : look k tab = some ps) : ps.length ≤ 5 := (tab_all _ (look_mem h)).2
theorem fld_wf {m : Mg} (h : m.Ok) (p : Pl) : Wf (p.fld m) := by
  cases p
  all_goals (refine ⟨?_, by simp [Pl.fld], by simp [Pl.fld]⟩)
  all_goals first | exact h.chan | exact h.sender | exact h.window | exact h.packet | exact h.code | (simp [Pl.fld]; done) | (show (if m.want then 1 else 0) < _; split <;> omega)
theorem fld_kind (m : Mg) (p : Pl) : (p.fld m).kind = p.kind := by cases p <;> rfl
theorem fld_list (m : Mg) (p : Pl) : (p.fld m).list = [] := by cases p <;> rfl

/-- What holds at each round of Encode. -/
def EncI (w wr : World) (g : Nat) (m : Mg) (ps : List Pl) (pA : Option Addr) (k : Nat) (A : Option Addr) (c : Nat) : Prop :=
  (ps.take k).all (Pl.ok m) = true ∧ Below w.heap.size w wr ∧ MsgB wr w.heap.size g m ∧ LT wr w.heap.size 91 pA (ps.map Pl.funV) ∧
    ∃ cs, wr.ownsRow w.heap.size 80 4 (.slice A (k + 1) c) (k + 1) cs ∧ FlatK wr w.heap.size (kfm m :: (ps.take k).map (Pl.fld m)) cs

theorem run_fn (p : Pl) : ∀ args w, (callFunc p.fn args).run Tryd.prog w = .ok (.enter p.fn args) w := by
  cases p with
  | code => exact Tryd.call78
  | text => exact Tryd.call79
  | lang => exact Tryd.call80
  | name => exact Tryd.call81
  | want => exact Tryd.call82
  | rest => exact Tryd.call83
  | sender => exact Tryd.call84
  | window => exact Tryd.call85
  | packet => exact Tryd.call86
  | chan => exact Tryd.call87
theorem run_getN (p : Pl) : ∀ args w, (callFunc p.getN args).run Tryd.prog w = .ok (.enter p.getN args) w := by
  cases p with
  | code => exact Tryd.call115
  | text => exact Tryd.call117
  | lang => exact Tryd.call119
  | name => exact Tryd.call119
  | want => exact Tryd.call107
  | rest => exact Tryd.call117
  | sender => exact Tryd.call115
  | window => exact Tryd.call115
  | packet => exact Tryd.call115
  | chan => exact Tryd.call115
theorem run_putN (p : Pl) : ∀ args w, (callFunc p.putN args).run Tryd.prog w = .ok (.enter p.putN args) w := by
  cases p with
  | code => exact Tryd.call116
  | text => exact Tryd.call118
  | lang => exact Tryd.call120
  | name => exact Tryd.call120
  | want => exact Tryd.call108
  | rest => exact Tryd.call118
  | sender => exact Tryd.call116
  | window => exact Tryd.call116
  | packet => exact Tryd.call116
  | chan => exact Tryd.call116
theorem MsgB.kept {w w' : World} {base g : Nat} {m : Mg} {T : List TypeId} (h : MsgB w base g m) (k : Kept base T w w') (h1 : 89 ∉ T) (h5 : 5 ∉ T) : MsgB w' base g m := by
  obtain ⟨a, b, A, c, hx, ht⟩ := h
  exact ⟨a, b, A, c, k.box hx h1, ht.kept k h5⟩
theorem MsgB.below {w w' : World} {base g : Nat} {m : Mg} (h : MsgB w base g m) (k : Below w.heap.size w w') : MsgB w' base g m := h.kept (Kept.of_below k _ []) (by simp) (by simp)
theorem enc_step {w wr w5 w6 : World} {g k c' c6 tc : Nat} {m : Mg} {ps : List Pl} {pA A' A6 tA : Option Addr} {p : Pl} {cs : List Value} {o1 o2 : Obj} (hk : k < ps.length) (hp : ps[k] = p) (hok : p.ok m = true) (hall : (ps.take k).all (Pl.ok m) = true)
    (hbw : Below w.heap.size w wr) (hmb : MsgB wr w.heap.size g m) (hlp : LT wr w.heap.size 91 pA (ps.map Pl.funV)) (ho : wr.ownsRow w.heap.size 80 4 (.slice A' (k + 1) c') (k + 1) cs) (hfk : FlatK wr w.heap.size (kfm m :: (ps.take k).map (Pl.fld m)) cs)
    (hb5 : Below wr.heap.size wr w5) (htk : TK w5 w.heap.size tA tc (p.fld m).text)
    (ho6 : w6.ownsRow w.heap.size 80 4 (.slice A6 (k + 1 + 1) c6) (k + 1 + 1) (cs ++ (#[Value.int .i64 p.kind, .int .u32 (p.fld m).n, .slice tA (p.fld m).text.length tc, .slice none 0 0] : Array Value).toList))
    (hg6 : ((w5.alloc o1).alloc o2).grownBy w6 (Value.slice A' (k + 1) c').ownBlock) : EncI w w6 g m ps pA (k + 1) A6 c6 := by
  have k5 : Kept w.heap.size [80] wr ((w5.alloc o1).alloc o2) := (((Kept.of_below hb5 w.heap.size [80])).alloc _).alloc _
  have ho5 : ((w5.alloc o1).alloc o2).ownsRow w.heap.size 80 4 (.slice A' (k + 1) c') (k + 1) cs := ((own_keep ho hb5).alloc _).alloc _
  have k56 : Kept w.heap.size [80] w5 w6 := (((Kept.refl w.heap.size [80] w5).alloc o1).alloc o2).grown hg6 (fun k hk => by obtain ⟨a, cs, b⟩ := own_box ho5 k hk; exact ⟨a, 80, cs, by simp, b⟩)
  have k6 : Kept w.heap.size [80] wr w6 := (Kept.of_below hb5 w.heap.size [80]).trans k56
  have htk' : (ps.take (k + 1)) = ps.take k ++ [p] := by rw [take_snoc ps k hk, hp]
  refine ⟨by rw [htk', List.all_append, hall]; simp [hok], hbw.trans (k6.below hbw.size), hmb.kept k6 (by decide) (by decide), hlp.kept k6 (by decide), _, ho6, ?_⟩
  have h := FlatK.snoc (f := p.fld m) (htk.kept k56 (by decide)) (fld_list m p) _ _ (FlatK.kept k6 (by decide) _ _ hfk)
  rw [fld_kind] at h
  rw [htk', List.map_append]
  exact h
theorem write_n (w : World) (A : Option Addr) (c n : Nat) (l : List Fd) (hn : l.length = n) (hl : FdsV w w.heap.size A l) (hc : n ≤ c) (hc2 : c ≤ maxLen) :
    Calls Tryd.prog 27 #[.slice A n c] w (WriteR w (writeF l)) := by
  subst hn
  exact write_any w A c l hl hc hc2
theorem enc_start {w w1 : World} {m : Mg} {ps : List Pl} {pA A : Option Addr} {c : Nat} (hm : m.Ok) (hd : TK w w.heap.size A c m.data) (hb : Below w.heap.size w w1) (hl : LT w1 0 91 pA (ps.map Pl.funV)) (hkn : (m.kind.toNat : Int) = m.kind) :
    EncI w ((w1.alloc (.cells (m.cells A c) 89)).alloc (.cells #[.int .i64 1, .int .u32 m.kind, .slice none 0 0, .slice none 0 0] 80)) w1.heap.size m ps pA 0 (some ⟨w1.heap.size + 1, 0, none⟩) 1 := by
  have hb2 := bel2 w1 (.cells (m.cells A c) 89) (.cells #[.int .i64 1, .int .u32 m.kind, .slice none 0 0, .slice none 0 0] 80)
  have hb3 : Below w.heap.size w _ := hb.trans (hb2.mono hb.size)
  refine ⟨by simp, hb3, ⟨hm.name, hm.lang, A, c, (Box.new w1 89 _).same (Below.heap_alloc _ _ _ (by simp)), hd.below hb3⟩, (hl.base (Nat.zero_le _)).below hb2, [.int .i64 1, .int .u32 m.kind, .slice none 0 0, .slice none 0 0], ?_, ?_⟩
  · have h := World.ownsRow_lit (base := w.heap.size) (e := 80) (size := 4) (w1.alloc (.cells (m.cells A c) 89)) #[.int .i64 1, .int .u32 m.kind, .slice none 0 0, .slice none 0 0] 1 (by have := hb.size; simp; omega) (by unfold maxLen; omega) (by simp)
    simpa using h
  · exact ⟨none, 0, [], by simp [kfm, hkn], rfl, TK.nil_ _ _, rfl⟩

set_option maxHeartbeats 2000000 in
set_option maxRecDepth 100000 in
theorem encode_any (w : World) (m : Mg) (A : Option Addr) (c : Nat) (hm : m.Ok) (hd : TK w w.heap.size A c m.data) :
    Calls Tryd.prog 12 #[.agg (m.cells A c)] w (WriteR w (encF m)) := by
  have h1 : ∀ (w : World) (a : Addr) (m : Mode) (f : Fn) (xs ys : Array Value), (store a (.func f xs ys) m).run Tryd.prog w = stored Tryd.prog w a (.func f xs ys) m := fun w a m f xs ys => run_store Tryd.prog w a _ m rfl
  have hk1 := hm.kind.1
  have hk2 := hm.kind.2
  have HM := hid hm
  have HD := hid hd
  clear hm hd
  obtain ⟨x, HX⟩ : ∃ x, Hid (look m.kind tab = x) := ⟨_, hid rfl⟩
  unfold Mg.cells
  cases x with
  | none =>
    have HE : Hid (encF m = (8, [])) := by show _ = _; rw [encF, HX.out]
    go_enter Tryd.func12, Tryd.ntmps12
    go_wp2_with (go_at_call 28; refine (placesOf_any m.kind _ hk1 hk2).mono ?_; rw [HX.out]; rintro e w1 ⟨hb, rfl⟩)
    go_ret2
    rw [HE.out]
    exact writeR_err _ _ _ ((bel1 w _).trans (hb.mono (by simp)))
  | some ps =>
    have hk := look_some HX.out
    have hk5 := look_len HX.out
    have hk3 : m.kind % 4294967296 = m.kind := by omega
    have hkn : (m.kind.toNat : Int) = m.kind := by omega
    go_enter Tryd.func12, Tryd.ntmps12
    go_wp2_with (
      go_at_call 28
      refine (placesOf_any m.kind _ hk1 hk2).mono ?_
      rw [HX.out]
      rintro e w1 ⟨hb, pA, pc, rfl, hp1, hp2, hL⟩
      have hx : Box w1 w.heap.size 40 (m.cells A c) := (Box.new w 40 _).same (hb.block _ (by simp))
      have c0 : w1.cell? ⟨w.heap.size, 0, none⟩ = some (.int .i64 m.kind) := hx.cell 0
      have c1 : w1.cell? ⟨w.heap.size, 1, none⟩ = some (.int .u32 m.chan) := hx.cell 1
      have c2 : w1.cell? ⟨w.heap.size, 2, none⟩ = some (.int .u32 m.sender) := hx.cell 2
      have c3 : w1.cell? ⟨w.heap.size, 3, none⟩ = some (.int .u32 m.window) := hx.cell 3
      have c4 : w1.cell? ⟨w.heap.size, 4, none⟩ = some (.int .u32 m.packet) := hx.cell 4
      have c5 : w1.cell? ⟨w.heap.size, 5, none⟩ = some (.int .u32 m.code) := hx.cell 5
      have c6 : w1.cell? ⟨w.heap.size, 6, none⟩ = some (.string m.name) := hx.cell 6
      have c7 : w1.cell? ⟨w.heap.size, 7, none⟩ = some (.string m.lang) := hx.cell 7
      have c8 : w1.cell? ⟨w.heap.size, 8, none⟩ = some (.bool m.want) := hx.cell 8
      have c9 : w1.cell? ⟨w.heap.size, 9, none⟩ = some (.slice A m.data.length c) := hx.cell 9
      have HB1 : Hid (Below w.heap.size w w1) := (bel1 w _).trans (hb.mono (by simp))
      have hlt1 : w.heap.size < w1.heap.size := hx.lt
      have HL := hid hL
      clear hx hb hL)
    have HI : Hid (EncI w ((w1.alloc (.cells #[.int .i64 m.kind, .int .u32 m.chan, .int .u32 m.sender, .int .u32 m.window, .int .u32 m.packet, .int .u32 m.code, .string m.name, .string m.lang, .bool m.want, .slice A m.data.length c] 89)).alloc (.cells #[.int .i64 1, .int .u32 m.kind, .slice none 0 0, .slice none 0 0] 80)) w1.heap.size m ps pA 0 (some ⟨w1.heap.size + 1, 0, none⟩) 1) :=
      enc_start HM.out HD.out HB1.out HL.out hkn
    generalize hW : ((w1.alloc _).alloc _) = w2 at HI
    have HW := hid hW
    clear hW c0 c1 c2 c3 c4 c5 c6 c7 c8 c9
    go_loopw [30, 7] (fun i v wr => ∃ (k : Nat) (A' : Option Addr) (c' : Nat), k ≤ ps.length ∧ i = .int .i64 k ∧ v = .slice A' (k + 1) c' ∧ Hid (EncI w wr w1.heap.size m ps pA k A' c')) (fun i _ _ => ps.length - (intOf i).toNat)
    case atStart => exact ⟨0, _, _, by omega, rfl, rfl, HI⟩
    case round =>
      obtain ⟨k, A', c', hk, rfl, rfl, HR⟩ := hrel
      by_cases hlt : k < ps.length
      · obtain ⟨hall, hbw, hmb, hlp, cs, ho, hfk⟩ := HR.out
        have HLP := hid hlp
        obtain ⟨pb, po, rfl, hpb, _, hpc⟩ := hlp (by intro e; have := congrArg List.length e; simp at this; subst this; simp at hlt)
        have hc0 : wr.cell? ⟨pb, po + k, none⟩ = some (.func (.func ps[k].fn) #[] #[]) := hpc k _ (by simp [hlt, Pl.funV])
        have HALL := hid hall
        have HBW := hid hbw
        have HMB := hid hmb
        have HO := hid ho
        have HFK := hid hfk
        clear hall hbw hmb ho hfk hpc
        obtain ⟨p, HP⟩ : ∃ p, Hid (ps[k] = p) := ⟨_, hid rfl⟩
        rw [HP.out] at hc0
        have e1 := run_fn p
        have e2 := run_getN p
        obtain ⟨i0, hi0, hz0, hz1, hz2⟩ := info_parts Tryd.info37
        obtain ⟨b, HB⟩ : ∃ b, Hid (p.ok m = b) := ⟨_, hid rfl⟩
        cases b with
        | true =>
          go_wp2_with (first
            | ((with_reducible refine (place_any p w1.heap.size _).mono ?_)
               rintro e w4 ⟨rfl, hb4⟩
               have HB4 := hid hb4
               clear hb4
               unfold Pl.slotV Pl.getV Pl.putV)
            | ((with_reducible refine (get_any p m w.heap.size w1.heap.size _ (HMB.out.below (HB4.out.alloc HB4.out.size _)) (by have := HB4.out.size; have := HBW.out.size; simp; omega)).mono ?_)
               rintro e w5 ⟨hb5, hok, _⟩
               obtain ⟨tA, tc, rfl, htk⟩ := hok HB.out
               have xs : ∀ o, (w5.alloc o).cell? ⟨w4.heap.size, 0, none⟩ = some (.int .i64 p.kind) := fun o =>
                 (((Box.new w4 95 #[.int .i64 p.kind, .func (.func p.getN) #[p.recv w1.heap.size] #[], .func (.func p.putN) #[p.recv w1.heap.size] #[]]).same (hb5.block _ (by simp))).same (Below.heap_alloc _ o _ (by have := hb5.size; simp at this; omega)) : Box (w5.alloc o) w4.heap.size 95 _).cell 0
               have HB5 : Hid (Below wr.heap.size wr w5) := (HB4.out.alloc HB4.out.size _).trans (hb5.mono (by have := HB4.out.size; simp; omega))
               have HTK := hid htk
               clear hb5 hok htk)
            | (at_builtin
               refine wpList_app _ rfl (.tmp 48) (.tmp 50) 63 rfl w.heap.size 80 i0 _ 4 64 Tryd.underlying63 hi0 hz0 hz1 hz2 rfl ?g1 A' (k + 1) c' cs rfl (((own_keep HO.out HB5.out).alloc _).alloc _) _ _ 1 1 _ rfl ?g2 (lies5 _ _ _) (one4 _ _ _ _ _ _ _ _) ?g3 ?g4 ?g5 ?_
               case g1 => omega
               case g2 => rfl
               case g3 => unfold maxLen; omega
               case g4 => omega
               case g5 => have := HB5.out.size; have := HBW.out.size; simp; omega
               intro A6 c6 w6 ho6 hg6
               have HFIN := hid (enc_step hlt HP.out HB.out HALL.out HBW.out HMB.out HLP.out HO.out HFK.out HB5.out HTK.out ho6 hg6)
               clear ho6 hg6))
          go_roundw
          case rel => exact ⟨k + 1, A6, c6, by omega, by go_num, rfl, HFIN⟩
          case measure => simp [intOf]; omega
        | false =>
          have HE : Hid (encF m = (4, [])) := by
            show _ = _
            have : ¬ ps.all (Pl.ok m) = true := fun h => by
              have := List.all_eq_true.1 h ps[k] (List.getElem_mem hlt)
              rw [HP.out, HB.out] at this
              cases this
            rw [encF, HX.out]
            simp only [if_neg this]
          go_wp2_with (first
            | ((with_reducible refine (place_any p w1.heap.size _).mono ?_)
               rintro e w4 ⟨rfl, hb4⟩
               have HB4 := hid hb4
               clear hb4
               unfold Pl.slotV Pl.getV Pl.putV)
            | ((with_reducible refine (get_any p m w.heap.size w1.heap.size _ (HMB.out.below (HB4.out.alloc HB4.out.size _)) (by have := HB4.out.size; have := HBW.out.size; simp; omega)).mono ?_)
               rintro e w5 ⟨hb5, _, hok⟩
               obtain rfl := hok HB.out
               have HB5 : Hid (Below wr.heap.size wr w5) := (HB4.out.alloc HB4.out.size _).trans (hb5.mono (by have := HB4.out.size; simp; omega))
               clear hb5 hok))
          go_ret2
          rw [HE.out]
          exact writeR_err _ _ _ ((HBW.out.trans (HB5.out.mono HBW.out.size)).alloc (by have := HB5.out.size; have := HBW.out.size; omega) _)
      · have hkn2 : k = ps.length := by omega
        subst hkn2
        obtain ⟨hall, hbw, hmb, hlp, cs, ho, hfk⟩ := HR.out
        rw [List.take_length] at hall hfk
        have HE : Hid (encF m = writeF (kfm m :: ps.map (Pl.fld m))) := by
          show _ = _
          rw [encF, HX.out]
          simp only [if_pos hall]
        have hfd : FdsV wr wr.heap.size A' (kfm m :: ps.map (Pl.fld m)) := flatK_fds (by simp) ho hfk (by
          intro f hf
          rcases List.mem_cons.1 hf with rfl | hf
          · exact ⟨by simp [kfm]; omega, by simp [kfm], by simp [kfm]⟩
          · obtain ⟨q, _, rfl⟩ := List.mem_map.1 hf
            exact fld_wf HM.out q)
        have hcap := own_caps ho
        have HFD := hid hfd
        have HBW := hid hbw
        clear hall hbw hmb hlp ho hfk hfd
        go_wp2_with (
          go_at_call 27
          refine (write_n _ A' c' (ps.length + 1) (kfm m :: ps.map (Pl.fld m)) (by simp) HFD.out hcap.1 hcap.2).mono ?_
          rintro e w7 ⟨A7, c7, rfl, ho7, hb7⟩
          have HO7 := hid ho7
          have HB7 := hid hb7
          clear ho7 hb7)
        go_ret2
        rw [HE.out]
        exact ⟨A7, c7, rfl, own_mono HO7.out HBW.out.size, HBW.out.trans (HB7.out.mono HBW.out.size)⟩

end Go.Proofs.YtdplngplljejhaaDoor
