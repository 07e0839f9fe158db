import Derived.Test.YtggcampdkgfmgaaGreatQTp
namespace Go.Proofs.YtggcampdkgfmgaaGreat
open Go.RowKit
attribute [local go_sem ↓] wp_ldR ex_ldR wp_stR
attribute [local go_sem] isP_v blkV_v aggV_v stR_v
set_option maxRecDepth 100000 in
set_option maxHeartbeats 8000000 in
theorem to_rest (w v v5 : World) (p : Nat) (S1 S5 : Nat → Prop) (D : Ds) (h : Ph) (V : Array Value) (A5 A6 A7 : Option Addr) (c5 c6 c7 : Nat) (X : Hid (XIn w D h)) (hgl : D.ls.length ≤ 2000 ∧ sumL D.ls ≤ 12000) (B5 : Hid (Box v5 w.heap.size 54 V)) (F26 : Hid (V[26]? = some (.slice h.nA D.ls.length h.nc)))
    (N1 : Hid (∀ x, S1 x → (w.alloc (.cells V 54)).heap.size ≤ x)) (K0 : Hid (Below w.heap.size w (w.alloc (.cells V 54)))) (K1 : Hid (Below w.heap.size w v)) (hpw : w.heap.size ≤ p) (K5 : Hid (Below w.heap.size w v5)) (H5 : Hid (Wy v p S1 v5 S5 (lsD D) ⟨A5, c5, none, 0, [], A6, c6, A7, c7⟩))
    (u6 u7 u8 u9 u10 u11 u12 u13 u14 u15 u16 u17 u18 u19 u20 u21 u22 u23 u24 u25 u26 u27 u28 u29 u30 u31 u32 u33 u34 u35 u36 u37 u38 u39 u40 u41 u42 u43 u44 u45 u46 u47 u48 u49 u50 u51 u52 u53 u54 u55 u56 u57 u58 u59 u60 u61 u62 u63 u64 u65 u66 u67 u71 u72 u73 u74 u75 u76 u77 u78 u79 u80 u81 u82 u83 u84 u85 u86 u87 u88 u89 u90 u91 : Value) : Code.wp Tryz.prog (tlC 5 (Tryz.f25.body.getD .skip)) (bodyPost Tryz.prog Tryz.f25 fun e w' => ∃ p S, e = .returned (.pointer (some ⟨p, 0, none⟩)) ∧ Hid (DAt w' p S D) ∧ Hid (∀ x, S x → w.heap.size ≤ x) ∧ Hid (Below w.heap.size w w')) { tmps := #[Value.agg V, Value.pointer (some ⟨w.heap.size, 0, none⟩), Value.pointer none, Value.pointer (some ⟨p, 0, none⟩), undef, undef, u6, u7, u8, u9, u10, u11, u12, u13, u14, u15, u16, u17, u18, u19, u20, u21, u22, u23, u24, u25, u26, u27, u28, u29, u30, u31, u32, u33, u34, u35, u36, u37, u38, u39, u40, u41, u42, u43, u44, u45, u46, u47, u48, u49, u50, u51, u52, u53, u54, u55, u56, u57, u58, u59, u60, u61, u62, u63, u64, u65, u66, u67, undef, undef, undef, u71, u72, u73, u74, u75, u76, u77, u78, u79, u80, u81, u82, u83, u84, u85, u86, u87, u88, u89, u90, u91], defers := [] } v5 := by
  have ht := X.out.t
  generalize hc : tlC 5 (Tryz.f25.body.getD .skip) = c
  simp only [Tryz.f25, tlC, Option.getD_some] at hc
  subst hc
  have hp5 : p < v5.heap.size := Wy.lt H5
  obtain ⟨n, hn⟩ : ∃ n, Hid (D.ls.length = n) := ⟨_, hid rfl⟩
  obtain ⟨nA, hnA⟩ : ∃ nA, Hid (h.nA = nA) := ⟨_, hid rfl⟩
  have hn2 : n ≤ 2000 := by rw [← hn.out]; exact hgl.1
  have hqn : Hid (h.qs.length = n) := hid (by rw [← hn.out, ← X.out.lsq]; simp [L13.lnR])
  have e26 : World.cell? v5 ⟨w.heap.size, 26, none⟩ = some (.slice nA n h.nc) := by rw [← hn.out, ← hnA.out]; exact (B5.out.cell 26).trans F26.out
  have hpx : Hid (∀ (m : Nat) (r : L13.Rc), h.qs[m]? = some r → D.ls[m]? = some (r.bs, r.e)) := hid (fun m r hr => by rw [← X.out.lsq]; simp [L13.lnR, hr, L13.Rc.ln])
  have hsum : Hid (∀ x ∈ D.ls, x.1.length ≤ 12000) := hid (fun x hx => Nat.le_trans (sumL_each D.ls x hx) hgl.2)
  go_wp2_with fail
  go_loopg [70] n (fun gk i wr => ∃ (m : Nat) (A : Option Addr) (c : Nat) (qs : List L13.Rc), m + gk = n ∧ i = .int .i64 m ∧ Hid (TI v5 wr p D ⟨A5, c5, none, 0, [], A6, c6, A7, c7⟩ m A c qs))
  case atStart => exact ⟨0, none, 0, [], by omega, rfl, hid ⟨ButP.refl _ _, H5.out.at_.box, L13.LnN.nil _ _ _, by simp [L13.lnR]⟩⟩
  case round =>
    obtain ⟨m, A, c, qs, hm, rfl, HT⟩ := hrel
    have KW : Hid (Below w.heap.size w wr) := hid (K5.out.trans (HT.out.but.below K5.out.size (fun x hx => by subst hx; exact hpw)))
    by_cases hlt : m < n
    · have hki : (m : Int) < (n : Int) := by omega
      obtain ⟨b0, o0, r, hA, hr, q1, q2, hS⟩ := (X.out.grow KW.out).lsv.at (k := m) (by have := hqn.out; omega)
      obtain rfl : nA = some ⟨b0, o0, none⟩ := hnA.out.symm.trans hA
      have HR := hid hr
      have hrg := hid (rec_range q1 q2)
      have hi2 : Hid ((Tryz.prog.info? 131).map (·.size) = some r.v.length) := hid sizeL16
      have hi3 : Hid ((Tryz.prog.info? 131).map (·.size) = some r.v.toArray.size) := hid sizeL16
      have hone : Hid (r.v.toArray.all (·.oneCell') = true) := hid (by simp [L13.Rc.v, Value.oneCell'])
      have hDm := hid (hpx.out m r hr)
      obtain ⟨y, hy⟩ : ∃ y, Hid (r.bs.length = y) := ⟨_, hid rfl⟩
      have hy2 : y ≤ 12000 := by rw [← hy.out]; exact hsum.out _ (List.mem_of_getElem? hDm.out)
      have hSr := hid hS
      have bxp := hid HT.out.box
      have ln0 := hid HT.out.ln.row
      have sz5 := HT.out.but.size
      clear q1 q2 hS hr F26 B5 K0 K1 N1 hsum hpx HR e26 hpw K5 KW H5
      go_wp2_with (first
        | (refine ldM (by rfl) 131 Tryz.underlying131 _ (by rfl) b0 (o0 + m * 2) (by rfl) r.v hrg hi2 ?_)
        | (refine snX (by rfl) 131 _ _ (by rfl) wr _ rfl rfl r.v.toArray (by rfl) hi3 rfl hone ?_
           intro v6 X6 k6
           have t0 : ∀ W, Below v6.heap.size v6 W → World.cell? W ⟨wr.heap.size, 0, none⟩ = some (.slice r.A y r.c) := fun W k => by rw [← hy.out]; exact (box_below X6.out k).cell 0
           have t1 : ∀ W, Below v6.heap.size v6 W → World.cell? W ⟨wr.heap.size, 1, none⟩ = some (.bool r.e) := fun W k => (box_below X6.out k).cell 1
           have p26 : ∀ W, Below v6.heap.size v6 W → World.cell? W ⟨p, 26, none⟩ = some (.slice A m c) := fun W k => by
             have h1 := (box_below (box_below bxp.out k6.out) k).cell 26
             have h2 : (tmV D.t (dRest { D with ls := D.ls.take m } ⟨A5, c5, A, c, qs, A6, c6, A7, c7⟩))[24 + 2]? = some (.slice A (D.ls.take m).length c) := tmV_back ht rfl
             rw [List.length_take, hn.out, Nat.min_eq_left (by omega)] at h2
             exact h1.trans h2))
      have bz9 : ∀ W, Below v6.heap.size v6 W → World.cell? W ⟨wr.heap.size, 0, none⟩ = some (.slice r.A y r.c) ∧ World.cell? W ⟨wr.heap.size, 1, none⟩ = some (.bool r.e) := fun W k => ⟨t0 W k, t1 W k⟩
      have S0 := slb_at hSr k6
      have O1 : Hid (v6.ownsRow v5.heap.size 132 2 (.slice A m c) m (L13.rcV qs)) := hid (own_keep ln0.out k6.out)
      have hz1 : v5.heap.size ≤ v6.heap.size := Nat.le_trans sz5 k6.out.size
      have hm1 : m + 1 ≤ 1000000 := by omega
      have hy4 : y ≤ 1000000 := by omega
      have hnp : some p ≠ (Value.slice A m c).ownBlock := fun e => by have := (ln0.out.lt _ e.symm).1; omega
      have kd : Below v6.heap.size v6 v6.drew := bel_dr (Below.refl _ v6)
      have kl : Below v6.heap.size v6 (v6.alloc (.cells #[] 5)).drew := bel_dr (bel_al (Below.refl _ v6))
      have a1 := t0 _ kd
      have a2 := t1 _ kd
      have a3 := p26 _ kd
      have a4 := t0 _ kl
      have a5 := t1 _ kl
      have a6 := p26 _ kl
      go_region_law (first
        | (refine step_copy v6 v6 (by rfl) (.tmp 79) (.tmp 81) rfl _ rfl ?c1 ?c2 ?c3 ?c4 r.A y r.c r.bs rfl S0 hy hy4 ?_
           case c1 => first | exact box_dr (box_nw rfl) | exact box_nw rfl
           case c2 => exact Nat.le_refl _
           case c3 => exact kl
           case c4 => exact kl
           intro A9 c9 u9 b9 o9
           have b6 : Below v6.heap.size v6 (u9.alloc (.cells #[.slice A9 y c9, .bool r.e] 132)) := bel_al b9
           have d1 := t1 _ b9
           have d2 := p26 _ b9
           have d3 := p26 _ b6)
        | (refine L13.step_rec 41 132 Tryz.underlying41 L13.Tryz.info30 (by rfl) (.tmp 78) (.tmp 86) rfl v5.heap.size m 1 c A qs [⟨A9, c9, r.bs, r.e⟩] rfl (hid (own_keep O1.out b6)) (Nat.le_trans hz1 b6.size) _ 1 rfl (hid (L13.lies_rec u9 132 ⟨A9, c9, r.bs, r.e⟩ #[.slice A9 y c9, .bool r.e] _ (by first | rfl | simp) (by rw [← hy.out]; rfl))) rfl hm1 ?_
           intro A8 c8 u8 o8 k8 g8
           have z26 := (k8.out.box (box_below bxp.out (k6.out.trans (Below.mono b6 k6.out.size))) (by decide)).frozen 26
           have y26 := g8.out.cell (p26 _ b6) hnp))
      all_goals
        have HT8 := ti_next ht HT hp5 hDm.out hy k6.out b9 o9 k8 o8
        clear a1 a2 a3 a4 a5 a6 d1 d2 d3 z26 y26 t0 t1 p26 bz9
        go_wp2_with fail
        go_roundg (gk - 1)
        case measure => omega
        case rel => exact ⟨m + 1, A8, c8, _, by omega, by go_num, HT8⟩
    · obtain rfl : m = n := by omega
      have hki : ¬ (m : Int) < (m : Int) := by omega
      go_wp2_with fail
      go_ret
      have hT := HT.out
      have K := H5.out.at_
      have k := hT.but
      have htk : D.ls.take m = D.ls := List.take_of_length_le (by rw [hn.out]; exact Nat.le_refl _)
      have hbx := hT.box
      have heq := hT.eq
      rw [htk] at hbx heq
      refine ⟨p, rfl, fun x => S5 x ∨ (v5.heap.size ≤ x ∧ x < wr.heap.size), hid ⟨⟨A5, c5, A, c, qs, A6, c6, A7, c7⟩, ?_⟩, hid (fun x hx => ?_), KW⟩
      · refine ⟨hbx, k.slb K.line K.sl.notp, k.slb K.raw K.sr.notp, k.slb K.out K.so.notp, hT.ln.ln, heq, (fun hne a ha => ?_), (fun r hr hne a ha => ?_), .inl K.sp, K.sl.more (fun _ h => .inl h) (fun h => h), K.sr.more (fun _ h => .inl h) (fun h => h), K.so.more (fun _ h => .inl h) (fun h => h), fun x hx => ?_⟩
        · subst ha
          have h1 := hT.ln.row.lt a.block rfl
          exact ⟨.inr h1, fun e => by have := h1.1; omega⟩
        · have h1 := (hT.ln.text r hr).lt a.block (by rw [ha]; rfl)
          exact ⟨.inr h1, fun e => by have := h1.1; omega⟩
        · rcases hx with h1 | h1
          · exact Nat.lt_of_lt_of_le (K.top x h1) k.size
          · exact h1.2
      · have hw5 := K5.out.size
        have hwv := K1.out.size
        rcases hx with h1 | h1
        · rcases H5.out.new x h1 with h2 | h2
          · have h3 := N1.out x h2
            have h4 := K0.out.size
            omega
          · omega
        · have := h1.1
          omega
end Go.Proofs.YtggcampdkgfmgaaGreat
