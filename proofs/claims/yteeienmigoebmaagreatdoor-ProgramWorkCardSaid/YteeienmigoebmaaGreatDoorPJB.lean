import Derived.Test.YteeienmigoebmaaGreatDoorKG
namespace Go.Proofs.YteeienmigoebmaaGreatDoor
namespace L19
open Go.RowKit L18

/-! Layer 19, the program's side: an operation's line is read. -/
theorem op_facts {u0 v W u7 : World} {g n n1 c bl bR nq c7 : Nat} {Xs : List PgX} {nm : List UInt8} {ops : List OpV} {oA A7 : Option Addr} {oc : Nat} {o : OpV} (SV : Hid (RdS v g u0.heap.size (some ⟨bR, 0, none⟩) n c bl (Xs ++ [((nm, ops), oA, oc)]))) (BV : Hid (Below u0.heap.size u0 v)) (hn : Hid (n = n1 + 1)) (hq : Hid (ops.length = nq)) (d1 : v.cell? ⟨bR, n1 * 2 + 1, none⟩ = some (.slice oA nq oc)) (hb : Below v.heap.size v W) (o7 : Hid (u7.ownsRow bl 46 4 (.slice A7 (nq + 1) c7) (nq + 1) (opsC ops ++ opsC [o]))) (k7 : Hid (Kept bl [46] W u7)) :
    u7.cell? ⟨bR, n1 * 2 + 1, none⟩ = some (.slice oA nq oc) ∧ u7.frozen? ⟨bR, n1 * 2 + 1, none⟩ = false ∧ TookS u0 (u7.setCell ⟨bR, n1 * 2 + 1, none⟩ (.slice A7 (nq + 1) c7)) g (Xs ++ [((nm, ops ++ [o]), A7, c7)]) := by
  have SW := SV.out.up hb
  obtain ⟨hbR, csR, hxR⟩ := own_box SW.row bR rfl
  have hx7 := k7.out.box hxR (by decide)
  have hnv := hn.out
  have e : n - 1 = n1 := by omega
  have R7 := SW.op hq.out o7.out k7.out
  rw [e] at R7
  have hbw : bl ≤ W.heap.size := SW.bw
  have B7 : Below u0.heap.size u0 u7 := (BV.out.trans (hb.mono BV.out.size)).trans ((k7.out.below hbw).mono SW.bb)
  refine ⟨?_, hx7.frozen _, _, _, _, _, hid R7, hid (B7.setCell (p := ⟨bR, _, none⟩) hbR _)⟩
  rw [hx7.cell, ← hxR.cell]
  exact (hb.cell (World.block_lt_of_cell? v _ d1)).trans d1
section
variable {u0 w : World} {g n n1 c bl : Nat} {A : Option Addr}
set_option maxRecDepth 100000 in
set_option maxHeartbeats 8000000 in
theorem take_op (H0 : Hid (TabX u0)) (HB : Hid (Below u0.heap.size u0 w)) {Xs : List PgX} {nm : List UInt8} {ops : List OpV} {oA : Option Addr} {oc : Nat} (hS : Hid (RdS w g u0.heap.size A n c bl (Xs ++ [((nm, ops), oA, oc)]))) (hnn : Hid (n = n1 + 1)) (hq9 : ops.length ≤ 262144) (hn9 : n1 ≤ 262144) {s x : List UInt8} {r : List (List UInt8)} (hl : s.length ≤ 262144) (hc : Hid (cutL 32 s = x :: r)) (hx : Hid (x ≠ progX)) {k : Nat} (hk : Hid (kindOf x = some k)) {a b : Nat} {t : List UInt8} (ht : Hid (tailR (argN k) (s.drop x.length) = some (a, b, t))) :
    Calls Tryz.prog 54 #[.pointer (some ⟨g, 0, none⟩), .string (bs s)] w fun e w' => e = .returned (.bool true) ∧ ∃ A5 c5, TookS u0 w' g (Xs ++ [((nm, ops ++ [opT k (a, b, t)]), A5, c5)]) := by
  have Hw := TabX.below H0 HB.out
  obtain ⟨y, hy⟩ : ∃ z, Hid (joinL 32 r = z) := ⟨_, hid rfl⟩
  obtain ⟨bb, hb⟩ : ∃ z, Hid ((!r.isEmpty) = z) := ⟨_, hid rfl⟩
  obtain ⟨m, hm⟩ : ∃ m, s.length = m := ⟨_, rfl⟩
  have hsz : (bs s).size = m := by rw [bs_size, hm]
  have hsl := (cut_split 32 s x r hc.out).2
  obtain ⟨q, hq⟩ : ∃ q, x.length = q := ⟨_, rfl⟩
  have hqm : (q : Int) ≤ m := by
    rcases hsl with ⟨_, rfl⟩ | ⟨_, z, rfl, _⟩
    · omega
    · rw [← hm, ← hq]; simp; omega
  have hq0 : (0 : Int) ≤ q := by omega
  have hxs : (bs x).size = q := by rw [bs_size, hq]
  have t1 := not_prog hx.out
  obtain ⟨R, hR⟩ : ∃ z, rowA k = z := ⟨_, rfl⟩
  obtain ⟨f1, hf1⟩ : ∃ z, rdN k = z := ⟨_, rfl⟩
  obtain ⟨AA, hA⟩ : ∃ z, arA k = z := ⟨_, rfl⟩
  have c0 := row_c0 k
  have c2 := row_c2 k
  have HS : Hid ((Tryz.prog.info? 61).map (·.size) = some (rowA k).size) := hid (row_sz k)
  have HO : Hid ((rowA k).all (·.oneCell') = true) := hid (row_one k)
  have HZ : Hid (zrow.size = (rowA k).size) := hid rfl
  rw [hR] at c0 c2 HS HO HZ
  rw [hf1, hA] at c2
  obtain ⟨_, hk1, hk2⟩ := kind_word hk.out
  have hcf := rd_call hk2 hf1
  have HF := hid (fun W => named_yes W hk.out hR)
  have hnv := hnn.out
  have hn1 : ((n : Int) == 0) = false := by simp; omega
  have ix1 : IntKind.i64.wrap ((n : Int) - 1) = (n1 : Int) := by rw [IntWalk.i64_in _ (by omega)]; omega
  have ix2 : (n1 : Int) < (n : Int) := by omega
  have ix0 : (0 : Int) ≤ n1 := by omega
  have hdr : (bs s).extract q m = bs (s.drop x.length) := by rw [hq]; exact bs_drop s q hm
  have hdl : (s.drop x.length).length ≤ 262144 := by rw [List.length_drop]; omega
  have HP : Hid (∀ W, Hid (TabX W) → Calls Tryz.prog f1 (AA.push (.string (bs (s.drop x.length)))) W fun e w' => e = .returned (.tuple #[.agg #[.int .i64 0, .int .i64 (a : Int), .int .i64 (b : Int), .string (bs t)], .bool true]) ∧ Hid (Below W.heap.size W w')) := hid (fun W HT => rd_any HT hk2 hdl ht hf1 hA)
  generalize s.drop x.length = bh at *
  obtain ⟨bR, cap, hbR, _, hbRlt⟩ := hS.out.row.form (by omega)
  injection hbR with hbR _ hcap
  subst hbR
  subst hcap
  have hat : (Xs ++ [((nm, ops), oA, oc)])[n1]? = some ((nm, ops), oA, oc) := by
    have := hS.out.len
    rw [List.length_append] at this
    simp at this
    have h2 : Xs.length = n1 := by omega
    rw [← h2]
    simp
  clear hsl hR hf1 hA hnv
  go_enter Tryz.func54, Tryz.ntmps54
  go_upto_region 12 with (first
    | (go_at_call 53
       (with_reducible refine (cut_any Hw hl hc hy hb).mono ?_)
       rintro e w1 ⟨rfl, C1⟩
       have S1 := rds_up hS C1.out
       have X1 := hid S1.out.box)
    | (refine ldM (by rfl) _ (by rfl) _ (by rfl) 103 _ X1 ?_)
    | (go_at_call 74
       (with_reducible refine (HF.out _).mono ?_)
       rintro e w2 ⟨rfl, C2⟩
       have X5 : Hid (Box (w2.alloc (.cells #[.int .i64 0, .string ⟨#[]⟩, .nilFunc, .nilFunc, .nilFunc, .nilFunc] 61)) w2.heap.size 61 zrow) := hid (Box.new w2 _ _)
       have K5 : Hid (Below w.heap.size w (w2.alloc (.cells #[.int .i64 0, .string ⟨#[]⟩, .nilFunc, .nilFunc, .nilFunc, .nilFunc] 61))) := hid ((bel_3 C1 C2).out.alloc (bel_3 C1 C2).out.size _))
    | (refine stG HS.out HO.out (by rfl) _ _ (by rfl) _ (by rfl) (by rfl) 61 zrow X5 HZ.out ?_
       intro w8 X8 hw8
       have K8 := set_up K5 hw8 (bel_3 C1 C2).out.size
       have S8 := rds_up hS K8.out
       have y96 := S8.out.cell
       have y2 : w8.cell? ⟨w2.heap.size, 2, none⟩ = some (.func (.func f1) AA #[]) := (X8.out.cell 2).trans c2
       have y0 : w8.cell? ⟨w2.heap.size, 0, none⟩ = some (.int .i64 (k : Int)) := (X8.out.cell 0).trans c0)
    | ((with_reducible refine (HP.out w8 (TabX.below Hw K8.out)).mono ?_)
       rintro e w9 ⟨rfl, C9⟩
       have z0 : ∀ ob, (w9.alloc ob).cell? ⟨w2.heap.size, 0, none⟩ = some (.int .i64 (k : Int)) := fun ob => ((box_below X8.out (C9.out.trans ((bel_w w9 ob).out.mono C9.out.size))).cell 0).trans c0))
  obtain ⟨gr, hgr⟩ : ∃ z, w2.heap.size = z := ⟨_, rfl⟩
  obtain ⟨u, hu⟩ : ∃ z, z = w9.alloc (.cells #[.int .i64 (k : Int), .int .i64 (a : Int), .int .i64 (b : Int), .string (bs t)] 46) := ⟨_, rfl⟩
  obtain ⟨go, hgo⟩ : ∃ z, w9.heap.size = z := ⟨_, rfl⟩
  have KU : Hid (Below w.heap.size w u) := hid (by rw [hu]; exact (bel_3 K8 C9).out.alloc (bel_3 K8 C9).out.size _)
  have XO : Hid (Box u go 46 #[.int .i64 (k : Int), .int .i64 (a : Int), .int .i64 (b : Int), .string (bs t)]) := hid (by rw [hu, ← hgo]; exact Box.new w9 _ _)
  have SU := rds_up hS KU.out
  have BU := bel_3 HB KU
  rw [← hu]
  simp only [hgo]
  clear hu hgo z0 y0 y2 y96 S8 X8 X5 K5 C9 K8
  have hlen : ops.length = ops.length := rfl
  obtain ⟨nq, hnq⟩ : ∃ z, Hid (ops.length = z) := ⟨_, hid rfl⟩
  obtain ⟨_, csR, hxR⟩ := own_box SU.out.row bR rfl
  have d1 : u.cell? ⟨bR, n1 * 2 + 1, none⟩ = some (.slice oA nq oc) := by
    obtain ⟨b7, o7, x7, hA7, hx7, _, e1, _⟩ := SU.out.pg.at (k := n1) (by rw [SU.out.len]; have := hnn.out; omega)
    injection hA7 with hA7
    injection hA7 with h1 h2
    subst h1 h2
    rw [hat] at hx7
    obtain rfl := Option.some.inj hx7
    have : (0 : Nat) + n1 * 2 + 1 = n1 * 2 + 1 := by omega
    rw [this] at e1
    rw [e1]
    simp only [hnq.out]
  have bz : ∀ W, Below u.heap.size u W → W.cell? ⟨g, 96, none⟩ = some (.slice (some ⟨bR, 0, none⟩) n c) ∧ W.cell? ⟨bR, n1 * 2 + 1, none⟩ = some (.slice oA nq oc) ∧ W.cell? ⟨go, 0, none⟩ = some (.int .i64 (k : Int)) ∧ W.cell? ⟨go, 1, none⟩ = some (.int .i64 (a : Int)) ∧ W.cell? ⟨go, 2, none⟩ = some (.int .i64 (b : Int)) ∧ W.cell? ⟨go, 3, none⟩ = some (.string (bs t)) := fun W h => ⟨(SU.out.up h).cell, (h.cell hxR.lt).trans d1, (box_below XO.out h).cell 0, (box_below XO.out h).cell 1, (box_below XO.out h).cell 2, (box_below XO.out h).cell 3⟩
  go_region_held3 (fun W => W.cell? ⟨g, 96, none⟩ = some (.slice (some ⟨bR, 0, none⟩) n c)) (exact (bz _ (by repeat (first | exact Below.refl _ _ | with_reducible apply bel_d))).1) (fail)
  have D1 : Below u.heap.size u u.drew := bel_d (Below.refl _ _)
  go_upto_region 13 with fail
  generalize u.drew = v at D1 ⊢
  have SV := rds_up SU D1
  have BV := bel_3 BU (hid D1)
  have dv : v.cell? ⟨bR, n1 * 2 + 1, none⟩ = some (.slice oA nq oc) := (bz v D1).2.1
  have bv : ∀ W, Below v.heap.size v W → W.cell? ⟨bR, n1 * 2 + 1, none⟩ = some (.slice oA nq oc) ∧ W.cell? ⟨go, 0, none⟩ = some (.int .i64 (k : Int)) ∧ W.cell? ⟨go, 1, none⟩ = some (.int .i64 (a : Int)) ∧ W.cell? ⟨go, 2, none⟩ = some (.int .i64 (b : Int)) ∧ W.cell? ⟨go, 3, none⟩ = some (.string (bs t)) := fun W h => (bz W (D1.trans (h.mono D1.size))).2
  obtain ⟨p0, p1, p2, p3, p4⟩ := bv v (Below.refl _ _)
  obtain ⟨q0, q1, q2, q3, q4⟩ := bv v.drew (bel_d (Below.refl _ _))
  have r0 : ∀ ob, (v.alloc ob).cell? ⟨bR, n1 * 2 + 1, none⟩ = some (.slice oA nq oc) := fun ob => (bv _ (bel_a (Below.refl _ _))).1
  have r1 : ∀ ob, (v.drew.alloc ob).cell? ⟨bR, n1 * 2 + 1, none⟩ = some (.slice oA nq oc) := fun ob => (bv _ (bel_a (bel_d (Below.refl _ _)))).1
  have OV : Hid (v.ownsRow bl 46 4 (.slice oA nq oc) nq (opsC ops)) := hid (own_n hnq.out.symm (SV.out.last _ List.getLast?_concat))
  have hbl : bl ≤ v.heap.size := SV.out.bw
  have hnq9 : nq ≤ 262144 := by rw [← hnq.out]; exact hq9
  have hmx : nq + 1 ≤ maxLen := by unfold maxLen; omega
  clear bz SU BU XO d1 hxR
  go_region_law ((first
    | (refine step_row 41 46 4 40 _ Tryz.underlying41 infoGO rfl (by decide) (by rfl) (.tmp 75) (.tmp 77) rfl bl nq 1 oc oA (opsC ops) (opsC [opT k (a, b, t)]) rfl (hid (own_keep OV.out ?c1)) ?c2 _ 1 rfl (hid (lies_row _ 46 (opsC [opT k (a, b, t)]) #[.int .i64 (k : Int), .int .i64 (a : Int), .int .i64 (b : Int), .string (bs t)] _ (by first | rfl | simp) rfl)) rfl (opsC_one _) hmx (by omega) ?_
       case c1 => repeat (first | exact Below.refl _ _ | with_reducible apply bel_d | with_reducible apply bel_a)
       case c2 => exact Nat.le_trans hbl (Below.size (by repeat (first | exact Below.refl _ _ | with_reducible apply bel_d | with_reducible apply bel_a)))
       intro A7 c7 u7 o7 k7 g7
       obtain ⟨y7, f7, T7⟩ := op_facts SV BV hnn hnq dv (by repeat (first | exact Below.refl _ _ | with_reducible apply bel_d | with_reducible apply bel_a)) o7 k7
       clear o7 k7 g7)))
  all_goals
    go_wp2
    go_ret
    exact ⟨rfl, A7, c7, T7⟩
end
end L19
end Go.Proofs.YteeienmigoebmaaGreatDoor
