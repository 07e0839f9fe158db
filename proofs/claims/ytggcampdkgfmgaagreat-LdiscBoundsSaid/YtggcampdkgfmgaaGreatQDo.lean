import Derived.Test.YtggcampdkgfmgaaGreatQV
import Derived.Test.YtggcampdkgfmgaaGreatJL
import Derived.Deep.DeepCutAuto
namespace Go.Proofs.YtggcampdkgfmgaaGreat
open Go.RowKit

/-! The law's helper Do. -/
/-- The step's variable, the answer's two. -/
structure Lo (w0 w : World) (o : Op16) (S : Nat → Prop) (x y : Array Value) : Prop where
  bo : Box w w0.heap.size 65 (opV o)
  br : Box w (w0.heap.size + 1) 67 x
  ba : Box w (w0.heap.size + 1 + 1) 67 y
  n0 : ¬ S w0.heap.size
  n1 : ¬ S (w0.heap.size + 1)
  n2 : ¬ S (w0.heap.size + 1 + 1)
theorem Lo.next {w0 w w' : World} {o : Op16} {S S' : Nat → Prop} {x y : Array Value} (H : Lo w0 w o S x y) (hN : Hid (∀ x, S' x → S x ∨ w.heap.size ≤ x)) (hb : Hid (ButP S w w')) : Lo w0 w' o S' x y := by
  have k := H.ba.lt
  refine ⟨hb.out.box H.bo H.n0, hb.out.box H.br H.n1, hb.out.box H.ba H.n2, fun h => ?_, fun h => ?_, fun h => ?_⟩
  · rcases hN.out _ h with h | h
    · exact H.n0 h
    · omega
  · rcases hN.out _ h with h | h
    · exact H.n1 h
    · omega
  · rcases hN.out _ h with h | h
    · exact H.n2 h
    · omega
theorem Lo.new (w : World) (o : Op16) {S : Nat → Prop} (hS : ∀ x, S x → x < w.heap.size) (x y : Array Value) : Lo w (((w.alloc (.cells (opV o) 65)).alloc (.cells x 67)).alloc (.cells y 67)) o S x y := by
  refine ⟨box_al (box_al (box_nw rfl)), box_al ?_, ?_, fun h => by have := hS _ h; omega, fun h => by have := hS _ h; omega, fun h => by have := hS _ h; omega⟩
  · have := Box.new (w.alloc (.cells (opV o) 65)) 67 x
    rwa [World.size_alloc] at this
  · have := Box.new ((w.alloc (.cells (opV o) 65)).alloc (.cells x 67)) 67 y
    rwa [World.size_alloc, World.size_alloc] at this
theorem Lo.storeA {w0 w : World} {o : Op16} {S : Nat → Prop} {x y : Array Value} (H : Lo w0 w o S x y) (i : Nat) (v : Value) : Lo w0 (w.setCell ⟨w0.heap.size + 1 + 1, i, none⟩ v) o S x (y.setIfInBounds i v) :=
  ⟨(Turn.setCell w (w0.heap.size + 1 + 1) i v).box H.bo (by omega), (Turn.setCell w (w0.heap.size + 1 + 1) i v).box H.br (by omega), H.ba.store i v, H.n0, H.n1, H.n2⟩
theorem Lo.fin {w0 w : World} {o : Op16} {S0 S : Nat → Prop} {y : Array Value} {p : Nat} {D : Ds} (H : Lo w0 w o S #[.slice none 0 0, .slice none 0 0, .int .i64 0, .bool false] y) (R : Rel w0 w p S0 S D) (b0 b1 b2 b3 : Value) :
    Hid (Rel w0 ((((w.setCell ⟨w0.heap.size + 1, 0, none⟩ b0).setCell ⟨w0.heap.size + 1, 1, none⟩ b1).setCell ⟨w0.heap.size + 1, 2, none⟩ b2).setCell ⟨w0.heap.size + 1, 3, none⟩ b3) p S0 S D) ∧
    Hid (Box ((((w.setCell ⟨w0.heap.size + 1, 0, none⟩ b0).setCell ⟨w0.heap.size + 1, 1, none⟩ b1).setCell ⟨w0.heap.size + 1, 2, none⟩ b2).setCell ⟨w0.heap.size + 1, 3, none⟩ b3) (w0.heap.size + 1) 67 #[b0, b1, b2, b3]) := by
  have h1 : w0.heap.size ≤ w0.heap.size + 1 := Nat.le_succ _
  refine ⟨hid ((((R.store H.n1 h1 0 b0).store H.n1 h1 1 b1).store H.n1 h1 2 b2).store H.n1 h1 3 b3), hid ?_⟩
  have := (((H.br.store 0 b0).store 1 b1).store 2 b2).store 3 b3
  simpa using this
theorem slb_upx {w v : World} {o : Op16} {p : Nat} {S : Nat → Prop} {D : Ds} (_h : Hid (OpOk w o)) (_k : Hid (Rel w v p S S D)) (_kb : Hid (Below w.heap.size w v)) : Hid (SlB v v.heap.size o.A o.c o.b) := slb_at (hid _h.out.b) _kb
/-- The step's setting is loaded. -/
theorem ldO {ops : Array Oper} {rest : List Oper} {o : Oper} {a : Act} {w : World} {Q : Exit → Act → World → Prop} (hw : Region.wanted o (yielded ops a.tmps) = true) (x : Operand) (ho : o.op = .load 26 x) (g : Nat) (hx : a.eval x = .pointer (some ⟨g, 4, none⟩)) (t : Tm) (hl : t.c.length = 19) {T : TypeId} {cs : Array Value} (hb : Hid (Box w g T cs)) (hc : Hid (∀ (j : Nat) (v : Value), t.cl[j]? = some v → cs[4 + j]? = some v))
    (h : wpList Tryz.prog ops Q rest (a.put o.dst (.agg t.cs)) w) : wpList Tryz.prog ops Q (o :: rest) a w :=
  BigFrame.wpList_want hw fun _ hK => by
    obtain ⟨r1, r2⟩ := isR_of (w := w) (g := g) (o := 4) (t := t) (fun j v hj => (hb.out.cell (4 + j)).trans (hc.out j v hj)) hl
    obtain ⟨dst, op, ty, pos, after, gd⟩ := o
    obtain rfl : op = .load 26 x := ho
    rw [wp_ldR (by rw [hx]; exact r1), hx, r2]
    exact hK _ _ h
theorem setF_inv {D : Ds} {t : Tm} (ht : t.Ok) (h : Inv D) : Inv (setF D t) := by
  unfold setF
  split
  · exact h.set ht
  · exact h
theorem slb_ofrel {w v : World} {o : Op16} {p : Nat} {S S1 : Nat → Prop} {D : Ds} (hO : Hid (OpOk w o)) (hA : Hid (o.b ≠ [] → ∀ a, o.A = some a → ¬ S a.block)) (k : Hid (Rel w v p S S1 D)) : Hid (SlB v v.heap.size o.A o.c o.b) := slb_but (hid hO.out.b) k.out.but hA.out
theorem Lo.drew {w0 w : World} {o : Op16} {S : Nat → Prop} {x y : Array Value} (H : Lo w0 w o S x y) : Lo w0 w.drew o S x y := ⟨H.bo, H.br, H.ba, H.n0, H.n1, H.n2⟩
theorem lo_row {w0 u u2 : World} {o : Op16} {S : Nat → Prop} {x y : Array Value} {A : Option Addr} {n c : Nat} {xs : List Value} (L : Hid (Lo w0 u o S x y)) (O : Hid (u.ownsRow 0 3 1 (.slice A n c) n xs)) (B : Hid (ButP (fun b => ∃ q, A = some q ∧ q.block = b) u u2)) : Lo w0 u2 o S x y := by
  have key : ∀ {g : Nat} {T : TypeId} {cs : Array Value}, Box u g T cs → T ≠ 3 → Box u2 g T cs := fun hb hT => B.out.box hb (by
    rintro ⟨q, hq, e⟩
    subst hq
    obtain ⟨_, c2, b2⟩ := own_box O.out q.block rfl
    exact box_ne hb b2 hT e.symm)
  exact ⟨key L.out.bo (by decide), key L.out.br (by decide), key L.out.ba (by decide), L.out.n0, L.out.n1, L.out.n2⟩
theorem own_set16 {u : World} {A : Option Addr} {n c g : Nat} {T : TypeId} {cs : Array Value} {xs : List Value} (h : Hid (u.ownsRow 0 3 1 (.slice A n c) n xs)) (hb : Box u g T cs) (hT : T ≠ 3) (i : Nat) (v : Value) : (u.setCell ⟨g, i, none⟩ v).ownsRow 0 3 1 (.slice A n c) n xs :=
  ((ButP.refl (fun x => x = g) u).store (.inl rfl) v).own h.out (fun q hq e => by
    obtain ⟨_, c2, b2⟩ := own_box h.out q hq
    exact box_ne hb b2 hT e.symm)
theorem Lo.keep {w0 w w' : World} {o : Op16} {S T : Nat → Prop} {x y : Array Value} (H : Lo w0 w o S x y) (k : ButP T w w') (h0 : ¬ T w0.heap.size) (h1 : ¬ T (w0.heap.size + 1)) (h2 : ¬ T (w0.heap.size + 1 + 1)) : Lo w0 w' o S x y :=
  ⟨k.box H.bo h0, k.box H.br h1, k.box H.ba h2, H.n0, H.n1, H.n2⟩
set_option maxRecDepth 100000 in
set_option maxHeartbeats 8000000 in
theorem do_any (w : World) (p : Nat) (S : Nat → Prop) (D : Ds) (hD : Hid (DAt w p S D)) (hI : Hid (Inv D)) (o : Op16) (hO : Hid (OpOk w o)) (hm : Hid (o.b.length ≤ 3000)) (hA : Hid (o.b ≠ [] → ∀ a, o.A = some a → ¬ S a.block)) :
    Calls Tryz.prog 31 #[.pointer (some ⟨p, 0, none⟩), .agg (opV o)] w fun e w' => ∃ v D', e = .returned v ∧ Hid (Inv D') ∧ DOut w p S D' w' := by
  have hi29 : (Tryz.prog.info? 65).map (·.size) = some (opV o).size := by rw [opV_size hO.out.t]; exact sizeOp
  have L0 := hid (Lo.new w o hD.out.top #[.slice none 0 0, .slice none 0 0, .int .i64 0, .bool false] #[.slice none 0 0, .slice none 0 0, .int .i64 0, .bool false])
  have R0 := hid (Rel.new3 hD.out (.cells (opV o) 65) (.cells #[.slice none 0 0, .slice none 0 0, .int .i64 0, .bool false] 67) (.cells #[.slice none 0 0, .slice none 0 0, .int .i64 0, .bool false] 67))
  have hl := hO.out.t.len
  have KB := hid ((((Below.refl _ w).alloc (Nat.le_refl _) (.cells (opV o) 65)).alloc (by simp) (.cells #[.slice none 0 0, .slice none 0 0, .int .i64 0, .bool false] 67)).alloc (by simp; omega) (.cells #[.slice none 0 0, .slice none 0 0, .int .i64 0, .bool false] 67))
  obtain ⟨nb, hnb⟩ : ∃ q, Hid (o.b.length = q) := ⟨_, hid rfl⟩
  have F0 : Hid ((opV o)[0]? = some (.int .i64 o.k)) := hid rfl
  have F1 : Hid ((opV o)[1]? = some (.int .i64 o.n)) := hid rfl
  have F2 : Hid ((opV o)[2]? = some (.int .i64 o.wt)) := hid rfl
  have F3 : Hid ((opV o)[3]? = some (.slice o.A nb o.c)) := hid (by rw [← hnb.out]; rfl)
  have F4 : Hid (∀ (j : Nat) (v : Value), o.t.cl[j]? = some v → (opV o)[4 + j]? = some v) := hid (fun j v h => by
    show (([Value.int .i64 o.k, .int .i64 o.n, .int .i64 o.wt, .slice o.A o.b.length o.c] ++ o.t.cl).toArray)[4 + j]? = some v
    rw [List.getElem?_toArray, List.getElem?_append_right (by simp)]
    simpa using h)
  go_enter Tryz.func31, Tryz.ntmps31
  go_upto_region 2 with (first
    | (refine bxT (by rfl) 65 _ (by rfl) _ (by rfl) hi29 ?_))
  generalize World.alloc (World.alloc (World.alloc _ _) _) _ = v at L0 R0 KB ⊢
  have c0 : v.cell? ⟨w.heap.size, 0, none⟩ = some (.int .i64 o.k) := (L0.out.bo.cell 0).trans F0.out
  have c1 : v.cell? ⟨w.heap.size, 1, none⟩ = some (.int .i64 o.n) := (L0.out.bo.cell 1).trans F1.out
  have c2 : v.cell? ⟨w.heap.size, 2, none⟩ = some (.int .i64 o.wt) := (L0.out.bo.cell 2).trans F2.out
  have c3 : v.cell? ⟨w.heap.size, 3, none⟩ = some (.slice o.A nb o.c) := (L0.out.bo.cell 3).trans F3.out
  by_cases k1 : o.k = 1
  · rw [k1] at c0
    obtain ⟨oA, hoA⟩ : ∃ q, Hid (o.A = q) := ⟨_, hid rfl⟩
    rw [hoA.out] at c3
    clear F3
    go_wp2_with fail
    go_loopg [15] nb (fun gk i wr => ∃ (m : Nat) (S1 : Nat → Prop) (D1 : Ds) (A9 : Option Addr) (m9 c9 : Nat) (xs : List Value), m + gk = nb ∧ i = .int .i64 m ∧ m9 ≤ m ∧ Hid (Rel w wr p S S1 D1) ∧ Hid (Inv D1) ∧ Hid (Lo w wr o S1 #[.slice none 0 0, .slice none 0 0, .int .i64 0, .bool false] #[.slice A9 m9 c9, .slice none 0 0, .int .i64 0, .bool false]) ∧ Hid (wr.ownsRow 0 3 1 (.slice A9 m9 c9) m9 xs) ∧ Hid (∀ x, A9 = some x → w.heap.size ≤ x.block ∧ ¬ S1 x.block ∧ x.block < wr.heap.size) ∧ Hid (True))
    case atStart => exact ⟨0, S, D, none, 0, 0, [], by omega, rfl, Nat.le_refl _, R0, hI, L0, hid ⟨rfl, .inl ⟨rfl, rfl⟩⟩, hid (fun x h => by cases h), hid trivial⟩
    case round =>
      obtain ⟨m, S1, D1, A9, m9, c9, xs, hmk, rfl, hm9, R1, I1, L1, O9, F9, -⟩ := hrel
      have hnb3 : nb ≤ 3000 := by have := hnb.out; have := hm.out; omega
      by_cases hlt : m < nb
      · have hki : (m : Int) < (nb : Int) := by omega
        have LB := slb_ofrel hO hA R1
        obtain ⟨b0, o0, y, hAA, hy, cy⟩ := slb_cell LB.out hnb.out hlt
        obtain rfl : oA = some ⟨b0, o0, none⟩ := hoA.out.symm.trans hAA
        clear hAA hy
        have hone := input_one D1 y
        obtain ⟨⟨D2, sg⟩, hr⟩ : ∃ z, Hid (inputD D1 y = z) := ⟨_, hid rfl⟩
        rw [hr.out] at hone
        have hone : sg.length ≤ 1 := hone
        have I2 : Hid (Inv D2) := hid (by have := I1.out.input y; rwa [hr.out] at this)
        have L1d := hid L1.out.drew
        have R1d := hid R1.out.drew
        have O1d : Hid (wr.drew.ownsRow 0 3 1 (.slice A9 m9 c9) m9 xs) := hid O9.out.drew
        have a0 : wr.drew.cell? ⟨w.heap.size + 1 + 1, 0, none⟩ = some (.slice A9 m9 c9) := L1d.out.ba.cell 0
        have y0 := L1d.out.ba.frozen 0
        go_upto_region 7 with fail
        go_region_law (first
          | (go_simp
             go_at_call 20
             (with_reducible refine (inputp_any wr.drew p S1 D1 (hid R1d.out.at_) (hid I1.out.fit) y hr).mono ?_)
             rintro e u1 ⟨A5, n5, c5, rfl, hn5, L5, O5⟩
             have hn5 : Hid (sg.length = n5) := hn5
             have L5 : Hid (SlI u1 u1.heap.size A5 c5 sg) := L5
             have O5 : DOut wr.drew p S1 D2 u1 := O5
             obtain ⟨S2, R2, N2, B2⟩ := R1d.out.next O5
             have L2 := hid (L1d.out.next N2 B2)
             have O2 : Hid (u1.ownsRow 0 3 1 (.slice A9 m9 c9) m9 xs) := hid (B2.out.own O1d.out (own_free F9))
             have a0' : u1.cell? ⟨w.heap.size + 1 + 1, 0, none⟩ = some (.slice A9 m9 c9) := L2.out.ba.cell 0
             have y0' := L2.out.ba.frozen 0)
          | (refine step_ints u1 (by rfl) (.tmp 20) (.tmp 23) rfl m9 c9 A9 xs (by rfl) O2 A5 n5 c5 sg (by rfl) L5 hn5 (by have := hn5.out; omega) ?_
             intro A10 c10 u2 P10 B10 F10
             have R3 := hid (rel_row R2 F9 N2 B10)
             have L3 := hid (lo_row L2 O2 B10)
             have a0'' : u2.cell? ⟨w.heap.size + 1 + 1, 0, none⟩ = some (.slice A9 m9 c9) := L3.out.ba.cell 0
             have y0'' := L3.out.ba.frozen 0))
        all_goals
          have L4 := hid (L3.out.storeA 0 (.slice A10 (m9 + n5) c10))
          have R4 := hid (R3.out.store L3.out.n2 (by omega) 0 (.slice A10 (m9 + n5) c10))
          have O4 := hid (own_set16 P10 L3.out.ba (by decide) 0 (.slice A10 (m9 + n5) c10))
          have Z9 := hid (free_row F9 N2 F10 P10 B2.out.size B10.out.size R2.out.at_.top)
          go_wp2_with fail
          go_roundg (gk - 1)
          case measure => omega
          case rel => exact ⟨m + 1, S2, D2, A10, m9 + n5, c10, xs ++ iv16 sg, by omega, by go_num, by have := hn5.out; omega, R4, I2, by simpa using L4, O4, hid (fun x hx => ⟨(Z9.out x hx).1 R1.out.but.size, (Z9.out x hx).2.1, by simpa [World.setCell] using (Z9.out x hx).2.2⟩), hid trivial⟩
      · obtain rfl : m = nb := by omega
        have hki : ¬ (m : Int) < (m : Int) := by omega
        have a0 := L1.out.ba.cell 0
        have a1 := L1.out.ba.cell 1
        have a2 := L1.out.ba.cell 2
        have a3 := L1.out.ba.cell 3
        have y0 := L1.out.ba.frozen 0
        have y1 := L1.out.ba.frozen 1
        have y2 := L1.out.ba.frozen 2
        have y3 := L1.out.ba.frozen 3
        have r0 := L1.out.br.cell 0
        have r1 := L1.out.br.cell 1
        have r2 := L1.out.br.cell 2
        have r3 := L1.out.br.cell 3
        have x0 := L1.out.br.frozen 0
        have x1 := L1.out.br.frozen 1
        have x2 := L1.out.br.frozen 2
        have x3 := L1.out.br.frozen 3
        simp only [List.getElem?_toArray, List.getElem?_cons_zero, List.getElem?_cons_succ] at a0 a1 a2 a3 r0 r1 r2 r3
        go_wp2_with fail
        obtain ⟨R9, B9⟩ := Lo.fin L1.out R1.out (.slice A9 m9 c9) (.slice none 0 0) (.int .i64 0) (.bool false)
        have e0 := B9.out.cell 0
        have e1 := B9.out.cell 1
        have e2 := B9.out.cell 2
        have e3 := B9.out.cell 3
        simp only [List.getElem?_toArray, List.getElem?_cons_zero, List.getElem?_cons_succ] at e0 e1 e2 e3
        generalize World.setCell (World.setCell (World.setCell (World.setCell _ ⟨w.heap.size + 1, 0, none⟩ _) _ _) _ _) _ _ = v9 at R9 B9 e0 e1 e2 e3 ⊢
        refine bodyPost_ret (v := .agg #[.slice A9 m9 c9, .slice none 0 0, .int .i64 0, .bool false]) (by simp [results, Tryz.results31, e0, e1, e2, e3, go_sem]) rfl ?_
        first
          | exact ⟨_, D1, rfl, I1, R9.out.out⟩
          | exact ⟨.bool true, D1, I1, R9.out.out⟩
          | exact ⟨⟨_, rfl⟩, D1, I1, R9.out.out⟩
  by_cases k2 : o.k = 2
  · rw [k2] at c0
    clear k1
    go_wp2_with (first
      | (refine ldO (by rfl) _ (by rfl) w.heap.size (by rfl) o.t hl (hid L0.out.bo) F4 ?_)
      | (go_at_call 33
         (with_reducible refine (writep_any v p S D (hid R0.out.at_) (hid hI.out.fit) o.A nb o.c o.b (slb_upx hO R0 KB) hnb (by have := hnb.out; have := hm.out; omega) hA (hid rfl) (hid rfl)).mono ?_)
         rintro e u1 ⟨rfl, O1⟩
         obtain ⟨S1, R1, N1, B1⟩ := R0.out.next O1
         have L1 := hid (L0.out.next N1 B1)
         clear c0 c1 c2 c3
         have a0 := L1.out.ba.cell 0
         have a1 := L1.out.ba.cell 1
         have a2 := L1.out.ba.cell 2
         have a3 := L1.out.ba.cell 3
         have y0 := L1.out.ba.frozen 0
         have y1 := L1.out.ba.frozen 1
         have y2 := L1.out.ba.frozen 2
         have y3 := L1.out.ba.frozen 3
         have r0 := L1.out.br.cell 0
         have r1 := L1.out.br.cell 1
         have r2 := L1.out.br.cell 2
         have r3 := L1.out.br.cell 3
         have x0 := L1.out.br.frozen 0
         have x1 := L1.out.br.frozen 1
         have x2 := L1.out.br.frozen 2
         have x3 := L1.out.br.frozen 3
         simp only [List.getElem?_toArray, List.getElem?_cons_zero, List.getElem?_cons_succ] at a0 a1 a2 a3 r0 r1 r2 r3))
    have L2 := hid (L1.out.storeA 2 (.int .i64 ((writeN D o.b : Nat) : Int)))
    have R2 := hid (R1.out.store L1.out.n2 (by omega) 2 (.int .i64 ((writeN D o.b : Nat) : Int)))
    obtain ⟨R9, B9⟩ := Lo.fin L2.out R2.out (.slice none 0 0) (.slice none 0 0) (.int .i64 ((writeN D o.b : Nat) : Int)) (.bool false)
    have e0 := B9.out.cell 0
    have e1 := B9.out.cell 1
    have e2 := B9.out.cell 2
    have e3 := B9.out.cell 3
    simp only [List.getElem?_toArray, List.getElem?_cons_zero, List.getElem?_cons_succ] at e0 e1 e2 e3
    generalize World.setCell (World.setCell (World.setCell (World.setCell _ ⟨w.heap.size + 1, 0, none⟩ _) _ _) _ _) _ _ = v9 at R9 B9 e0 e1 e2 e3 ⊢
    refine bodyPost_ret (v := .agg #[.slice none 0 0, .slice none 0 0, .int .i64 ((writeN D o.b : Nat) : Int), .bool false]) (by simp [results, Tryz.results31, e0, e1, e2, e3, go_sem]) rfl ?_
    exact ⟨_, writeD D o.b, rfl, hid (hI.out.write o.b), R9.out.out⟩
  by_cases k3 : o.k = 3
  · rw [k3] at c0
    clear k1 k2
    go_wp2_with (first
      | (refine ldO (by rfl) _ (by rfl) w.heap.size (by rfl) o.t hl (hid L0.out.bo) F4 ?_)
      | (go_at_call 37
         (with_reducible refine (outputp_any v p S D (hid R0.out.at_) (hid hI.out.fit) o.n hO.out.n (hid rfl) (hid rfl)).mono ?_)
         rintro e u1 ⟨A5, n5, c5, rfl, -, -, O1⟩
         obtain ⟨S1, R1, N1, B1⟩ := R0.out.nextF O1
         have L1 := hid (L0.out.next N1 B1)
         clear c0 c1 c2 c3
         have a0 := L1.out.ba.cell 0
         have a1 := L1.out.ba.cell 1
         have a2 := L1.out.ba.cell 2
         have a3 := L1.out.ba.cell 3
         have y0 := L1.out.ba.frozen 0
         have y1 := L1.out.ba.frozen 1
         have y2 := L1.out.ba.frozen 2
         have y3 := L1.out.ba.frozen 3
         have r0 := L1.out.br.cell 0
         have r1 := L1.out.br.cell 1
         have r2 := L1.out.br.cell 2
         have r3 := L1.out.br.cell 3
         have x0 := L1.out.br.frozen 0
         have x1 := L1.out.br.frozen 1
         have x2 := L1.out.br.frozen 2
         have x3 := L1.out.br.frozen 3
         simp only [List.getElem?_toArray, List.getElem?_cons_zero, List.getElem?_cons_succ] at a0 a1 a2 a3 r0 r1 r2 r3))
    have L2 := hid (L1.out.storeA 1 (.slice A5 n5 c5))
    have R2 := hid (R1.out.store L1.out.n2 (by omega) 1 (.slice A5 n5 c5))
    obtain ⟨R9, B9⟩ := Lo.fin L2.out R2.out (.slice none 0 0) (.slice A5 n5 c5) (.int .i64 0) (.bool false)
    have e0 := B9.out.cell 0
    have e1 := B9.out.cell 1
    have e2 := B9.out.cell 2
    have e3 := B9.out.cell 3
    simp only [List.getElem?_toArray, List.getElem?_cons_zero, List.getElem?_cons_succ] at e0 e1 e2 e3
    generalize World.setCell (World.setCell (World.setCell (World.setCell _ ⟨w.heap.size + 1, 0, none⟩ _) _ _) _ _) _ _ = v9 at R9 B9 e0 e1 e2 e3 ⊢
    refine bodyPost_ret (v := .agg #[.slice none 0 0, .slice A5 n5 c5, .int .i64 0, .bool false]) (by simp [results, Tryz.results31, e0, e1, e2, e3, go_sem]) rfl ?_
    exact ⟨_, outputD D o.n, rfl, hid (hI.out.output o.n), R9.out.out⟩
  by_cases k4 : o.k = 4
  · rw [k4] at c0
    clear k1 k2 k3
    go_wp2_with (first
      | (refine ldO (by rfl) _ (by rfl) w.heap.size (by rfl) o.t hl (hid L0.out.bo) F4 ?_)
      | (go_at_call 21
         (with_reducible refine (readp16_any v p S D (hid R0.out.at_) (hid hI.out.fit) o.n o.wt hO.out.n hO.out.wt (hid rfl)).mono ?_)
         rintro e u1 ⟨A5, n5, c5, rfl, -, -, O1⟩
         obtain ⟨S1, R1, N1, B1⟩ := R0.out.nextF O1
         have L1 := hid (L0.out.next N1 B1)
         clear c0 c1 c2 c3
         have a0 := L1.out.ba.cell 0
         have a1 := L1.out.ba.cell 1
         have a2 := L1.out.ba.cell 2
         have a3 := L1.out.ba.cell 3
         have y0 := L1.out.ba.frozen 0
         have y1 := L1.out.ba.frozen 1
         have y2 := L1.out.ba.frozen 2
         have y3 := L1.out.ba.frozen 3
         have r0 := L1.out.br.cell 0
         have r1 := L1.out.br.cell 1
         have r2 := L1.out.br.cell 2
         have r3 := L1.out.br.cell 3
         have x0 := L1.out.br.frozen 0
         have x1 := L1.out.br.frozen 1
         have x2 := L1.out.br.frozen 2
         have x3 := L1.out.br.frozen 3
         simp only [List.getElem?_toArray, List.getElem?_cons_zero, List.getElem?_cons_succ] at a0 a1 a2 a3 r0 r1 r2 r3))
    have L2 := hid (L1.out.storeA 1 (.slice A5 n5 c5))
    have R2 := hid (R1.out.store L1.out.n2 (by omega) 1 (.slice A5 n5 c5))
    have L3 := hid (L2.out.storeA 3 (.bool (readD D o.n o.wt).2.2))
    have R3 := hid (R2.out.store L2.out.n2 (by omega) 3 (.bool (readD D o.n o.wt).2.2))
    obtain ⟨R9, B9⟩ := Lo.fin L3.out R3.out (.slice none 0 0) (.slice A5 n5 c5) (.int .i64 0) (.bool (readD D o.n o.wt).2.2)
    have e0 := B9.out.cell 0
    have e1 := B9.out.cell 1
    have e2 := B9.out.cell 2
    have e3 := B9.out.cell 3
    simp only [List.getElem?_toArray, List.getElem?_cons_zero, List.getElem?_cons_succ] at e0 e1 e2 e3
    generalize World.setCell (World.setCell (World.setCell (World.setCell _ ⟨w.heap.size + 1, 0, none⟩ _) _ _) _ _) _ _ = v9 at R9 B9 e0 e1 e2 e3 ⊢
    refine bodyPost_ret (v := .agg #[.slice none 0 0, .slice A5 n5 c5, .int .i64 0, .bool (readD D o.n o.wt).2.2]) (by simp [results, Tryz.results31, e0, e1, e2, e3, go_sem]) rfl ?_
    exact ⟨_, (readD D o.n o.wt).1, rfl, hid (hI.out.read o.n o.wt), R9.out.out⟩
  by_cases k5 : o.k = 5
  · rw [k5] at c0
    clear k1 k2 k3 k4
    go_wp2_with (first
      | (refine ldO (by rfl) _ (by rfl) w.heap.size (by rfl) o.t hl (hid L0.out.bo) F4 ?_)
      | (go_at_call 69
         (with_reducible refine (tickp_any v p S D (hid R0.out.at_) (hid hI.out.fit) o.n hO.out.n (hid rfl)).mono ?_)
         rintro e u1 ⟨rfl, O1⟩
         obtain ⟨S1, R1, N1, B1⟩ := R0.out.next O1
         have L1 := hid (L0.out.next N1 B1)
         clear c0 c1 c2 c3
         have a0 := L1.out.ba.cell 0
         have a1 := L1.out.ba.cell 1
         have a2 := L1.out.ba.cell 2
         have a3 := L1.out.ba.cell 3
         have y0 := L1.out.ba.frozen 0
         have y1 := L1.out.ba.frozen 1
         have y2 := L1.out.ba.frozen 2
         have y3 := L1.out.ba.frozen 3
         have r0 := L1.out.br.cell 0
         have r1 := L1.out.br.cell 1
         have r2 := L1.out.br.cell 2
         have r3 := L1.out.br.cell 3
         have x0 := L1.out.br.frozen 0
         have x1 := L1.out.br.frozen 1
         have x2 := L1.out.br.frozen 2
         have x3 := L1.out.br.frozen 3
         simp only [List.getElem?_toArray, List.getElem?_cons_zero, List.getElem?_cons_succ] at a0 a1 a2 a3 r0 r1 r2 r3))
    obtain ⟨R9, B9⟩ := Lo.fin L1.out R1.out (.slice none 0 0) (.slice none 0 0) (.int .i64 0) (.bool false)
    have e0 := B9.out.cell 0
    have e1 := B9.out.cell 1
    have e2 := B9.out.cell 2
    have e3 := B9.out.cell 3
    simp only [List.getElem?_toArray, List.getElem?_cons_zero, List.getElem?_cons_succ] at e0 e1 e2 e3
    generalize World.setCell (World.setCell (World.setCell (World.setCell _ ⟨w.heap.size + 1, 0, none⟩ _) _ _) _ _) _ _ = v9 at R9 B9 e0 e1 e2 e3 ⊢
    refine bodyPost_ret (v := .agg #[.slice none 0 0, .slice none 0 0, .int .i64 0, .bool false]) (by simp [results, Tryz.results31, e0, e1, e2, e3, go_sem]) rfl ?_
    exact ⟨_, tickD D o.n, rfl, hid (hI.out.tick o.n), R9.out.out⟩
  by_cases k6 : o.k = 6
  · rw [k6] at c0
    clear k1 k2 k3 k4 k5
    go_wp2_with (first
      | (refine ldO (by rfl) _ (by rfl) w.heap.size (by rfl) o.t hl (hid L0.out.bo) F4 ?_)
      | (go_at_call 70
         (with_reducible refine (setp_any v p S D (hid R0.out.at_) (hid hI.out.fit) o.t hO.out.t (hid rfl) (hid rfl)).mono ?_)
         rintro e u1 ⟨rfl, O1⟩
         obtain ⟨S1, R1, N1, B1⟩ := R0.out.next O1
         have L1 := hid (L0.out.next N1 B1)
         clear c0 c1 c2 c3
         have a0 := L1.out.ba.cell 0
         have a1 := L1.out.ba.cell 1
         have a2 := L1.out.ba.cell 2
         have a3 := L1.out.ba.cell 3
         have y0 := L1.out.ba.frozen 0
         have y1 := L1.out.ba.frozen 1
         have y2 := L1.out.ba.frozen 2
         have y3 := L1.out.ba.frozen 3
         have r0 := L1.out.br.cell 0
         have r1 := L1.out.br.cell 1
         have r2 := L1.out.br.cell 2
         have r3 := L1.out.br.cell 3
         have x0 := L1.out.br.frozen 0
         have x1 := L1.out.br.frozen 1
         have x2 := L1.out.br.frozen 2
         have x3 := L1.out.br.frozen 3
         simp only [List.getElem?_toArray, List.getElem?_cons_zero, List.getElem?_cons_succ] at a0 a1 a2 a3 r0 r1 r2 r3))
    have L2 := hid (L1.out.storeA 2 (.int .i64 (setE D o.t)))
    have R2 := hid (R1.out.store L1.out.n2 (by omega) 2 (.int .i64 (setE D o.t)))
    obtain ⟨R9, B9⟩ := Lo.fin L2.out R2.out (.slice none 0 0) (.slice none 0 0) (.int .i64 (setE D o.t)) (.bool false)
    have e0 := B9.out.cell 0
    have e1 := B9.out.cell 1
    have e2 := B9.out.cell 2
    have e3 := B9.out.cell 3
    simp only [List.getElem?_toArray, List.getElem?_cons_zero, List.getElem?_cons_succ] at e0 e1 e2 e3
    generalize World.setCell (World.setCell (World.setCell (World.setCell _ ⟨w.heap.size + 1, 0, none⟩ _) _ _) _ _) _ _ = v9 at R9 B9 e0 e1 e2 e3 ⊢
    refine bodyPost_ret (v := .agg #[.slice none 0 0, .slice none 0 0, .int .i64 (setE D o.t), .bool false]) (by simp [results, Tryz.results31, e0, e1, e2, e3, go_sem]) rfl ?_
    exact ⟨_, setF D o.t, rfl, hid (setF_inv hO.out.t hI.out), R9.out.out⟩
  by_cases k7 : o.k = 7
  · rw [k7] at c0
    clear k1 k2 k3 k4 k5 k6
    go_wp2_with (first
      | (refine ldO (by rfl) _ (by rfl) w.heap.size (by rfl) o.t hl (hid L0.out.bo) F4 ?_)
      | (go_at_call 55
         (with_reducible refine (flushp_any v p S D (hid R0.out.at_) (hid hI.out.fit) o.n (hid rfl) (hid rfl)).mono ?_)
         rintro e u1 ⟨rfl, O1⟩
         obtain ⟨S1, R1, N1, B1⟩ := R0.out.next O1
         have L1 := hid (L0.out.next N1 B1)
         clear c0 c1 c2 c3
         have a0 := L1.out.ba.cell 0
         have a1 := L1.out.ba.cell 1
         have a2 := L1.out.ba.cell 2
         have a3 := L1.out.ba.cell 3
         have y0 := L1.out.ba.frozen 0
         have y1 := L1.out.ba.frozen 1
         have y2 := L1.out.ba.frozen 2
         have y3 := L1.out.ba.frozen 3
         have r0 := L1.out.br.cell 0
         have r1 := L1.out.br.cell 1
         have r2 := L1.out.br.cell 2
         have r3 := L1.out.br.cell 3
         have x0 := L1.out.br.frozen 0
         have x1 := L1.out.br.frozen 1
         have x2 := L1.out.br.frozen 2
         have x3 := L1.out.br.frozen 3
         simp only [List.getElem?_toArray, List.getElem?_cons_zero, List.getElem?_cons_succ] at a0 a1 a2 a3 r0 r1 r2 r3))
    have L2 := hid (L1.out.storeA 2 (.int .i64 (flushE o.n)))
    have R2 := hid (R1.out.store L1.out.n2 (by omega) 2 (.int .i64 (flushE o.n)))
    obtain ⟨R9, B9⟩ := Lo.fin L2.out R2.out (.slice none 0 0) (.slice none 0 0) (.int .i64 (flushE o.n)) (.bool false)
    have e0 := B9.out.cell 0
    have e1 := B9.out.cell 1
    have e2 := B9.out.cell 2
    have e3 := B9.out.cell 3
    simp only [List.getElem?_toArray, List.getElem?_cons_zero, List.getElem?_cons_succ] at e0 e1 e2 e3
    generalize World.setCell (World.setCell (World.setCell (World.setCell _ ⟨w.heap.size + 1, 0, none⟩ _) _ _) _ _) _ _ = v9 at R9 B9 e0 e1 e2 e3 ⊢
    refine bodyPost_ret (v := .agg #[.slice none 0 0, .slice none 0 0, .int .i64 (flushE o.n), .bool false]) (by simp [results, Tryz.results31, e0, e1, e2, e3, go_sem]) rfl ?_
    exact ⟨_, flushD D o.n, rfl, hid (hI.out.flush o.n), R9.out.out⟩
  by_cases k8 : o.k = 8
  · rw [k8] at c0
    clear k1 k2 k3 k4 k5 k6 k7
    go_wp2_with (first
      | (refine ldO (by rfl) _ (by rfl) w.heap.size (by rfl) o.t hl (hid L0.out.bo) F4 ?_)
      | (go_at_call 71
         (with_reducible refine (askp16_any v p S D (hid R0.out.at_) (hid hI.out.fit) o.n (hid rfl)).mono ?_)
         rintro e u1 ⟨rfl, O1⟩
         obtain ⟨S1, R1, N1, B1⟩ := R0.out.next O1
         have L1 := hid (L0.out.next N1 B1)
         clear c0 c1 c2 c3
         have a0 := L1.out.ba.cell 0
         have a1 := L1.out.ba.cell 1
         have a2 := L1.out.ba.cell 2
         have a3 := L1.out.ba.cell 3
         have y0 := L1.out.ba.frozen 0
         have y1 := L1.out.ba.frozen 1
         have y2 := L1.out.ba.frozen 2
         have y3 := L1.out.ba.frozen 3
         have r0 := L1.out.br.cell 0
         have r1 := L1.out.br.cell 1
         have r2 := L1.out.br.cell 2
         have r3 := L1.out.br.cell 3
         have x0 := L1.out.br.frozen 0
         have x1 := L1.out.br.frozen 1
         have x2 := L1.out.br.frozen 2
         have x3 := L1.out.br.frozen 3
         simp only [List.getElem?_toArray, List.getElem?_cons_zero, List.getElem?_cons_succ] at a0 a1 a2 a3 r0 r1 r2 r3))
    have L2 := hid (L1.out.storeA 2 (.int .i64 (askD D o.n).2))
    have R2 := hid (R1.out.store L1.out.n2 (by omega) 2 (.int .i64 (askD D o.n).2))
    obtain ⟨R9, B9⟩ := Lo.fin L2.out R2.out (.slice none 0 0) (.slice none 0 0) (.int .i64 (askD D o.n).2) (.bool false)
    have e0 := B9.out.cell 0
    have e1 := B9.out.cell 1
    have e2 := B9.out.cell 2
    have e3 := B9.out.cell 3
    simp only [List.getElem?_toArray, List.getElem?_cons_zero, List.getElem?_cons_succ] at e0 e1 e2 e3
    generalize World.setCell (World.setCell (World.setCell (World.setCell _ ⟨w.heap.size + 1, 0, none⟩ _) _ _) _ _) _ _ = v9 at R9 B9 e0 e1 e2 e3 ⊢
    refine bodyPost_ret (v := .agg #[.slice none 0 0, .slice none 0 0, .int .i64 (askD D o.n).2, .bool false]) (by simp [results, Tryz.results31, e0, e1, e2, e3, go_sem]) rfl ?_
    exact ⟨_, (askD D o.n).1, rfl, hid (hI.out.ask o.n), R9.out.out⟩
  have b1 : (o.k == 1) = false := beq_eq_false_iff_ne.2 k1
  have b2 : (o.k == 2) = false := beq_eq_false_iff_ne.2 k2
  have b3 : (o.k == 3) = false := beq_eq_false_iff_ne.2 k3
  have b4 : (o.k == 4) = false := beq_eq_false_iff_ne.2 k4
  have b5 : (o.k == 5) = false := beq_eq_false_iff_ne.2 k5
  have b6 : (o.k == 6) = false := beq_eq_false_iff_ne.2 k6
  have b7 : (o.k == 7) = false := beq_eq_false_iff_ne.2 k7
  have b8 : (o.k == 8) = false := beq_eq_false_iff_ne.2 k8
  clear k1 k2 k3 k4 k5 k6 k7 k8
  have a0 := L0.out.ba.cell 0
  have a1 := L0.out.ba.cell 1
  have a2 := L0.out.ba.cell 2
  have a3 := L0.out.ba.cell 3
  have y0 := L0.out.ba.frozen 0
  have y1 := L0.out.ba.frozen 1
  have y2 := L0.out.ba.frozen 2
  have y3 := L0.out.ba.frozen 3
  have r0 := L0.out.br.cell 0
  have r1 := L0.out.br.cell 1
  have r2 := L0.out.br.cell 2
  have r3 := L0.out.br.cell 3
  have x0 := L0.out.br.frozen 0
  have x1 := L0.out.br.frozen 1
  have x2 := L0.out.br.frozen 2
  have x3 := L0.out.br.frozen 3
  simp only [List.getElem?_toArray, List.getElem?_cons_zero, List.getElem?_cons_succ] at a0 a1 a2 a3 r0 r1 r2 r3
  go_wp2_with fail
  obtain ⟨R9, B9⟩ := Lo.fin L0.out R0.out (.slice none 0 0) (.slice none 0 0) (.int .i64 0) (.bool false)
  have e0 := B9.out.cell 0
  have e1 := B9.out.cell 1
  have e2 := B9.out.cell 2
  have e3 := B9.out.cell 3
  simp only [List.getElem?_toArray, List.getElem?_cons_zero, List.getElem?_cons_succ] at e0 e1 e2 e3
  generalize World.setCell (World.setCell (World.setCell (World.setCell _ ⟨w.heap.size + 1, 0, none⟩ _) _ _) _ _) _ _ = v9 at R9 B9 e0 e1 e2 e3 ⊢
  refine bodyPost_ret (v := .agg #[.slice none 0 0, .slice none 0 0, .int .i64 0, .bool false]) (by simp [results, Tryz.results31, e0, e1, e2, e3, go_sem]) rfl ?_
  exact ⟨_, D, rfl, hI, R9.out.out⟩
end Go.Proofs.YtggcampdkgfmgaaGreat
