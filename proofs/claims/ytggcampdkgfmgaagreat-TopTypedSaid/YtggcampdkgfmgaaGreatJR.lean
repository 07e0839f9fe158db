import Derived.Test.YtggcampdkgfmgaaGreatJQ
namespace Go.Proofs.YtggcampdkgfmgaaGreat
open Go.RowKit

/-! Layer 16: a byte that is typed. -/
section
variable {w0 w : World} {p : Nat} {S0 S : Nat → Prop} {D : Ds} {h : Ph}
theorem first_some (w : World) (t : Tm) (ht : t.Ok) (c : UInt8) (g p : Nat) (cs : Array Value) (rs : List Wa) (n : Nat) (hb : Hid (Box w g 173 cs)) (hc : Hid (WaAt p cs rs)) (hn : Hid (rs.length = n)) (hm : n ≤ 20) {ch fl sg : Int} {m : FuncId} (hx : Hid (firstW t c rs = some ⟨ch, fl, m, sg⟩)) :
    Calls Tryz.prog 99 #[.slice (some ⟨g, 0, none⟩) n n, .agg t.cs, .int .u8 (c.toNat : Int)] w fun e w' => e = .returned (.tuple #[.agg #[.int .i64 ch, .int .i64 fl, .func (.func m) #[.pointer (some ⟨p, 0, none⟩)] #[], .int .i64 sg], .bool true]) ∧ Hid (Below w.heap.size w w') := first_b w t ht c g p cs rs n hb hc hn hm hx
theorem first_none (w : World) (t : Tm) (ht : t.Ok) (c : UInt8) (g p : Nat) (cs : Array Value) (rs : List Wa) (n : Nat) (hb : Hid (Box w g 173 cs)) (hc : Hid (WaAt p cs rs)) (hn : Hid (rs.length = n)) (hm : n ≤ 20) (hx : Hid (firstW t c rs = none)) :
    Calls Tryz.prog 99 #[.slice (some ⟨g, 0, none⟩) n n, .agg t.cs, .int .u8 (c.toNat : Int)] w fun e w' => e = .returned (.tuple #[.agg #[.int .i64 0, .int .i64 0, .nilFunc, .int .i64 0], .bool false]) ∧ Hid (Below w.heap.size w w') := first_b w t ht c g p cs rs n hb hc hn hm hx
/-- Four cells are stored to a way's block. -/
theorem slb_way {W : World} {g : Nat} {b0 b1 b2 b3 : Value} (q : Hid (Box W g 173 #[b0, b1, b2, b3])) (a0 a1 a2 a3 : Value) : Hid (Box ((((W.setCell ⟨g, 0, none⟩ a0).setCell ⟨g, 1, none⟩ a1).setCell ⟨g, 2, none⟩ a2).setCell ⟨g, 3, none⟩ a3) g 173 #[a0, a1, a2, a3]) := hid (by simpa using (((q.out.store 0 a0).store 1 a1).store 2 a2).store 3 a3)
theorem way_cells {W : World} {g : Nat} {b0 b1 b2 b3 : Value} (q : Hid (Box W g 173 #[b0, b1, b2, b3])) : W.cell? ⟨g, 0, none⟩ = some b0 ∧ W.cell? ⟨g, 1, none⟩ = some b1 ∧ W.cell? ⟨g, 2, none⟩ = some b2 ∧ W.cell? ⟨g, 3, none⟩ = some b3 ∧ W.frozen? ⟨g, 0, none⟩ = false ∧ W.frozen? ⟨g, 1, none⟩ = false ∧ W.frozen? ⟨g, 2, none⟩ = false ∧ W.frozen? ⟨g, 3, none⟩ = false :=
  ⟨q.out.cell 0, q.out.cell 1, q.out.cell 2, q.out.cell 3, q.out.frozen 0, q.out.frozen 1, q.out.frozen 2, q.out.frozen 3⟩
attribute [local go_sem ↓] wp_ldR ex_ldR

set_option maxRecDepth 100000 in
set_option maxHeartbeats 4000000 in
theorem enter_some (H : Hid (Wy w0 p S0 w S D h)) (ht : D.t.Ok) (hb : D.has 51 = true) (c : UInt8) {ch fl sg : Int} {m : FuncId} (hx : Hid (firstW D.t c lineW = some ⟨ch, fl, m, sg⟩)) {D' : Ds} (hcf : ∀ args w, (callFunc m args).run Tryz.prog w = .ok (.enter m args) w) (hM : ∀ wx, Hid (Wy w0 p S0 wx S D h) → Calls Tryz.prog m #[.pointer (some ⟨p, 0, none⟩), .int .u8 (c.toNat : Int)] wx fun e w' => e = .returned (.tuple #[]) ∧ DOut w0 p S0 D' w') :
    Calls Tryz.prog 102 #[.pointer (some ⟨p, 0, none⟩), .int .u8 (c.toNat : Int)] w fun e w' => e = .returned (.tuple #[]) ∧ DOut w0 p S0 D' w' := by
  go_enter Tryz.func102, Tryz.ntmps102
  go_wp2_with (first
    | (go_at_call 61
       (with_reducible refine (hasd_b H ht hb).mono ?_)
       rintro e v1 ⟨rfl, k1⟩
       have H1 := Wy.bel H k1.out))
  clear H
  replace H := H1
  clear H1 k1
  generalize v1 = w at H ⊢
  have bz : ∀ W, Below w.heap.size w W → isR W (.pointer (some ⟨p, 0, none⟩)) = true ∧ csR W (.pointer (some ⟨p, 0, none⟩)) = D.t.cs := fun W k => Wy.tm H ht W k
  go_cut [4, 5] (fun a b wx => ∃ g, a = .pointer (some ⟨g, 0, none⟩) ∧ b = .bool true ∧ Hid (Box wx g 173 #[.int .i64 ch, .int .i64 fl, .func (.func m) #[.pointer (some ⟨p, 0, none⟩)] #[], .int .i64 sg]) ∧ Hid (Wy w0 p S0 wx S D h))
  case first =>
    go_region_held3 (fun W => isR W (.pointer (some ⟨p, 0, none⟩)) = true ∧ csR W (.pointer (some ⟨p, 0, none⟩)) = D.t.cs) (exact bz _ (by repeat (first | exact Below.refl _ _ | exact b3 | exact b2 | with_reducible apply bel_dr | with_reducible apply bel_al | with_reducible apply bel_st0 | (with_reducible refine bel_st ?_ b2 _ _)))) ((first
      | (go_at_call 131
         (with_reducible refine (lineWays_b _ p).mono ?_)
         rintro e w2 ⟨g2, cs2, rfl, X2, A2, k2⟩
         have b2 : Below w.heap.size w w2 := bel_via k2 (by repeat (first | exact Below.refl _ _ | with_reducible apply bel_dr | with_reducible apply bel_al))
         try have q2 : Hid (Box w2 w.heap.size 173 #[.int .i64 0, .int .i64 0, .nilFunc, .int .i64 0]) := hid (box_al2 (v := w.drew) k2))
      | (go_at_call 99
         (with_reducible refine (first_some _ D.t ht c g2 p cs2 lineW 8 (hid (box_below X2.out (by repeat (first | exact Below.refl _ _ | with_reducible apply bel_dr | with_reducible apply bel_al)))) A2 (hid rfl) (by omega) hx).mono ?_)
         rintro e w3 ⟨rfl, k3⟩
         have b3 : Below w.heap.size w w3 := bel_via k3 (by repeat (first | exact Below.refl _ _ | exact b2 | with_reducible apply bel_dr | with_reducible apply bel_al))
         try have qa : Hid (Box w3 w.heap.size 173 #[.int .i64 0, .int .i64 0, .nilFunc, .int .i64 0]) := hid (box_below q2.out k3.out)
         try have qb : Hid (Box w3 w2.heap.size 173 #[.int .i64 0, .int .i64 0, .nilFunc, .int .i64 0]) := hid (box_al2 (v := w2) k3)
         try have y0 := (qa.out).cell 0
         try have y1 := (qa.out).cell 1
         try have y2 := (qa.out).cell 2
         try have y3 := (qa.out).cell 3
         try have z0 := (qa.out).frozen 0
         try have z1 := (qa.out).frozen 1
         try have z2 := (qa.out).frozen 2
         try have z3 := (qa.out).frozen 3
         try have y0 := (qb.out).cell 0
         try have y1 := (qb.out).cell 1
         try have y2 := (qb.out).cell 2
         try have y3 := (qb.out).cell 3
         try have z0 := (qb.out).frozen 0
         try have z1 := (qb.out).frozen 1
         try have z2 := (qb.out).frozen 2
         try have z3 := (qb.out).frozen 3)))
    all_goals
      go_wp2_with fail
      go_meet
      first
        | exact ⟨w2.heap.size, rfl, rfl, slb_way qb _ _ _ _, Wy.bel H (bel_st (bel_st (bel_st (bel_st b3 b2 _ _) b2 _ _) b2 _ _) b2 _ _)⟩
        | exact ⟨w.heap.size, rfl, rfl, slb_way qa _ _ _ _, Wy.bel H (bel_st0 (bel_st0 (bel_st0 (bel_st0 b3 _ _) _ _) _ _) _ _)⟩
        | exact ⟨w3.heap.size, rfl, rfl, hid (Box.new w3 _ _), Wy.bel H (b3.alloc b3.size _)⟩
  case rest =>
  obtain ⟨g3, rfl, rfl, X3, H3⟩ := hcut
  have m2 := X3.out.cell 2
  go_wp2_with (first
    | ((with_reducible refine (hM _ H3).mono ?_)
       rintro e w5 ⟨rfl, K5⟩))
  go_end0
  exact ⟨rfl, K5⟩
set_option maxRecDepth 100000 in
set_option maxHeartbeats 4000000 in
theorem enter_none (H : Hid (Wy w0 p S0 w S D h)) (hf : Hid (FitN 3500 D)) (hb : D.has 51 = true) (c : UInt8) (hx : Hid (firstW D.t c lineW = none)) {D' : Ds} (hr : Hid ((if c = 10 then newlineD D c else takeD D c (L9.markB D.t c)) = D')) :
    Calls Tryz.prog 102 #[.pointer (some ⟨p, 0, none⟩), .int .u8 (c.toNat : Int)] w fun e w' => e = .returned (.tuple #[]) ∧ DOut w0 p S0 D' w' := by
  have ht := hf.out.t
  have hf2 : Hid (FitN 3600 D) := hid (hf.out.up (by omega))
  go_enter Tryz.func102, Tryz.ntmps102
  go_wp2_with (first
    | (go_at_call 61
       (with_reducible refine (hasd_b H ht hb).mono ?_)
       rintro e v1 ⟨rfl, k1⟩
       have H1 := Wy.bel H k1.out))
  clear H
  replace H := H1
  clear H1 k1
  generalize v1 = w at H ⊢
  have bz : ∀ W, Below w.heap.size w W → isR W (.pointer (some ⟨p, 0, none⟩)) = true ∧ csR W (.pointer (some ⟨p, 0, none⟩)) = D.t.cs := fun W k => Wy.tm H ht W k
  go_cut [4, 5] (fun a b wx => ∃ g, a = .pointer (some ⟨g, 0, none⟩) ∧ b = .bool false ∧ Hid (Box wx g 173 #[.int .i64 0, .int .i64 0, .nilFunc, .int .i64 0]) ∧ Hid (Wy w0 p S0 wx S D h))
  case first =>
    go_region_held3 (fun W => isR W (.pointer (some ⟨p, 0, none⟩)) = true ∧ csR W (.pointer (some ⟨p, 0, none⟩)) = D.t.cs) (exact bz _ (by repeat (first | exact Below.refl _ _ | exact b3 | exact b2 | with_reducible apply bel_dr | with_reducible apply bel_al | with_reducible apply bel_st0 | (with_reducible refine bel_st ?_ b2 _ _)))) ((first
      | (go_at_call 131
         (with_reducible refine (lineWays_b _ p).mono ?_)
         rintro e w2 ⟨g2, cs2, rfl, X2, A2, k2⟩
         have b2 : Below w.heap.size w w2 := bel_via k2 (by repeat (first | exact Below.refl _ _ | with_reducible apply bel_dr | with_reducible apply bel_al))
         try have q2 : Hid (Box w2 w.heap.size 173 #[.int .i64 0, .int .i64 0, .nilFunc, .int .i64 0]) := hid (box_al2 (v := w.drew) k2))
      | (go_at_call 99
         (with_reducible refine (first_none _ D.t ht c g2 p cs2 lineW 8 (hid (box_below X2.out (by repeat (first | exact Below.refl _ _ | with_reducible apply bel_dr | with_reducible apply bel_al)))) A2 (hid rfl) (by omega) hx).mono ?_)
         rintro e w3 ⟨rfl, k3⟩
         have b3 : Below w.heap.size w w3 := bel_via k3 (by repeat (first | exact Below.refl _ _ | exact b2 | with_reducible apply bel_dr | with_reducible apply bel_al))
         try have qa : Hid (Box w3 w.heap.size 173 #[.int .i64 0, .int .i64 0, .nilFunc, .int .i64 0]) := hid (box_below q2.out k3.out)
         try have qb : Hid (Box w3 w2.heap.size 173 #[.int .i64 0, .int .i64 0, .nilFunc, .int .i64 0]) := hid (box_al2 (v := w2) k3)
         try have y0 := (qa.out).cell 0
         try have y1 := (qa.out).cell 1
         try have y2 := (qa.out).cell 2
         try have y3 := (qa.out).cell 3
         try have z0 := (qa.out).frozen 0
         try have z1 := (qa.out).frozen 1
         try have z2 := (qa.out).frozen 2
         try have z3 := (qa.out).frozen 3
         try have y0 := (qb.out).cell 0
         try have y1 := (qb.out).cell 1
         try have y2 := (qb.out).cell 2
         try have y3 := (qb.out).cell 3
         try have z0 := (qb.out).frozen 0
         try have z1 := (qb.out).frozen 1
         try have z2 := (qb.out).frozen 2
         try have z3 := (qb.out).frozen 3)))
    all_goals
      go_wp2_with fail
      go_meet
      first
        | exact ⟨w2.heap.size, rfl, rfl, slb_way qb _ _ _ _, Wy.bel H (bel_st (bel_st (bel_st (bel_st b3 b2 _ _) b2 _ _) b2 _ _) b2 _ _)⟩
        | exact ⟨w.heap.size, rfl, rfl, slb_way qa _ _ _ _, Wy.bel H (bel_st0 (bel_st0 (bel_st0 (bel_st0 b3 _ _) _ _) _ _) _ _)⟩
        | exact ⟨w3.heap.size, rfl, rfl, hid (Box.new w3 _ _), Wy.bel H (b3.alloc b3.size _)⟩
  case rest =>
  obtain ⟨g3, rfl, rfl, X3, H3⟩ := hcut
  by_cases hc : c = 10
  · have hc1 : ((c.toNat : Int) == 10) = true := by rw [hc]; rfl
    have hr2 : Hid (newlineD D c = D') := hid (by rw [← hr.out, if_pos hc])
    clear hc
    go_wp2_with (first
      | (go_at_call 132
         (with_reducible refine (endByByte_d H3 hf c hr2).mono ?_)
         rintro e w5 ⟨rfl, K5⟩))
    go_end0
    exact ⟨rfl, K5⟩
  · have hc1 : ((c.toNat : Int) == 10) = false := u8_ne hc
    have hr2 : Hid (takeD D c (L9.markB D.t c) = D') := hid (by rw [← hr.out, if_neg hc])
    clear hc
    go_wp2_with (first
      | (go_at_call 130
         (with_reducible refine (takeMarked_d H3 hf2 c hr2).mono ?_)
         rintro e w5 ⟨rfl, K5⟩))
    go_end0
    exact ⟨rfl, K5⟩

theorem enter_d (H : Hid (Wy w0 p S0 w S D h)) (hf : Hid (FitN 3500 D)) (hb : D.has 51 = true) (c : UInt8) {D' : Ds} (hr : Hid (typedD D c = D')) :
    Calls Tryz.prog 102 #[.pointer (some ⟨p, 0, none⟩), .int .u8 (c.toNat : Int)] w fun e w' => e = .returned (.tuple #[]) ∧ DOut w0 p S0 D' w' := by
  have ht := hf.out.t
  have hf2 : Hid (FitN 3600 D) := hid (hf.out.up (by omega))
  have h51 : hasN D.t.f 51 = true := hb
  cases a14 : (D.has 59 && D.is 14 c)
  · have a14' : (hasN D.t.f 59 && L15.isC D.t 14 c) = false := a14
    cases a3 : (D.is 3 c)
    · have a3' : (L15.isC D.t 3 c) = false := a3
      cases a13 : (D.has 59 && D.is 13 c)
      · have a13' : (hasN D.t.f 59 && L15.isC D.t 13 c) = false := a13
        cases a4 : (D.is 4 c)
        · have a4' : (L15.isC D.t 4 c) = false := a4
          cases a12 : (D.has 59 && D.is 12 c)
          · have a12' : (hasN D.t.f 59 && L15.isC D.t 12 c) = false := a12
            cases a5 : (D.is 5 c)
            · have a5' : (L15.isC D.t 5 c) = false := a5
              cases a6 : (D.is 6 c)
              · have a6' : (L15.isC D.t 6 c) = false := a6
                cases a7 : (D.has 59 && D.is 7 c)
                · have a7' : (hasN D.t.f 59 && L15.isC D.t 7 c) = false := a7
                  refine enter_none H hf hb c (hid (by simp [firstW, lineW, Wa.fits, h51, a14', a3', a13', a4', a12', a5', a6', a7'])) (hid ?_)
                  rw [← hr.out]
                  unfold typedD
                  by_cases hc : c = 10
                  · subst hc
                    simp [a14, a3, a13, a4, a12, a5, a6, a7]
                  · simp [a14, a3, a13, a4, a12, a5, a6, a7, hc]
                · have a7' : (hasN D.t.f 59 && L15.isC D.t 7 c) = true := a7
                  refine enter_some (ch := 7) (fl := 59) (sg := 0) (m := 132) H ht hb c (hid (by simp [firstW, lineW, Wa.fits, h51, a7', a14', a3', a13', a4', a12', a5', a6'])) Tryz.call132 (fun wx HX => endByByte_d HX hf c (hid ?_))
                  rw [← hr.out]
                  unfold typedD
                  simp [a7, a14, a3, a13, a4, a12, a5, a6]
              · have a6' : (L15.isC D.t 6 c) = true := a6
                refine enter_some (ch := 6) (fl := 51) (sg := 0) (m := 132) H ht hb c (hid (by simp [firstW, lineW, Wa.fits, h51, a6', a14', a3', a13', a4', a12', a5'])) Tryz.call132 (fun wx HX => endByByte_d HX hf c (hid ?_))
                rw [← hr.out]
                unfold typedD
                simp [a6, a14, a3, a13, a4, a12, a5]
            · have a5' : (L15.isC D.t 5 c) = true := a5
              refine enter_some (ch := 5) (fl := 51) (sg := 0) (m := 165) H ht hb c (hid (by simp [firstW, lineW, Wa.fits, h51, a5', a14', a3', a13', a4', a12'])) Tryz.call165 (fun wx HX => endByEof_d HX hf c (hid ?_))
              rw [← hr.out]
              unfold typedD
              simp [a5, a14, a3, a13, a4, a12]
          · have a12' : (hasN D.t.f 59 && L15.isC D.t 12 c) = true := a12
            refine enter_some (ch := 12) (fl := 59) (sg := 0) (m := 164) H ht hb c (hid (by simp [firstW, lineW, Wa.fits, h51, a12', a14', a3', a13', a4'])) Tryz.call164 (fun wx HX => reprint_d HX hf2 c (hid ?_))
            rw [← hr.out]
            unfold typedD
            simp [a12, a14, a3, a13, a4]
        · have a4' : (L15.isC D.t 4 c) = true := a4
          refine enter_some (ch := 4) (fl := 51) (sg := 0) (m := 163) H ht hb c (hid (by simp [firstW, lineW, Wa.fits, h51, a4', a14', a3', a13'])) Tryz.call163 (fun wx HX => kill_d HX hf2 c (hid ?_))
          rw [← hr.out]
          unfold typedD
          simp [a4, a14, a3, a13]
      · have a13' : (hasN D.t.f 59 && L15.isC D.t 13 c) = true := a13
        refine enter_some (ch := 13) (fl := 59) (sg := 0) (m := 162) H ht hb c (hid (by simp [firstW, lineW, Wa.fits, h51, a13', a14', a3'])) Tryz.call162 (fun wx HX => eraseWord_d HX hf2 c (hid ?_))
        rw [← hr.out]
        unfold typedD
        simp [a13, a14, a3]
    · have a3' : (L15.isC D.t 3 c) = true := a3
      refine enter_some (ch := 3) (fl := 51) (sg := 0) (m := 161) H ht hb c (hid (by simp [firstW, lineW, Wa.fits, h51, a3', a14'])) Tryz.call161 (fun wx HX => erase_d HX hf2 c (hid ?_))
      rw [← hr.out]
      unfold typedD
      simp [a3, a14]
  · have a14' : (hasN D.t.f 59 && L15.isC D.t 14 c) = true := a14
    refine enter_some (ch := 14) (fl := 59) (sg := 0) (m := 160) H ht hb c (hid (by simp [firstW, lineW, Wa.fits, a14'])) Tryz.call160 (fun wx HX => quote_d HX hf2 c (hid ?_))
    rw [← hr.out]
    unfold typedD
    unfold quoteD; simp [a14]

set_option maxRecDepth 100000 in
theorem enter_raw (H : Hid (Wy w0 p S0 w S D h)) (hf : Hid (FitN 3600 D)) (hb : D.has 51 = false) (c : UInt8) {D' : Ds} (hr : Hid (takeD D c (L9.markB D.t c) = D')) :
    Calls Tryz.prog 102 #[.pointer (some ⟨p, 0, none⟩), .int .u8 (c.toNat : Int)] w fun e w' => e = .returned (.tuple #[]) ∧ DOut w0 p S0 D' w' := by
  have ht := hf.out.t
  go_enter Tryz.func102, Tryz.ntmps102
  go_wp2_with (first
    | (go_at_call 61
       (with_reducible refine (hasd_b H ht hb).mono ?_)
       rintro e v1 ⟨rfl, k1⟩
       have H1 := Wy.bel H k1.out)
    | (go_at_call 130
       (with_reducible refine (takeMarked_d H1 hf c hr).mono ?_)
       rintro e w5 ⟨rfl, K5⟩))
  refine bodyPost_ret (results_none rfl _ _ _) rfl ?_
  exact ⟨rfl, K5⟩

end
end Go.Proofs.YtggcampdkgfmgaaGreat
