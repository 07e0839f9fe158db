import Derived.Test.YtggcampdkgfmgaaGreatJR
import Derived.Test.YtggcampdkgfmgaaGreatJL
namespace Go.Proofs.YtggcampdkgfmgaaGreat
open Go.RowKit

/-! Layer 16: a byte that is typed, stripped already. -/
/-- What a byte has made of it: the signals, in memory that isn't the discipline's. -/
def RetIy (w0 : World) (p : Nat) (S0 : Nat → Prop) (r : Ds × List Int) (e : Ending) (w' : World) : Prop := ∃ A n c S' h', e = .returned (.slice A n c) ∧ Hid (r.2.length = n) ∧ Hid (SlI w' w'.heap.size A c r.2) ∧ Hid (Wy w0 p S0 w' S' r.1 h') ∧ Hid (r.2 ≠ [] → ∀ a, A = some a → ¬ S' a.block)
section
variable {w0 w : World} {p : Nat} {S0 S : Nat → Prop} {D E : Ds} {h : Ph}
theorem nots (H : Hid (Wy w0 p S0 w S D h)) {g : Nat} (hg : w.heap.size ≤ g) : Hid (¬ S g) := hid fun hs => absurd (H.out.at_.top _ hs) (by omega)
theorem Wy.self (H : Hid (Wy w0 p S0 w S D h)) : Hid (Wy w p S w S D h) := hid ⟨H.out.at_, fun _x hx => .inl hx, ButP.refl S w⟩
theorem dout_box {w' : World} {D' : Ds} (K : DOut w p S D' w') {g : Nat} {T : TypeId} {cs : Array Value} (X : Hid (Box w g T cs)) (hg : Hid (¬ S g)) : Hid (Box w' g T cs) := by
  obtain ⟨_, _, _, k⟩ := K
  exact hid (k.out.box X.out hg.out)
theorem sli_nil (w : World) : Hid (SlI w w.heap.size none 0 []) := hid ⟨Nat.le_refl _, Nat.zero_le _, fun _ => rfl, fun hn => absurd rfl hn⟩
theorem reti_nil (H : Hid (Wy w0 p S0 w S D h)) : RetIy w0 p S0 (D, []) (.returned (.slice none 0 0)) w := ⟨none, 0, 0, S, h, rfl, hid rfl, sli_nil w, H, hid (fun hn => absurd rfl hn)⟩
theorem reti_one (H : Hid (Wy w0 p S0 w S D h)) (sg : Int) : RetIy w0 p S0 (D, [sg]) (.returned (.slice (some ⟨w.heap.size, 0, none⟩) 1 1)) (w.alloc (.cells #[.int .i64 sg] 3)) := by
  refine ⟨_, 1, 1, S, h, rfl, hid rfl, hid ⟨Nat.le_refl _, by unfold maxLen; omega, (fun e => by cases e), fun _ => ⟨w.heap.size, 0, rfl, by simp, fun j u hu => ?_⟩⟩, Wy.bel H ((Below.refl _ _).alloc (Nat.le_refl _) _), hid (fun _ a ha => ?_)⟩
  · rw [Nat.zero_add, (Box.new w 3 #[.int .i64 sg]).cell j]
    simpa using hu
  · injection ha with ha
    subst ha
    intro hs
    exact absurd (H.out.at_.top _ hs) (Nat.lt_irrefl _)
attribute [local go_sem ↓] wp_ldR ex_ldR

set_option maxRecDepth 100000 in
set_option maxHeartbeats 2000000 in
theorem typed_nx (H : Hid (Wy w0 p S0 w S D h)) (hf : Hid (FitN 3500 D)) (hnx : D.nx = true) (c : UInt8) {D' : Ds} (hr : Hid (takeD { D with nx := false } c [c] = D')) :
    Calls Tryz.prog 58 #[.pointer (some ⟨p, 0, none⟩), .int .u8 (c.toNat : Int)] w (RetIy w0 p S0 (D', [])) := by
  have ht := hf.out.t
  have N1 : Hid (([c] : List UInt8).length = 1) := hid rfl
  have hf2 : Hid (FitN 3600 { D with nx := false }) := hid ((hf.out.nx_ false).up (by omega))
  have z25 := Wy.fz H 25
  have c25 := Wy.cellW H ht 1 rfl w (Below.refl _ _)
  rw [hnx] at c25
  have H1 := Wy.nx_ H ht false
  have kx : Below (w.setCell ⟨p, 25, none⟩ (.bool false)).heap.size (w.setCell ⟨p, 25, none⟩ (.bool false)) ((w.setCell ⟨p, 25, none⟩ (.bool false)).alloc (.cells #[.int .u8 (c.toNat : Int)] 5)) := (Below.refl _ _).alloc (Nat.le_refl _) _
  have H2 := Wy.bel H1 kx
  have S2 : Hid (SlB ((w.setCell ⟨p, 25, none⟩ (.bool false)).alloc (.cells #[.int .u8 (c.toNat : Int)] 5)) ((w.setCell ⟨p, 25, none⟩ (.bool false)).alloc (.cells #[.int .u8 (c.toNat : Int)] 5)).heap.size (some ⟨w.heap.size, 0, none⟩) 1 [c]) := by
    have := slb_lit (w.setCell ⟨p, 25, none⟩ (.bool false)) [c] 1 #[.int .u8 (c.toNat : Int)] rfl rfl (by decide)
    have e : (w.setCell ⟨p, 25, none⟩ (.bool false)).heap.size = w.heap.size := by simp [World.setCell]
    rw [e] at this
    exact hid this
  clear kx
  go_enter Tryz.func58, Tryz.ntmps58
  go_wp2_with (first
    | (go_at_call 97
       (with_reducible refine (take_d H2 hf2 c N1 (by omega) S2 hr).mono ?_)
       rintro e w3 ⟨rfl, K3⟩
       obtain ⟨S3, h3, H3⟩ := Wy.from K3))
  go_ret
  exact reti_nil H3

set_option maxRecDepth 100000 in
set_option maxHeartbeats 4000000 in
theorem typed_used (H : Hid (Wy w0 p S0 w S D h)) (hf : Hid (FitN 3500 D)) (hnx : D.nx = false) (c : UInt8) {ma mb : Bool} (hty : Hid (L15.typedF D.t D.s D.h c = ((ma, mb), true))) (hE : { D with s := ma, h := mb } = E) :
    Calls Tryz.prog 58 #[.pointer (some ⟨p, 0, none⟩), .int .u8 (c.toNat : Int)] w (RetIy w0 p S0 (E, [])) := by
  have ht0 := hf.out.t
  have c25 := Wy.cellW H ht0 1 rfl w (Below.refl _ _)
  rw [hnx] at c25
  have bz : ∀ W, Below w.heap.size w W → isR W (.pointer (some ⟨p, 0, none⟩)) = true ∧ csR W (.pointer (some ⟨p, 0, none⟩)) = D.t.cs ∧ W.cell? ⟨p, 28, none⟩ = some (.bool D.s) ∧ W.cell? ⟨p, 29, none⟩ = some (.bool D.h) := fun W k => ⟨(Wy.tm H ht0 W k).1, (Wy.tm H ht0 W k).2, Wy.cellW H ht0 4 rfl W k, Wy.cellW H ht0 5 rfl W k⟩
  go_enter Tryz.func58, Tryz.ntmps58
  go_upto_region 5 with fail
  clear c25
  go_cut [5, 6] (fun a b wx => ∃ g, a = .pointer (some ⟨g, 0, none⟩) ∧ b = .bool true ∧ Hid (Box wx g 43 #[.bool ma, .bool mb]) ∧ Hid (Wy w0 p S0 wx S D h))
  case first =>
    go_region_held3 (fun W => isR W (.pointer (some ⟨p, 0, none⟩)) = true ∧ csR W (.pointer (some ⟨p, 0, none⟩)) = D.t.cs ∧ W.cell? ⟨p, 28, none⟩ = some (.bool D.s) ∧ W.cell? ⟨p, 29, none⟩ = some (.bool D.h)) (exact bz _ (by repeat (first | exact Below.refl _ _ | exact b3 | with_reducible apply bel_dr | with_reducible apply bel_al | with_reducible apply bel_st0))) ((first
      | (go_at_call 98
         (with_reducible refine (L15.typedp_any _ D.t ht0 D.s D.h c hty).mono ?_)
         rintro e w3 ⟨rfl, k3⟩
         have b3 : Below w.heap.size w w3 := bel_via k3 (by repeat (first | exact Below.refl _ _ | with_reducible apply bel_dr | with_reducible apply bel_al))
         try have qa : Hid (Box w3 w.heap.size 43 #[.bool false, .bool false]) := hid (box_al2 (v := w.drew) k3)
         try have y0 := (qa.out).cell 0
         try have y1 := (qa.out).cell 1
         try have z0 := (qa.out).frozen 0
         try have z1 := (qa.out).frozen 1)))
    all_goals
      go_wp2_with fail
      go_meet
      first
        | exact ⟨w.heap.size, rfl, rfl, hid (by simpa using (qa.out.store 0 (.bool ma)).store 1 (.bool mb)), Wy.bel H (bel_st0 (bel_st0 b3 _ _) _ _)⟩
        | exact ⟨w3.heap.size, rfl, rfl, hid (Box.new w3 _ _), Wy.bel H (b3.alloc b3.size _)⟩
  case rest =>
  obtain ⟨g5, rfl, rfl, X5, H5⟩ := hcut
  have m0 : World.cell? wc ⟨g5, 0, none⟩ = some (.bool ma) := by simpa using X5.out.cell 0
  have m1 : World.cell? wc ⟨g5, 1, none⟩ = some (.bool mb) := by simpa using X5.out.cell 1
  have z28 := Wy.fz H5 28
  have z29 := Wy.fz H5 29
  have c28 := Wy.cellW H5 ht0 4 rfl wc (Below.refl _ _)
  have c29 := Wy.cellW H5 ht0 5 rfl wc (Below.refl _ _)
  have H6 := Wy.flow_ H5 ht0 ma mb
  rw [hE] at H6
  clear H bz H5 X5
  go_wp2_with fail
  go_ret
  exact reti_nil H6
set_option maxRecDepth 100000 in
set_option maxHeartbeats 4000000 in
theorem typed_some (H : Hid (Wy w0 p S0 w S D h)) (hf : Hid (FitN 3500 D)) (hnx : D.nx = false) (c : UInt8) {ma mb : Bool} (hty : Hid (L15.typedF D.t D.s D.h c = ((ma, mb), false))) (hE : { D with s := ma, h := mb } = E) {ch fl sg : Int} {m : FuncId} (hx : Hid (firstW E.t c sigW = some ⟨ch, fl, m, sg⟩)) {D' : Ds} (hcf : ∀ args w, (callFunc m args).run Tryz.prog w = .ok (.enter m args) w) (hM : ∀ w1 S1 wx S h, Hid (Wy w1 p S1 wx S E h) → Calls Tryz.prog m #[.pointer (some ⟨p, 0, none⟩), .int .u8 (c.toNat : Int)] wx fun e w' => e = .returned (.tuple #[]) ∧ DOut w1 p S1 D' w') :
    Calls Tryz.prog 58 #[.pointer (some ⟨p, 0, none⟩), .int .u8 (c.toNat : Int)] w (RetIy w0 p S0 (D', [sg])) := by
  have ht0 := hf.out.t
  have ht : E.t.Ok := by rw [← hE]; exact ht0
  have c25 := Wy.cellW H ht0 1 rfl w (Below.refl _ _)
  rw [hnx] at c25
  have bz : ∀ W, Below w.heap.size w W → isR W (.pointer (some ⟨p, 0, none⟩)) = true ∧ csR W (.pointer (some ⟨p, 0, none⟩)) = D.t.cs ∧ W.cell? ⟨p, 28, none⟩ = some (.bool D.s) ∧ W.cell? ⟨p, 29, none⟩ = some (.bool D.h) := fun W k => ⟨(Wy.tm H ht0 W k).1, (Wy.tm H ht0 W k).2, Wy.cellW H ht0 4 rfl W k, Wy.cellW H ht0 5 rfl W k⟩
  go_enter Tryz.func58, Tryz.ntmps58
  go_upto_region 5 with fail
  clear c25
  go_cut [5, 6] (fun a b wx => ∃ g, a = .pointer (some ⟨g, 0, none⟩) ∧ b = .bool false ∧ Hid (Box wx g 43 #[.bool ma, .bool mb]) ∧ Hid (Wy w0 p S0 wx S D h))
  case first =>
    go_region_held3 (fun W => isR W (.pointer (some ⟨p, 0, none⟩)) = true ∧ csR W (.pointer (some ⟨p, 0, none⟩)) = D.t.cs ∧ W.cell? ⟨p, 28, none⟩ = some (.bool D.s) ∧ W.cell? ⟨p, 29, none⟩ = some (.bool D.h)) (exact bz _ (by repeat (first | exact Below.refl _ _ | exact b3 | with_reducible apply bel_dr | with_reducible apply bel_al | with_reducible apply bel_st0))) ((first
      | (go_at_call 98
         (with_reducible refine (L15.typedp_any _ D.t ht0 D.s D.h c hty).mono ?_)
         rintro e w3 ⟨rfl, k3⟩
         have b3 : Below w.heap.size w w3 := bel_via k3 (by repeat (first | exact Below.refl _ _ | with_reducible apply bel_dr | with_reducible apply bel_al))
         try have qa : Hid (Box w3 w.heap.size 43 #[.bool false, .bool false]) := hid (box_al2 (v := w.drew) k3)
         try have y0 := (qa.out).cell 0
         try have y1 := (qa.out).cell 1
         try have z0 := (qa.out).frozen 0
         try have z1 := (qa.out).frozen 1)))
    all_goals
      go_wp2_with fail
      go_meet
      first
        | exact ⟨w.heap.size, rfl, rfl, hid (by simpa using (qa.out.store 0 (.bool ma)).store 1 (.bool mb)), Wy.bel H (bel_st0 (bel_st0 b3 _ _) _ _)⟩
        | exact ⟨w3.heap.size, rfl, rfl, hid (Box.new w3 _ _), Wy.bel H (b3.alloc b3.size _)⟩
  case rest =>
  obtain ⟨g5, rfl, rfl, X5, H5⟩ := hcut
  have m0 : World.cell? wc ⟨g5, 0, none⟩ = some (.bool ma) := by simpa using X5.out.cell 0
  have m1 : World.cell? wc ⟨g5, 1, none⟩ = some (.bool mb) := by simpa using X5.out.cell 1
  have z28 := Wy.fz H5 28
  have z29 := Wy.fz H5 29
  have c28 := Wy.cellW H5 ht0 4 rfl wc (Below.refl _ _)
  have c29 := Wy.cellW H5 ht0 5 rfl wc (Below.refl _ _)
  have H6 := Wy.flow_ H5 ht0 ma mb
  rw [hE] at H6
  clear H bz H5 X5
  go_upto_region 9 with fail
  have H := H6
  clear H6 m0 m1 z28 z29 c28 c29
  generalize World.setCell _ _ _ = w at H ⊢
  have bz : ∀ W, Below w.heap.size w W → isR W (.pointer (some ⟨p, 0, none⟩)) = true ∧ csR W (.pointer (some ⟨p, 0, none⟩)) = E.t.cs := fun W k => Wy.tm H ht W k
  go_cut [7, 8] (fun a b wx => ∃ g, a = .pointer (some ⟨g, 0, none⟩) ∧ b = .bool true ∧ Hid (Box wx g 173 #[.int .i64 ch, .int .i64 fl, .func (.func m) #[.pointer (some ⟨p, 0, none⟩)] #[], .int .i64 sg]) ∧ Hid (Wy w0 p S0 wx S E h) ∧ Hid (¬ S g))
  case first =>
    go_region_held3 (fun W => isR W (.pointer (some ⟨p, 0, none⟩)) = true ∧ csR W (.pointer (some ⟨p, 0, none⟩)) = E.t.cs) (exact bz _ (by repeat (first | exact Below.refl _ _ | exact b3 | exact b2 | with_reducible apply bel_dr | with_reducible apply bel_al | with_reducible apply bel_st0 | (with_reducible refine bel_st ?_ b2 _ _)))) ((first
      | (go_at_call 100
         (with_reducible refine (signalWays_b _ p).mono ?_)
         rintro e w2 ⟨g2, cs2, rfl, X2, A2, k2⟩
         have b2 : Below w.heap.size w w2 := bel_via k2 (by repeat (first | exact Below.refl _ _ | with_reducible apply bel_dr | with_reducible apply bel_al))
         try have q2 : Hid (Box w2 w.heap.size 173 #[.int .i64 0, .int .i64 0, .nilFunc, .int .i64 0]) := hid (box_al2 (v := w.drew) k2))
      | (go_at_call 99
         (with_reducible refine (first_some _ E.t ht c g2 p cs2 sigW 3 (hid (box_below X2.out (by repeat (first | exact Below.refl _ _ | with_reducible apply bel_dr | with_reducible apply bel_al)))) A2 (hid rfl) (by omega) hx).mono ?_)
         rintro e w3 ⟨rfl, k3⟩
         have b3 : Below w.heap.size w w3 := bel_via k3 (by repeat (first | exact Below.refl _ _ | exact b2 | with_reducible apply bel_dr | with_reducible apply bel_al))
         try have qa : Hid (Box w3 w.heap.size 173 #[.int .i64 0, .int .i64 0, .nilFunc, .int .i64 0]) := hid (box_below q2.out k3.out)
         try have qb : Hid (Box w3 w2.heap.size 173 #[.int .i64 0, .int .i64 0, .nilFunc, .int .i64 0]) := hid (box_al2 (v := w2) k3)
         try have y0 := (qa.out).cell 0
         try have y1 := (qa.out).cell 1
         try have y2 := (qa.out).cell 2
         try have y3 := (qa.out).cell 3
         try have z0 := (qa.out).frozen 0
         try have z1 := (qa.out).frozen 1
         try have z2 := (qa.out).frozen 2
         try have z3 := (qa.out).frozen 3
         try have y0 := (qb.out).cell 0
         try have y1 := (qb.out).cell 1
         try have y2 := (qb.out).cell 2
         try have y3 := (qb.out).cell 3
         try have z0 := (qb.out).frozen 0
         try have z1 := (qb.out).frozen 1
         try have z2 := (qb.out).frozen 2
         try have z3 := (qb.out).frozen 3)))
    all_goals
      go_wp2_with fail
      go_meet
      first
        | exact ⟨w2.heap.size, rfl, rfl, slb_way qb _ _ _ _, Wy.bel H (bel_st (bel_st (bel_st (bel_st b3 b2 _ _) b2 _ _) b2 _ _) b2 _ _), nots H b2.size⟩
        | exact ⟨w.heap.size, rfl, rfl, slb_way qa _ _ _ _, Wy.bel H (bel_st0 (bel_st0 (bel_st0 (bel_st0 b3 _ _) _ _) _ _) _ _), nots H (Nat.le_refl _)⟩
        | exact ⟨w3.heap.size, rfl, rfl, hid (Box.new w3 _ _), Wy.bel H (b3.alloc b3.size _), nots H b3.size⟩
  case rest =>
  obtain ⟨g3, rfl, rfl, X3, H3, nG⟩ := hcut
  have m2 := X3.out.cell 2
  have H3r := Wy.self H3
  go_wp2_with (first
    | ((with_reducible refine (hM _ _ _ _ _ H3r).mono ?_)
       rintro e w5 ⟨rfl, K5⟩
       obtain ⟨S5, h5, H5⟩ := Wy.next H3 K5
       have m3 := (dout_box K5 X3 nG).out.cell 3))
  go_ret
  exact reti_one H5 sg

set_option maxRecDepth 100000 in
set_option maxHeartbeats 4000000 in
theorem typed_out (H : Hid (Wy w0 p S0 w S D h)) (hf : Hid (FitN 3500 D)) (hnx : D.nx = false) (c d : UInt8) {ma mb : Bool} (hty : Hid (L15.typedF D.t D.s D.h c = ((ma, mb), false))) (hE : { D with s := ma, h := mb } = E) (hx : Hid (firstW E.t c sigW = none)) (htu : L9.turnB E.t c = (d, false))  :
    Calls Tryz.prog 58 #[.pointer (some ⟨p, 0, none⟩), .int .u8 (c.toNat : Int)] w (RetIy w0 p S0 (E, [])) := by
  have ht0 := hf.out.t
  have ht : E.t.Ok := by rw [← hE]; exact ht0
  have c25 := Wy.cellW H ht0 1 rfl w (Below.refl _ _)
  rw [hnx] at c25
  have bz : ∀ W, Below w.heap.size w W → isR W (.pointer (some ⟨p, 0, none⟩)) = true ∧ csR W (.pointer (some ⟨p, 0, none⟩)) = D.t.cs ∧ W.cell? ⟨p, 28, none⟩ = some (.bool D.s) ∧ W.cell? ⟨p, 29, none⟩ = some (.bool D.h) := fun W k => ⟨(Wy.tm H ht0 W k).1, (Wy.tm H ht0 W k).2, Wy.cellW H ht0 4 rfl W k, Wy.cellW H ht0 5 rfl W k⟩
  go_enter Tryz.func58, Tryz.ntmps58
  go_upto_region 5 with fail
  clear c25
  go_cut [5, 6] (fun a b wx => ∃ g, a = .pointer (some ⟨g, 0, none⟩) ∧ b = .bool false ∧ Hid (Box wx g 43 #[.bool ma, .bool mb]) ∧ Hid (Wy w0 p S0 wx S D h))
  case first =>
    go_region_held3 (fun W => isR W (.pointer (some ⟨p, 0, none⟩)) = true ∧ csR W (.pointer (some ⟨p, 0, none⟩)) = D.t.cs ∧ W.cell? ⟨p, 28, none⟩ = some (.bool D.s) ∧ W.cell? ⟨p, 29, none⟩ = some (.bool D.h)) (exact bz _ (by repeat (first | exact Below.refl _ _ | exact b3 | with_reducible apply bel_dr | with_reducible apply bel_al | with_reducible apply bel_st0))) ((first
      | (go_at_call 98
         (with_reducible refine (L15.typedp_any _ D.t ht0 D.s D.h c hty).mono ?_)
         rintro e w3 ⟨rfl, k3⟩
         have b3 : Below w.heap.size w w3 := bel_via k3 (by repeat (first | exact Below.refl _ _ | with_reducible apply bel_dr | with_reducible apply bel_al))
         try have qa : Hid (Box w3 w.heap.size 43 #[.bool false, .bool false]) := hid (box_al2 (v := w.drew) k3)
         try have y0 := (qa.out).cell 0
         try have y1 := (qa.out).cell 1
         try have z0 := (qa.out).frozen 0
         try have z1 := (qa.out).frozen 1)))
    all_goals
      go_wp2_with fail
      go_meet
      first
        | exact ⟨w.heap.size, rfl, rfl, hid (by simpa using (qa.out.store 0 (.bool ma)).store 1 (.bool mb)), Wy.bel H (bel_st0 (bel_st0 b3 _ _) _ _)⟩
        | exact ⟨w3.heap.size, rfl, rfl, hid (Box.new w3 _ _), Wy.bel H (b3.alloc b3.size _)⟩
  case rest =>
  obtain ⟨g5, rfl, rfl, X5, H5⟩ := hcut
  have m0 : World.cell? wc ⟨g5, 0, none⟩ = some (.bool ma) := by simpa using X5.out.cell 0
  have m1 : World.cell? wc ⟨g5, 1, none⟩ = some (.bool mb) := by simpa using X5.out.cell 1
  have z28 := Wy.fz H5 28
  have z29 := Wy.fz H5 29
  have c28 := Wy.cellW H5 ht0 4 rfl wc (Below.refl _ _)
  have c29 := Wy.cellW H5 ht0 5 rfl wc (Below.refl _ _)
  have H6 := Wy.flow_ H5 ht0 ma mb
  rw [hE] at H6
  clear H bz H5 X5
  go_upto_region 9 with fail
  have H := H6
  clear H6 m0 m1 z28 z29 c28 c29
  generalize World.setCell _ _ _ = w at H ⊢
  have bz : ∀ W, Below w.heap.size w W → isR W (.pointer (some ⟨p, 0, none⟩)) = true ∧ csR W (.pointer (some ⟨p, 0, none⟩)) = E.t.cs := fun W k => Wy.tm H ht W k
  go_cut [7, 8] (fun a b wx => ∃ g, a = .pointer (some ⟨g, 0, none⟩) ∧ b = .bool false ∧ Hid (Box wx g 173 #[.int .i64 0, .int .i64 0, .nilFunc, .int .i64 0]) ∧ Hid (Wy w0 p S0 wx S E h) ∧ Hid (¬ S g))
  case first =>
    go_region_held3 (fun W => isR W (.pointer (some ⟨p, 0, none⟩)) = true ∧ csR W (.pointer (some ⟨p, 0, none⟩)) = E.t.cs) (exact bz _ (by repeat (first | exact Below.refl _ _ | exact b3 | exact b2 | with_reducible apply bel_dr | with_reducible apply bel_al | with_reducible apply bel_st0 | (with_reducible refine bel_st ?_ b2 _ _)))) ((first
      | (go_at_call 100
         (with_reducible refine (signalWays_b _ p).mono ?_)
         rintro e w2 ⟨g2, cs2, rfl, X2, A2, k2⟩
         have b2 : Below w.heap.size w w2 := bel_via k2 (by repeat (first | exact Below.refl _ _ | with_reducible apply bel_dr | with_reducible apply bel_al))
         try have q2 : Hid (Box w2 w.heap.size 173 #[.int .i64 0, .int .i64 0, .nilFunc, .int .i64 0]) := hid (box_al2 (v := w.drew) k2))
      | (go_at_call 99
         (with_reducible refine (first_none _ E.t ht c g2 p cs2 sigW 3 (hid (box_below X2.out (by repeat (first | exact Below.refl _ _ | with_reducible apply bel_dr | with_reducible apply bel_al)))) A2 (hid rfl) (by omega) hx).mono ?_)
         rintro e w3 ⟨rfl, k3⟩
         have b3 : Below w.heap.size w w3 := bel_via k3 (by repeat (first | exact Below.refl _ _ | exact b2 | with_reducible apply bel_dr | with_reducible apply bel_al))
         try have qa : Hid (Box w3 w.heap.size 173 #[.int .i64 0, .int .i64 0, .nilFunc, .int .i64 0]) := hid (box_below q2.out k3.out)
         try have qb : Hid (Box w3 w2.heap.size 173 #[.int .i64 0, .int .i64 0, .nilFunc, .int .i64 0]) := hid (box_al2 (v := w2) k3)
         try have y0 := (qa.out).cell 0
         try have y1 := (qa.out).cell 1
         try have y2 := (qa.out).cell 2
         try have y3 := (qa.out).cell 3
         try have z0 := (qa.out).frozen 0
         try have z1 := (qa.out).frozen 1
         try have z2 := (qa.out).frozen 2
         try have z3 := (qa.out).frozen 3
         try have y0 := (qb.out).cell 0
         try have y1 := (qb.out).cell 1
         try have y2 := (qb.out).cell 2
         try have y3 := (qb.out).cell 3
         try have z0 := (qb.out).frozen 0
         try have z1 := (qb.out).frozen 1
         try have z2 := (qb.out).frozen 2
         try have z3 := (qb.out).frozen 3)))
    all_goals
      go_wp2_with fail
      go_meet
      first
        | exact ⟨w2.heap.size, rfl, rfl, slb_way qb _ _ _ _, Wy.bel H (bel_st (bel_st (bel_st (bel_st b3 b2 _ _) b2 _ _) b2 _ _) b2 _ _), nots H b2.size⟩
        | exact ⟨w.heap.size, rfl, rfl, slb_way qa _ _ _ _, Wy.bel H (bel_st0 (bel_st0 (bel_st0 (bel_st0 b3 _ _) _ _) _ _) _ _), nots H (Nat.le_refl _)⟩
        | exact ⟨w3.heap.size, rfl, rfl, hid (Box.new w3 _ _), Wy.bel H (b3.alloc b3.size _), nots H b3.size⟩
  case rest =>
  obtain ⟨g3, rfl, rfl, X3, H3, nG⟩ := hcut
  go_wp2_with (first
    | (refine ldW (by rfl) _ (by rfl) p (by rfl) H3 ht ?_)
    | (go_at_call 101
       (with_reducible refine (L9.turn_b _ ht htu).mono ?_)
       rintro e w5 ⟨rfl, k5⟩
       have H5 := Wy.bel H3 k5.out))
  go_ret
  exact reti_nil H5

set_option maxRecDepth 100000 in
set_option maxHeartbeats 4000000 in
theorem typed_in (H : Hid (Wy w0 p S0 w S D h)) (hf : Hid (FitN 3500 D)) (hnx : D.nx = false) (c d : UInt8) {ma mb : Bool} (hty : Hid (L15.typedF D.t D.s D.h c = ((ma, mb), false))) (hE : { D with s := ma, h := mb } = E) (hx : Hid (firstW E.t c sigW = none)) (htu : L9.turnB E.t c = (d, true)) {D' : Ds} (hEn : ∀ wx S, Hid (Wy w0 p S0 wx S E h) → Calls Tryz.prog 102 #[.pointer (some ⟨p, 0, none⟩), .int .u8 (d.toNat : Int)] wx fun e w' => e = .returned (.tuple #[]) ∧ DOut w0 p S0 D' w') :
    Calls Tryz.prog 58 #[.pointer (some ⟨p, 0, none⟩), .int .u8 (c.toNat : Int)] w (RetIy w0 p S0 (D', [])) := by
  have ht0 := hf.out.t
  have ht : E.t.Ok := by rw [← hE]; exact ht0
  have c25 := Wy.cellW H ht0 1 rfl w (Below.refl _ _)
  rw [hnx] at c25
  have bz : ∀ W, Below w.heap.size w W → isR W (.pointer (some ⟨p, 0, none⟩)) = true ∧ csR W (.pointer (some ⟨p, 0, none⟩)) = D.t.cs ∧ W.cell? ⟨p, 28, none⟩ = some (.bool D.s) ∧ W.cell? ⟨p, 29, none⟩ = some (.bool D.h) := fun W k => ⟨(Wy.tm H ht0 W k).1, (Wy.tm H ht0 W k).2, Wy.cellW H ht0 4 rfl W k, Wy.cellW H ht0 5 rfl W k⟩
  go_enter Tryz.func58, Tryz.ntmps58
  go_upto_region 5 with fail
  clear c25
  go_cut [5, 6] (fun a b wx => ∃ g, a = .pointer (some ⟨g, 0, none⟩) ∧ b = .bool false ∧ Hid (Box wx g 43 #[.bool ma, .bool mb]) ∧ Hid (Wy w0 p S0 wx S D h))
  case first =>
    go_region_held3 (fun W => isR W (.pointer (some ⟨p, 0, none⟩)) = true ∧ csR W (.pointer (some ⟨p, 0, none⟩)) = D.t.cs ∧ W.cell? ⟨p, 28, none⟩ = some (.bool D.s) ∧ W.cell? ⟨p, 29, none⟩ = some (.bool D.h)) (exact bz _ (by repeat (first | exact Below.refl _ _ | exact b3 | with_reducible apply bel_dr | with_reducible apply bel_al | with_reducible apply bel_st0))) ((first
      | (go_at_call 98
         (with_reducible refine (L15.typedp_any _ D.t ht0 D.s D.h c hty).mono ?_)
         rintro e w3 ⟨rfl, k3⟩
         have b3 : Below w.heap.size w w3 := bel_via k3 (by repeat (first | exact Below.refl _ _ | with_reducible apply bel_dr | with_reducible apply bel_al))
         try have qa : Hid (Box w3 w.heap.size 43 #[.bool false, .bool false]) := hid (box_al2 (v := w.drew) k3)
         try have y0 := (qa.out).cell 0
         try have y1 := (qa.out).cell 1
         try have z0 := (qa.out).frozen 0
         try have z1 := (qa.out).frozen 1)))
    all_goals
      go_wp2_with fail
      go_meet
      first
        | exact ⟨w.heap.size, rfl, rfl, hid (by simpa using (qa.out.store 0 (.bool ma)).store 1 (.bool mb)), Wy.bel H (bel_st0 (bel_st0 b3 _ _) _ _)⟩
        | exact ⟨w3.heap.size, rfl, rfl, hid (Box.new w3 _ _), Wy.bel H (b3.alloc b3.size _)⟩
  case rest =>
  obtain ⟨g5, rfl, rfl, X5, H5⟩ := hcut
  have m0 : World.cell? wc ⟨g5, 0, none⟩ = some (.bool ma) := by simpa using X5.out.cell 0
  have m1 : World.cell? wc ⟨g5, 1, none⟩ = some (.bool mb) := by simpa using X5.out.cell 1
  have z28 := Wy.fz H5 28
  have z29 := Wy.fz H5 29
  have c28 := Wy.cellW H5 ht0 4 rfl wc (Below.refl _ _)
  have c29 := Wy.cellW H5 ht0 5 rfl wc (Below.refl _ _)
  have H6 := Wy.flow_ H5 ht0 ma mb
  rw [hE] at H6
  clear H bz H5 X5
  go_upto_region 9 with fail
  have H := H6
  clear H6 m0 m1 z28 z29 c28 c29
  generalize World.setCell _ _ _ = w at H ⊢
  have bz : ∀ W, Below w.heap.size w W → isR W (.pointer (some ⟨p, 0, none⟩)) = true ∧ csR W (.pointer (some ⟨p, 0, none⟩)) = E.t.cs := fun W k => Wy.tm H ht W k
  go_cut [7, 8] (fun a b wx => ∃ g, a = .pointer (some ⟨g, 0, none⟩) ∧ b = .bool false ∧ Hid (Box wx g 173 #[.int .i64 0, .int .i64 0, .nilFunc, .int .i64 0]) ∧ Hid (Wy w0 p S0 wx S E h) ∧ Hid (¬ S g))
  case first =>
    go_region_held3 (fun W => isR W (.pointer (some ⟨p, 0, none⟩)) = true ∧ csR W (.pointer (some ⟨p, 0, none⟩)) = E.t.cs) (exact bz _ (by repeat (first | exact Below.refl _ _ | exact b3 | exact b2 | with_reducible apply bel_dr | with_reducible apply bel_al | with_reducible apply bel_st0 | (with_reducible refine bel_st ?_ b2 _ _)))) ((first
      | (go_at_call 100
         (with_reducible refine (signalWays_b _ p).mono ?_)
         rintro e w2 ⟨g2, cs2, rfl, X2, A2, k2⟩
         have b2 : Below w.heap.size w w2 := bel_via k2 (by repeat (first | exact Below.refl _ _ | with_reducible apply bel_dr | with_reducible apply bel_al))
         try have q2 : Hid (Box w2 w.heap.size 173 #[.int .i64 0, .int .i64 0, .nilFunc, .int .i64 0]) := hid (box_al2 (v := w.drew) k2))
      | (go_at_call 99
         (with_reducible refine (first_none _ E.t ht c g2 p cs2 sigW 3 (hid (box_below X2.out (by repeat (first | exact Below.refl _ _ | with_reducible apply bel_dr | with_reducible apply bel_al)))) A2 (hid rfl) (by omega) hx).mono ?_)
         rintro e w3 ⟨rfl, k3⟩
         have b3 : Below w.heap.size w w3 := bel_via k3 (by repeat (first | exact Below.refl _ _ | exact b2 | with_reducible apply bel_dr | with_reducible apply bel_al))
         try have qa : Hid (Box w3 w.heap.size 173 #[.int .i64 0, .int .i64 0, .nilFunc, .int .i64 0]) := hid (box_below q2.out k3.out)
         try have qb : Hid (Box w3 w2.heap.size 173 #[.int .i64 0, .int .i64 0, .nilFunc, .int .i64 0]) := hid (box_al2 (v := w2) k3)
         try have y0 := (qa.out).cell 0
         try have y1 := (qa.out).cell 1
         try have y2 := (qa.out).cell 2
         try have y3 := (qa.out).cell 3
         try have z0 := (qa.out).frozen 0
         try have z1 := (qa.out).frozen 1
         try have z2 := (qa.out).frozen 2
         try have z3 := (qa.out).frozen 3
         try have y0 := (qb.out).cell 0
         try have y1 := (qb.out).cell 1
         try have y2 := (qb.out).cell 2
         try have y3 := (qb.out).cell 3
         try have z0 := (qb.out).frozen 0
         try have z1 := (qb.out).frozen 1
         try have z2 := (qb.out).frozen 2
         try have z3 := (qb.out).frozen 3)))
    all_goals
      go_wp2_with fail
      go_meet
      first
        | exact ⟨w2.heap.size, rfl, rfl, slb_way qb _ _ _ _, Wy.bel H (bel_st (bel_st (bel_st (bel_st b3 b2 _ _) b2 _ _) b2 _ _) b2 _ _), nots H b2.size⟩
        | exact ⟨w.heap.size, rfl, rfl, slb_way qa _ _ _ _, Wy.bel H (bel_st0 (bel_st0 (bel_st0 (bel_st0 b3 _ _) _ _) _ _) _ _), nots H (Nat.le_refl _)⟩
        | exact ⟨w3.heap.size, rfl, rfl, hid (Box.new w3 _ _), Wy.bel H (b3.alloc b3.size _), nots H b3.size⟩
  case rest =>
  obtain ⟨g3, rfl, rfl, X3, H3, nG⟩ := hcut
  go_wp2_with (first
    | (refine ldW (by rfl) _ (by rfl) p (by rfl) H3 ht ?_)
    | (go_at_call 101
       (with_reducible refine (L9.turn_b _ ht htu).mono ?_)
       rintro e w5 ⟨rfl, k5⟩
       have H5 := Wy.bel H3 k5.out)
    | (go_at_call 102
       (with_reducible refine (hEn _ _ H5).mono ?_)
       rintro e w6 ⟨rfl, K6⟩
       obtain ⟨S6, h6, H6⟩ := Wy.from K6))
  go_ret
  exact reti_nil H6

end
end Go.Proofs.YtggcampdkgfmgaaGreat
