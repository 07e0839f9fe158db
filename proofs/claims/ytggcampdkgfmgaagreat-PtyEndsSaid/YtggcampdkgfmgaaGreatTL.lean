import Derived.Test.YtggcampdkgfmgaaGreatTK
import Derived.BigQuiet
import Derived.Deep.QuietTactic
namespace Go.Proofs.YtggcampdkgfmgaaGreat
open Go.RowKit

/-! Layer 17: PtySizes, the walk. -/
/-- Sizes in memory. -/
def szV (l : List Sz) : List Value := (l.map Sz.cl).flatten
def SzL (w : World) (B : Nat) (A : Option Addr) (c : Nat) (l : List Sz) : Prop := l.length ≤ c ∧ c ≤ maxLen ∧ (A = none → c = 0) ∧ Lies w B A (szV l)
theorem szV_at {l : List Sz} : ∀ {k : Nat} {z : Sz}, l[k]? = some z → ∀ (j : Nat) (v : Value), z.cl[j]? = some v → (szV l)[k * 4 + j]? = some v := by
  induction l with
  | nil => intro k z h; simp at h
  | cons x r ih =>
    intro k z h j v hj
    have e : szV (x :: r) = x.cl ++ szV r := rfl
    rw [e]
    have hx : x.cl.length = 4 := rfl
    cases k with
    | zero =>
      simp at h
      subst h
      have : j < x.cl.length := (List.getElem?_eq_some_iff.1 hj).1
      rw [List.getElem?_append_left (by omega)]
      simpa using hj
    | succ k =>
      rw [List.getElem?_append_right (by omega), hx, show (k + 1) * 4 + j - 4 = k * 4 + j by omega]
      exact ih (by simpa using h) j v hj
theorem szL_cell {w : World} {B n c : Nat} {A : Option Addr} {l : List Sz} (h : SzL w B A c l) {k : Nat} (hn : l.length = n) (hk : k < n) : ∃ b o z, A = some ⟨b, o, none⟩ ∧ l[k]? = some z ∧ w.cell? ⟨b, o + k * 4, none⟩ = some (.int .u32 (z.a : Int)) ∧ w.cell? ⟨b, o + k * 4 + 1, none⟩ = some (.int .u32 (z.b : Int)) ∧ w.cell? ⟨b, o + k * 4 + 2, none⟩ = some (.int .u32 (z.c : Int)) ∧ w.cell? ⟨b, o + k * 4 + 3, none⟩ = some (.int .u32 (z.e : Int)) := by
  subst hn
  have hz : l[k]? = some l[k] := List.getElem?_eq_getElem hk
  obtain ⟨b, o, rfl, hb, hc⟩ := h.2.2.2 (by
    intro e
    have := szV_at hz 0 _ rfl
    rw [e] at this
    cases this)
  exact ⟨b, o, l[k], rfl, hz, hc _ _ (szV_at hz 0 _ rfl), (Nat.add_assoc _ _ _) ▸ hc _ _ (szV_at hz 1 _ rfl), (Nat.add_assoc _ _ _) ▸ hc _ _ (szV_at hz 2 _ rfl), (Nat.add_assoc _ _ _) ▸ hc _ _ (szV_at hz 3 _ rfl)⟩
theorem szL_up {u W : World} {A : Option Addr} {c : Nat} {l : List Sz} (h : Hid (SzL u u.heap.size A c l)) (hW : Below u.heap.size u W) : Hid (SzL W W.heap.size A c l) :=
  hid ⟨h.out.1, h.out.2.1, h.out.2.2.1, (h.out.2.2.2.below hW).more hW.size⟩
theorem ops17_nil (w : World) : OpsIn17 w none 0 [] := ⟨Nat.le_refl _, Nat.zero_le _, fun _ => rfl, fun h => absurd rfl h, fun r hr => by cases hr⟩
theorem sizeP_gp (P : Ps) (z : Sz) : (sizeP P z).1.gp = P.gp ∧ (sizeP P z).1.hu = P.hu ∧ (sizeP P z).1.z = z ∧ (sizeP P z).1.d = P.d := by
  unfold sizeP
  split
  · rename_i h; exact ⟨rfl, rfl, h.symm, rfl⟩
  · exact ⟨rfl, rfl, rfl, rfl⟩
set_option maxRecDepth 100000 in
set_option maxHeartbeats 8000000 in
theorem sizes_walk (w : World) (D : Ds) (h : Ph) (z : Sz) (ss gp sl : Int) (hu : Bool) (X : Hid (XIn w D h)) (A : Option Addr) (c n : Nat) (l : List Sz) (hl : Hid (SzL w w.heap.size A c l)) (hn : Hid (l.length = n)) :
    Calls Tryz.prog 12 #[.agg (ptV D h z ss gp sl hu), .slice A n c] w fun e w' => e = .returned (.bool true) ∧ Hid (Below w.heap.size w w') := by
  have ht := X.out.t
  have hcap : n ≤ 9223372036854775807 := by have h1 := hl.out.1; have h2 := hl.out.2.1; have h3 := hn.out; unfold maxLen at h2; omega
  have hsz : Hid ((Tryz.prog.info? 105).map (·.size) = some (ptV D h z ss gp sl hu).size) := hid (by rw [ptV_size ht]; exact sizeP17)
  obtain ⟨v, hv0⟩ : ∃ v, v = w.alloc (.cells (ptV D h z ss gp sl hu) 105) := ⟨_, rfl⟩
  have B0 : Hid (Box v w.heap.size 105 (ptV D h z ss gp sl hu)) := hid (by rw [hv0]; exact Box.new w _ _)
  have K0 : Hid (Below w.heap.size w v) := hid (by rw [hv0]; exact (Below.refl _ w).alloc (Nat.le_refl _) _)
  have hlt0 : w.heap.size < v.heap.size := by rw [hv0, World.size_alloc]; omega
  cases hg : greatP D []
  · by_cases hb : n ≤ 1000
    · have hbi : ¬ (n : Int) > 1000 := by omega
      have gd : Hid (greatD D = false) := hid (greatP_disc hg)
      go_enter Tryz.func12, Tryz.ntmps12
      go_upto_region 1 with (first
        | (refine bxT (by rfl) 105 _ (by rfl) _ (by rfl) hsz.out ?_))
      rw [← hv0]
      clear hv0
      go_wp2_with (first
        | (go_at_call 38
           (with_reducible refine (alive17 _).mono ?_)
           rintro e u1 ⟨rfl, k1⟩
           have K1 := bel_t K0 k1.out
           have B1 := hid (box_below B0.out k1.out))
        | (refine ldX (by rfl) 105 Tryz.underlying105 _ (by rfl) _ (by rfl) B2 hsz ?_)
        | (refine ldX (by rfl) 105 Tryz.underlying105 _ (by rfl) _ (by rfl) B1 hsz ?_)
        | (go_at_call 45
           (with_reducible refine (great17_any _ D h z ss gp sl hu (hid (X.out.grow K1.out)) none 0 0 [] (hid (ops17_nil _)) (hid rfl) (hid hg)).mono ?_)
           rintro e u2 ⟨rfl, k2⟩
           have K2 := bel_t K1 k2.out
           have B2 := hid (box_below B1.out k2.out))
        | (go_at_call 46
           (with_reducible refine (to17_any _ D h z ss gp sl hu (hid (X.out.grow K2.out)) gd).mono ?_)
           rintro e u3 ⟨g, p, S0, rfl, H3⟩))
      have hlt2 : w.heap.size < u2.heap.size := by have h1 := K2.out.size; have h2 := k1.out.size; have h3 := k2.out.size; omega
      go_loopg [24] n (fun gk i wr => ∃ (k : Nat) (S : Nat → Prop) (P : Ps), k + gk = n ∧ i = .int .i64 k ∧ Hid (AlP u2 wr g p S P) ∧ Hid (P.gp = gp) ∧ Hid (P.hu = hu))
      case atStart => exact ⟨0, S0, _, by omega, rfl, H3, hid rfl, hid rfl⟩
      case round =>
        clear H3
        obtain ⟨k, S, P, hk, rfl, H4, hgp, hhu⟩ := hrel
        have K4 : Hid (Below w.heap.size w wr) := hid (K2.out.trans (H4.out.bel.mono K2.out.size))
        have B4 := hid (box_below B2.out H4.out.bel)
        by_cases hlt : k < n
        · have hki : (k : Int) < (n : Int) := by omega
          have L4 := szL_up hl K4.out
          obtain ⟨b0, o0, y, hA, hy, d0, d1, d2, d3⟩ := szL_cell L4.out hn.out hlt
          subst hA
          clear hy
          obtain ⟨⟨xa, xb, xc, xe⟩, hx⟩ : ∃ x, Hid (P.z = x) := ⟨_, hid rfl⟩
          obtain ⟨ya, yb, yc, ye⟩ := y
          have P4 := AlP.py H4
          have g1 : ∀ o, (wr.alloc o).cell? ⟨g, 1, none⟩ = some (.int .u32 (xa : Int)) := fun o => Py.cellW P4 1 (by unfold psC; rw [hx.out]; rfl) _ (bel_al (Below.refl _ _))
          have g2 : ∀ o, (wr.alloc o).cell? ⟨g, 2, none⟩ = some (.int .u32 (xb : Int)) := fun o => Py.cellW P4 2 (by unfold psC; rw [hx.out]; rfl) _ (bel_al (Below.refl _ _))
          have g3 : ∀ o, (wr.alloc o).cell? ⟨g, 3, none⟩ = some (.int .u32 (xc : Int)) := fun o => Py.cellW P4 3 (by unfold psC; rw [hx.out]; rfl) _ (bel_al (Below.refl _ _))
          have g4 : ∀ o, (wr.alloc o).cell? ⟨g, 4, none⟩ = some (.int .u32 (xe : Int)) := fun o => Py.cellW P4 4 (by unfold psC; rw [hx.out]; rfl) _ (bel_al (Below.refl _ _))
          obtain ⟨bq, hbq⟩ : ∃ x, Hid (decide ((⟨ya, yb, yc, ye⟩ : Sz) = ⟨xa, xb, xc, xe⟩) = x) := ⟨_, hid rfl⟩
          have q1 : ∀ W : World, (binOp .neq 90 (.agg #[.int .u32 (ya : Int), .int .u32 (yb : Int), .int .u32 (yc : Int), .int .u32 (ye : Int)]) (.agg #[.int .u32 (xa : Int), .int .u32 (xb : Int), .int .u32 (xc : Int), .int .u32 (xe : Int)])).run Tryz.prog W = .ok (.bool (!bq)) W := fun W => by rw [← hbq.out]; exact run_neqZ W ⟨ya, yb, yc, ye⟩ ⟨xa, xb, xc, xe⟩
          have q2 : ∀ W : World, (binOp .neq 90 (.agg #[.int .u32 (ya : Int), .int .u32 (yb : Int), .int .u32 (yc : Int), .int .u32 (ye : Int)]) (.agg #[.int .u32 (ya : Int), .int .u32 (yb : Int), .int .u32 (yc : Int), .int .u32 (ye : Int)])).run Tryz.prog W = .ok (.bool false) W := fun W => by
            have := run_neqZ W ⟨ya, yb, yc, ye⟩ ⟨ya, yb, yc, ye⟩
            rw [decide_eq_true rfl] at this
            exact this
          have q3 : ∀ W : World, (binOp .neq 120 (.agg #[.int .i64 gp, .int .i64 28]) (.agg #[.int .i64 gp, .int .i64 28])).run Tryz.prog W = .ok (.bool false) W := fun W => by
            have := run_neqE W gp 28 gp 28
            rw [decide_eq_true rfl, decide_eq_true rfl] at this
            exact this
          obtain ⟨⟨P5, E5⟩, hr⟩ : ∃ r, Hid (sizeP P ⟨ya, yb, yc, ye⟩ = r) := ⟨_, hid rfl⟩
          have hP5 := sizeP_gp P ⟨ya, yb, yc, ye⟩
          rw [hr.out] at hP5
          have hP5z : Hid (P5.z = ⟨ya, yb, yc, ye⟩) := hid hP5.2.2.1
          have hgp5 : Hid (P5.gp = gp) := hid (hP5.1.trans hgp.out)
          have hhu5 : Hid (P5.hu = hu) := hid (hP5.2.1.trans hhu.out)
          clear hP5
          have cS : ∀ W, Hid (AlP u2 W g p S P) → Calls Tryz.prog 49 #[.pointer (some ⟨g, 0, none⟩), .agg #[.int .u32 (ya : Int), .int .u32 (yb : Int), .int .u32 (yc : Int), .int .u32 (ye : Int)]] W (RetPe W g p S (P5, E5)) := fun W H => size_any (AlP.py H) ⟨ya, yb, yc, ye⟩ hr
          have k5 : Below wr.heap.size wr ((wr.alloc (.cells #[.int .u32 (ya : Int), .int .u32 (yb : Int), .int .u32 (yc : Int), .int .u32 (ye : Int)] 90)).alloc (.cells #[.int .u32 (xa : Int), .int .u32 (xb : Int), .int .u32 (xc : Int), .int .u32 (xe : Int)] 90)) := ((Below.refl _ wr).alloc (Nat.le_refl _) _).alloc (by simp) _
          have H5 := hid (H4.out.grow k5)
          have Y5 : Hid (Box ((wr.alloc (.cells #[.int .u32 (ya : Int), .int .u32 (yb : Int), .int .u32 (yc : Int), .int .u32 (ye : Int)] 90)).alloc (.cells #[.int .u32 (xa : Int), .int .u32 (xb : Int), .int .u32 (xc : Int), .int .u32 (xe : Int)] 90)) wr.heap.size 90 #[.int .u32 (ya : Int), .int .u32 (yb : Int), .int .u32 (yc : Int), .int .u32 (ye : Int)]) := hid (box_al (box_nw rfl))
          have X5 : Hid (Box ((wr.alloc (.cells #[.int .u32 (ya : Int), .int .u32 (yb : Int), .int .u32 (yc : Int), .int .u32 (ye : Int)] 90)).alloc (.cells #[.int .u32 (xa : Int), .int .u32 (xb : Int), .int .u32 (xc : Int), .int .u32 (xe : Int)] 90)) (wr.heap.size + 1) 90 #[.int .u32 (xa : Int), .int .u32 (xb : Int), .int .u32 (xc : Int), .int .u32 (xe : Int)]) := hid (by
            have := Box.new (wr.alloc (.cells #[.int .u32 (ya : Int), .int .u32 (yb : Int), .int .u32 (yc : Int), .int .u32 (ye : Int)] 90)) 90 #[.int .u32 (xa : Int), .int .u32 (xb : Int), .int .u32 (xc : Int), .int .u32 (xe : Int)]
            rwa [World.size_alloc] at this)
          have nY : ∀ S', Hid (Py ((wr.alloc (.cells #[.int .u32 (ya : Int), .int .u32 (yb : Int), .int .u32 (yc : Int), .int .u32 (ye : Int)] 90)).alloc (.cells #[.int .u32 (xa : Int), .int .u32 (xb : Int), .int .u32 (xc : Int), .int .u32 (xe : Int)] 90)) g p S wr S' P) → True := fun _ _ => trivial
          have nG : ∀ x, GS g S x → x < wr.heap.size := fun x hx => by
            rcases hx with hx | rfl
            · exact H4.out.at_.at_.top _ hx
            · exact H4.out.at_.lt
          clear nY k5
          have hQ := hr.out
          unfold sizeP at hQ
          rw [hx.out] at hQ
          cases bq
          · have hne : ¬ (⟨ya, yb, yc, ye⟩ : Sz) = ⟨xa, xb, xc, xe⟩ := of_decide_eq_false hbq.out
            rw [if_neg hne, hgp.out] at hQ
            by_cases hg0 : gp = 0
            · have hgb : (gp != 0) = false := by rw [hg0]; rfl
              obtain rfl : [] = E5 := by
                injection hQ with _ hQ
                rw [← hQ]
                unfold evs
                rw [if_pos hg0]
              clear hQ hne hg0
              go_upto_region 14 with (first
                | (go_at_call 49
                   (with_reducible refine (cS _ H5).mono ?_)
                   rintro e u6 ⟨A6, n6, c6, S6, rfl, N6, E6, h6, F6⟩
                   obtain rfl : n6 = 0 := N6.out.symm
                   have H6 := hid (H5.out.next h6)
                   have Y6 := h6.out.but.box Y5.out (fun hx => by have := nG _ hx; omega)
                   have X6 := h6.out.but.box X5.out (fun hx => by have := nG _ hx; omega)
                   have y0 := Y6.cell 0
                   have y1 := Y6.cell 1
                   have y2 := Y6.cell 2
                   have y3 := Y6.cell 3
                   have x0 := X6.cell 0
                   have x1 := X6.cell 1
                   have x2 := X6.cell 2
                   have x3 := X6.cell 3
                   have B6 := box_below B2.out H6.out.bel
                   have p39 : u6.cell? ⟨w.heap.size, 39, none⟩ = some (.int .i64 gp) := (B6.cell 39).trans (ptV_back ht (j := 15) rfl)
                   have P6 := AlP.py H6
                   have e1 := Py.cell (v := .int .u32 (ya : Int)) P6 1 (by unfold psC; rw [hP5z.out]; rfl)
                   have e2 := Py.cell (v := .int .u32 (yb : Int)) P6 2 (by unfold psC; rw [hP5z.out]; rfl)
                   have e3 := Py.cell (v := .int .u32 (yc : Int)) P6 3 (by unfold psC; rw [hP5z.out]; rfl)
                   have e4 := Py.cell (v := .int .u32 (ye : Int)) P6 4 (by unfold psC; rw [hP5z.out]; rfl)))
              go_quiet (fail)
              go_wp2_with fail
              go_roundg (gk - 1)
              case measure => omega
              case rel => exact ⟨k + 1, S6, P5, by omega, by go_num, hid (AlP.grow (H6.out) (bel_drewN (Below.refl _ _) _)), hgp5, hhu5⟩
            · have hgb : (gp != 0) = true := bne_iff_ne.2 hg0
              obtain rfl : [(gp, 28)] = E5 := by
                injection hQ with _ hQ
                rw [← hQ]
                unfold evs
                rw [if_neg hg0]
                rfl
              clear hQ hne
              go_upto_region 14 with (first
                | (go_at_call 49
                   (with_reducible refine (cS _ H5).mono ?_)
                   rintro e u6 ⟨A6, n6, c6, S6, rfl, N6, E6, h6, F6⟩
                   obtain rfl : n6 = 1 := N6.out.symm
                   obtain ⟨b6, o6, rfl, m60, m61⟩ := lies_at E6.out
                   have H6 := hid (H5.out.next h6)
                   have Y6 := h6.out.but.box Y5.out (fun hx => by have := nG _ hx; omega)
                   have X6 := h6.out.but.box X5.out (fun hx => by have := nG _ hx; omega)
                   have y0 := Y6.cell 0
                   have y1 := Y6.cell 1
                   have y2 := Y6.cell 2
                   have y3 := Y6.cell 3
                   have x0 := X6.cell 0
                   have x1 := X6.cell 1
                   have x2 := X6.cell 2
                   have x3 := X6.cell 3
                   have B6 := box_below B2.out H6.out.bel
                   have p39 : u6.cell? ⟨w.heap.size, 39, none⟩ = some (.int .i64 gp) := (B6.cell 39).trans (ptV_back ht (j := 15) rfl)
                   have P6 := AlP.py H6
                   have e1 := Py.cell (v := .int .u32 (ya : Int)) P6 1 (by unfold psC; rw [hP5z.out]; rfl)
                   have e2 := Py.cell (v := .int .u32 (yb : Int)) P6 2 (by unfold psC; rw [hP5z.out]; rfl)
                   have e3 := Py.cell (v := .int .u32 (yc : Int)) P6 3 (by unfold psC; rw [hP5z.out]; rfl)
                   have e4 := Py.cell (v := .int .u32 (ye : Int)) P6 4 (by unfold psC; rw [hP5z.out]; rfl)))
              go_quiet (fail)
              go_wp2_with fail
              go_roundg (gk - 1)
              case measure => omega
              case rel => exact ⟨k + 1, S6, P5, by omega, by go_num, hid (AlP.grow (H6.out) (bel_drewN (Below.refl _ _) _)), hgp5, hhu5⟩
          · have heq : (⟨ya, yb, yc, ye⟩ : Sz) = ⟨xa, xb, xc, xe⟩ := of_decide_eq_true hbq.out
            rw [if_pos heq] at hQ
            obtain rfl : [] = E5 := by
              injection hQ with _ hQ
            clear hQ heq
            go_upto_region 14 with (first
              | (go_at_call 49
                 (with_reducible refine (cS _ H5).mono ?_)
                 rintro e u6 ⟨A6, n6, c6, S6, rfl, N6, E6, h6, F6⟩
                 obtain rfl : n6 = 0 := N6.out.symm
                 have H6 := hid (H5.out.next h6)
                 have Y6 := h6.out.but.box Y5.out (fun hx => by have := nG _ hx; omega)
                 have X6 := h6.out.but.box X5.out (fun hx => by have := nG _ hx; omega)
                 have y0 := Y6.cell 0
                 have y1 := Y6.cell 1
                 have y2 := Y6.cell 2
                 have y3 := Y6.cell 3
                 have x0 := X6.cell 0
                 have x1 := X6.cell 1
                 have x2 := X6.cell 2
                 have x3 := X6.cell 3
                 have B6 := box_below B2.out H6.out.bel
                 have p39 : u6.cell? ⟨w.heap.size, 39, none⟩ = some (.int .i64 gp) := (B6.cell 39).trans (ptV_back ht (j := 15) rfl)
                 have P6 := AlP.py H6
                 have e1 := Py.cell (v := .int .u32 (ya : Int)) P6 1 (by unfold psC; rw [hP5z.out]; rfl)
                 have e2 := Py.cell (v := .int .u32 (yb : Int)) P6 2 (by unfold psC; rw [hP5z.out]; rfl)
                 have e3 := Py.cell (v := .int .u32 (yc : Int)) P6 3 (by unfold psC; rw [hP5z.out]; rfl)
                 have e4 := Py.cell (v := .int .u32 (ye : Int)) P6 4 (by unfold psC; rw [hP5z.out]; rfl)))
            go_quiet (fail)
            go_wp2_with fail
            go_roundg (gk - 1)
            case measure => omega
            case rel => exact ⟨k + 1, S6, P5, by omega, by go_num, hid (AlP.grow (H6.out) (bel_drewN (Below.refl _ _) _)), hgp5, hhu5⟩
        · obtain rfl : k = n := by omega
          have hki : ¬ (k : Int) < (k : Int) := by omega
          have P4 := AlP.py H4
          have g6 := Py.cell (v := .int .i64 gp) P4 6 (by unfold psC; rw [hgp.out]; rfl)
          have g8 := Py.cell (v := .bool hu) P4 8 (by unfold psC; rw [hhu.out]; rfl)
          have p39 : wr.cell? ⟨w.heap.size, 39, none⟩ = some (.int .i64 gp) := (B4.out.cell 39).trans (ptV_back ht (j := 15) rfl)
          have p41 : wr.cell? ⟨w.heap.size, 41, none⟩ = some (.bool hu) := (B4.out.cell 41).trans (ptV_back ht (j := 17) rfl)
          have hgg : (gp == gp) = true := beq_iff_eq.2 rfl
          cases hu
          · go_upto_region 17 with fail
            go_quiet (fail)
            go_wp2_with fail
            go_ret
            exact ⟨rfl, hid (bel_drewN K4.out _)⟩
          · go_upto_region 17 with fail
            go_quiet (fail)
            go_wp2_with fail
            go_ret
            exact ⟨rfl, hid (bel_drewN K4.out _)⟩
    · have hbi : (n : Int) > 1000 := by omega
      go_enter Tryz.func12, Tryz.ntmps12
      go_upto_region 1 with (first
        | (refine bxT (by rfl) 105 _ (by rfl) _ (by rfl) hsz.out ?_))
      rw [← hv0]
      clear hv0
      go_wp2_with (first
        | (go_at_call 38
           (with_reducible refine (alive17 _).mono ?_)
           rintro e u1 ⟨rfl, k1⟩
           have K1 := bel_t K0 k1.out
           have B1 := hid (box_below B0.out k1.out))
        | (refine ldX (by rfl) 105 Tryz.underlying105 _ (by rfl) _ (by rfl) B1 hsz ?_)
        | (go_at_call 45
           (with_reducible refine (great17_any _ D h z ss gp sl hu (hid (X.out.grow K1.out)) none 0 0 [] (hid (ops17_nil _)) (hid rfl) (hid hg)).mono ?_)
           rintro e u2 ⟨rfl, k2⟩
           have K2 := bel_t K1 k2.out))
      go_ret
      exact ⟨rfl, K2⟩
  · go_enter Tryz.func12, Tryz.ntmps12
    go_upto_region 1 with (first
      | (refine bxT (by rfl) 105 _ (by rfl) _ (by rfl) hsz.out ?_))
    rw [← hv0]
    clear hv0
    go_wp2_with (first
      | (go_at_call 38
         (with_reducible refine (alive17 _).mono ?_)
         rintro e u1 ⟨rfl, k1⟩
         have K1 := bel_t K0 k1.out
         have B1 := hid (box_below B0.out k1.out))
      | (refine ldX (by rfl) 105 Tryz.underlying105 _ (by rfl) _ (by rfl) B1 hsz ?_)
      | (go_at_call 45
         (with_reducible refine (great17_any _ D h z ss gp sl hu (hid (X.out.grow K1.out)) none 0 0 [] (hid (ops17_nil _)) (hid rfl) (hid hg)).mono ?_)
         rintro e u2 ⟨rfl, k2⟩
         have K2 := bel_t K1 k2.out))
    go_ret
    exact ⟨rfl, K2⟩
end Go.Proofs.YtggcampdkgfmgaaGreat
