import Derived.Test.YteeienmigoebmaaGreatDoorKI
import Derived.Deep.AppendLies
namespace Go.Proofs.YteeienmigoebmaaGreatDoor
namespace L19
open Go.RowKit L18

/-! Layer 19: ProgramWork: an operation put in front of a program's (the law's closure). -/
theorem pgs_set : ∀ {Y : List PgX} {i : Nat} {nm : List UInt8} {ops ops' : List OpV} {oA A5 : Option Addr} {oc c5 : Nat}, Y[i]? = some ((nm, ops), oA, oc) → (pgsC Y).set (i * 2 + 1) (.slice A5 ops'.length c5) = pgsC (Y.set i ((nm, ops'), A5, c5))
  | [], i, _, _, _, _, _, _, _, h => by simp at h
  | y :: Y, 0, nm, ops, ops', oA, A5, oc, c5, h => by
    simp at h
    subst h
    rfl
  | y :: Y, i + 1, nm, ops, ops', oA, A5, oc, c5, h => by
    have ih := pgs_set (A5 := A5) (c5 := c5) (ops' := ops') (show Y[i]? = some ((nm, ops), oA, oc) by simpa using h)
    have e : (i + 1) * 2 + 1 = (i * 2 + 1) + 1 + 1 := by omega
    rw [e]
    show (Value.string (bs y.1.1)) :: (.slice y.2.1 y.1.2.length y.2.2) :: (pgsC Y).set (i * 2 + 1) (.slice A5 ops'.length c5) = _
    rw [ih]
    rfl
theorem prL_front {Y : List PgX} {i : Nat} {nm : List UInt8} {ops : List OpV} {oA A5 : Option Addr} {oc c5 : Nat} (o : OpV) (h : Y[i]? = some ((nm, ops), oA, oc)) : prL (Y.set i ((nm, o :: ops), A5, c5)) = frontP (prL Y) i o := by
  apply List.ext_getElem?
  intro k
  rw [front_at]
  unfold prL
  rw [List.getElem?_map, List.getElem?_set, List.getElem?_map]
  by_cases hk : i = k
  · subst hk
    have hi : i < Y.length := (List.getElem?_eq_some_iff.1 h).1
    rw [if_pos rfl, if_pos rfl, if_pos hi, h]
    rfl
  · rw [if_neg hk, if_neg (fun e => hk e.symm)]
theorem pn_set {W : World} {base EP EO n c i q b o c5 : Nat} {A5 oA : Option Addr} {oc : Nat} {nm : List UInt8} {ops ops' : List OpV} {Y : List PgX} (h : PgN W base EP EO (some ⟨b, o, none⟩) n c Y) (hi : Y[i]? = some ((nm, ops), oA, oc)) (hr : W.ownsRow base EO 4 (.slice A5 q c5) q (opsC ops')) (hq : ops'.length = q) (hE : EO ≠ EP) :
    PgN (W.setCell ⟨b, o + i * 2 + 1, none⟩ (.slice A5 q c5)) base EP EO (some ⟨b, o, none⟩) n c (Y.set i ((nm, ops'), A5, c5)) := by
  subst hq
  have hlt : i < Y.length := (List.getElem?_eq_some_iff.1 hi).1
  obtain ⟨g, cap, e, _, _⟩ := h.row.form (by have := h.len; omega)
  injection e with e1 _ e3
  injection e1 with e1
  injection e1 with e4 e5
  subst e4 e5
  obtain ⟨_, cs, hx⟩ := own_box h.row b rfl
  have hs := (h.row.stored (i * 2 + 1) (.slice A5 ops'.length c5)).1
  rw [pgs_set hi] at hs
  have ha : (0 : Nat) + i * 2 + 1 = i * 2 + 1 := by omega
  rw [ha]
  refine ⟨by rw [List.length_set]; exact h.len, hs, fun x hx2 => ?_⟩
  rcases List.mem_or_eq_of_mem_set hx2 with h1 | rfl
  · exact own_set hx hE (h.text x h1)
  · exact own_set hx hE hr
theorem own_lit1 {W : World} {g base E : Nat} {o : OpV} {cs : Array Value} (h : Box W g E cs) (hb : base ≤ g) (hc : (opsC [o]).toArray = cs) : W.ownsRow base E 4 (.slice (some ⟨g, 0, none⟩) 1 1) 1 (opsC [o]) := by
  subst hc
  unfold Box at h
  exact ⟨rfl, Or.inr ⟨g, 1, _, rfl, hb, h, Nat.le_refl _, by decide, rfl, rfl⟩⟩
theorem small_front {Z : List PgX} {l : List ProgV} {i : Nat} {o : OpV} (he : prL Z = frontP l i o) (h : checkP l = 0) : SmallX Z := by
  refine small_of he (by rw [front_len]; have := check_scan h; omega) fun p hp => ?_
  obtain ⟨k, hk⟩ := List.mem_iff_getElem?.1 hp
  rw [front_at] at hk
  split at hk
  · cases hl : l[k]? with
    | none => rw [hl] at hk; cases hk
    | some p0 =>
      rw [hl] at hk
      obtain rfl := Option.some.inj hk
      have := (check_at h hl).2.1
      simp only [List.length_cons]
      omega
  · have := (check_at h hk).2.1
    omega
section
variable {w : World}
set_option maxRecDepth 100000 in
set_option maxHeartbeats 8000000 in
theorem front_any (H : Hid (TabX w)) {gl gi : Nat} {A : Option Addr} {n c i : Nat} {X : List PgX} (bl : Hid (Box w gl 22 #[.slice A n c])) (bi : Hid (Box w gi 3 #[.int .i64 i])) (hl : Hid (PgM w w.heap.size A c X)) (hn : Hid (X.length = n)) (hm : Hid (FitX X)) (hi : i < n) (hk : Hid (checkP (prL X) = 0)) (y1 y2 : Int) {v : Nat} (hv : Hid (workP (frontP (prL X) i (y1, y2, 0, [])) i = v)) :
    Calls Tryz.prog 17 #[.agg #[.int .i64 y1, .int .i64 y2, .int .i64 0, .string ⟨#[]⟩], .pointer (some ⟨gl, 0, none⟩), .pointer (some ⟨gi, 0, none⟩)] w fun e w' => e = .returned (.int .i64 v) ∧ Hid (Below w.heap.size w w') := by
  have cl : w.cell? ⟨gl, 0, none⟩ = some (.slice A n c) := bl.out.cell 0
  have ci : w.cell? ⟨gi, 0, none⟩ = some (.int .i64 i) := bi.out.cell 0
  go_enter Tryz.func17, Tryz.ntmps17
  have K0 : Hid (Below w.heap.size w (w.alloc (.cells #[.int .i64 y1, .int .i64 y2, .int .i64 0, .string ⟨#[]⟩] 46))) := hid ((Below.refl _ w).alloc (Nat.le_refl _) _)
  have G0 := hid (Box.new w 46 #[.int .i64 y1, .int .i64 y2, .int .i64 0, .string ⟨#[]⟩])
  go_upto_region 1 with fail
  generalize hu : w.alloc (.cells #[.int .i64 y1, .int .i64 y2, .int .i64 0, .string ⟨#[]⟩] 46) = u at K0 G0 ⊢
  have L0 := pg_up hl K0.out
  have cl0 : u.cell? ⟨gl, 0, none⟩ = some (.slice A n c) := (box_below bl.out K0.out).cell 0
  have bi0 : Hid (Box u gi 3 #[.int .i64 i]) := hid (box_below bi.out K0.out)
  clear hu
  go_upto_region 2 with (first
    | (go_at_call 9
       (with_reducible refine (to_any _ A n c X L0 hn.out hm).mono ?_)
       rintro e u2 ⟨A2, c2, Y, rfl, Q2, P2, C2⟩
       have B2 := bel_t K0 C2.out
       have H2 := TabX.below H B2.out
       have bi2 : Hid (Box u2 gi 3 #[.int .i64 i]) := hid (box_below bi0.out C2.out)
       have G2 : Hid (Box u2 w.heap.size 46 #[.int .i64 y1, .int .i64 y2, .int .i64 0, .string ⟨#[]⟩]) := hid (box_below G0.out C2.out)))
  have hYn : Y.length = n := P2.out.len
  obtain ⟨b, o, x, hA, hr, d0, d1, hS⟩ := P2.out.pg.at (k := i) (by rw [hYn]; exact hi)
  subst hA
  obtain ⟨⟨nm, ops⟩, oA, oc⟩ := x
  simp only at d0 d1 hS
  obtain ⟨q, hq⟩ : ∃ z, Hid (ops.length = z) := ⟨_, hid rfl⟩
  have hq64 : q ≤ 64 := by
    have h1 : (prL X)[i]? = some (nm, ops) := by rw [← Q2.out]; simp [prL, hr]
    rw [← hq.out]
    exact (check_at hk.out h1).2.1
  have hmx : 1 + q ≤ maxLen := by unfold maxLen; omega
  rw [hq.out] at d1
  have S0 := hid hS
  have HR := hid hr
  have hi2 : (i : Int) < n := by omega
  have hq4 : (opsC ops).length = q * 4 := by rw [opsC_len, hq.out]
  obtain ⟨cs, XB⟩ : ∃ cs, Hid (Box u2 b 43 cs) := by
    obtain ⟨_, cs, h⟩ := own_box P2.out.row b rfl
    exact ⟨cs, hid h⟩
  have hbu : u.heap.size ≤ b := (own_box P2.out.row b rfl).1
  have C2' := C2.out
  have hz2 := C2'.size
  have bz : ∀ W, Below u.heap.size u W → W.cell? ⟨gi, 0, none⟩ = some (.int .i64 i) ∧ W.cell? ⟨w.heap.size, 0, none⟩ = some (.int .i64 y1) ∧ W.cell? ⟨w.heap.size, 1, none⟩ = some (.int .i64 y2) ∧ W.cell? ⟨w.heap.size, 2, none⟩ = some (.int .i64 0) ∧ W.cell? ⟨w.heap.size, 3, none⟩ = some (.string ⟨#[]⟩) := fun W h =>
    ⟨(box_below bi0.out h).cell 0, (box_below G0.out h).cell 0, (box_below G0.out h).cell 1, (box_below G0.out h).cell 2, (box_below G0.out h).cell 3⟩
  have da : ∀ ob, (u2.alloc ob).cell? ⟨b, o + i * 2 + 1, none⟩ = some (.slice oA q oc) := fun ob => (((Below.refl _ u2).alloc (Nat.le_refl _) ob).cell XB.out.lt).trans d1
  clear hS hr d0
  have hyc : (opsC [(y1, y2, 0, [])]).toArray = #[.int .i64 y1, .int .i64 y2, .int .i64 0, .string ⟨#[]⟩] := rfl
  have hcells := bz u2 C2'
  obtain ⟨e1, e2, e3, e4, e5⟩ := hcells
  have ea : ∀ ob, (u2.alloc ob).cell? ⟨gi, 0, none⟩ = some (.int .i64 i) ∧ (u2.alloc ob).cell? ⟨w.heap.size, 0, none⟩ = some (.int .i64 y1) ∧ (u2.alloc ob).cell? ⟨w.heap.size, 1, none⟩ = some (.int .i64 y2) ∧ (u2.alloc ob).cell? ⟨w.heap.size, 2, none⟩ = some (.int .i64 0) ∧ (u2.alloc ob).cell? ⟨w.heap.size, 3, none⟩ = some (.string ⟨#[]⟩) := fun ob => bz _ (C2'.alloc hz2 ob)
  go_cut [17] (fun sl wx => ∃ (A5 : Option Addr) (c5 : Nat), sl = .slice A5 (1 + q) c5 ∧ Hid (PgN wx u.heap.size 43 46 (some ⟨b, o, none⟩) n c2 (Y.set i ((nm, (y1, y2, 0, []) :: ops), A5, c5))) ∧ Hid (TabX wx) ∧ Hid (Below w.heap.size w wx) ∧ wx.cell? ⟨gi, 0, none⟩ = some (.int .i64 i))
  case first =>
    go_region_law (((
          (refine step_row 41 46 4 40 _ Tryz.underlying41 infoGO rfl (by decide) (by rfl) (.tmp 11) (.tmp 16) rfl u2.heap.size 1 q 1 _ (opsC [(y1, y2, 0, [])]) (opsC ops) rfl (hid (own_lit1 ?c1 (Nat.le_refl _) hyc)) ?c2 oA oc rfl (hid ((S0.out.lies.below ?c3).more ?c4)) hq4 (opsC_one _) hmx (by omega) ?_
           case c1 => first | exact box_n rfl | exact box_d (box_n rfl)
           case c2 => exact Below.size (by repeat (first | exact Below.refl _ _ | with_reducible apply bel_d | with_reducible apply bel_a))
           case c3 => repeat (first | exact Below.refl _ _ | with_reducible apply bel_d | with_reducible apply bel_a)
           case c4 => exact Below.size (by repeat (first | exact Below.refl _ _ | with_reducible apply bel_d | with_reducible apply bel_a))
           intro A5 c5 u5 o5 k5 g5
           have b5 : Below u2.heap.size u2 u5 := by
             refine Below.trans ?_ (k5.out.below ?_)
             · repeat (first | exact Below.refl _ _ | with_reducible apply bel_d | with_reducible apply bel_a)
             · exact Below.size (by repeat (first | exact Below.refl _ _ | with_reducible apply bel_d | with_reducible apply bel_a))
           have C5 : Below u.heap.size u u5 := C2'.trans (b5.mono hz2)
           have f5 : u5.frozen? ⟨b, o + i * 2 + 1, none⟩ = false := (box_below XB.out b5).frozen _
           have d5 : u5.cell? ⟨b, o + i * 2 + 1, none⟩ = some (.slice oA q oc) := (b5.cell XB.out.lt).trans d1
           have P2' : PgN u5 u.heap.size 43 46 (some ⟨b, o, none⟩) n c2 Y := P2.out.up b5
           have o6 : u5.ownsRow u.heap.size 46 4 (.slice A5 (1 + q) c5) (1 + q) (opsC ((y1, y2, 0, []) :: ops)) := own_mono o5.out hz2
           have P9 := hid (pn_set P2' HR.out o6 (by rw [List.length_cons, hq.out]; omega) (by decide))
           have T9 : Hid (TabX (u5.setCell ⟨b, o + i * 2 + 1, none⟩ (.slice A5 (1 + q) c5))) := TabX.below H (bel_t K0 (C5.setCell hbu _)).out
           have B9 := bel_t K0 (C5.setCell hbu (p := ⟨b, o + i * 2 + 1, none⟩) (.slice A5 (1 + q) c5))
           have e9 : (u5.setCell ⟨b, o + i * 2 + 1, none⟩ (.slice A5 (1 + q) c5)).cell? ⟨gi, 0, none⟩ = some (.int .i64 i) := (bz _ (C5.setCell hbu _)).1
           clear k5 g5 o5 P2' o6
           obtain ⟨e1, e2, e3, e4, e5⟩ := bz u5 C5))))
    all_goals
      go_wp2_with fail
      go_meet
      exact ⟨A5, c5, rfl, P9, T9, B9, e9⟩
  case rest =>
  obtain ⟨A5, c5, rfl, P9, T9, B9, e9⟩ := hcut
  obtain ⟨L9, N9⟩ := own_m P9
  have Q9 : Hid (prL (Y.set i ((nm, (y1, y2, 0, []) :: ops), A5, c5)) = frontP (prL X) i (y1, y2, 0, [])) := hid (by rw [prL_front _ HR.out, Q2.out])
  have S9 : Hid (SmallX (Y.set i ((nm, (y1, y2, 0, []) :: ops), A5, c5))) := hid (small_front Q9.out hk.out)
  have W9 : Hid (workP (prL (Y.set i ((nm, (y1, y2, 0, []) :: ops), A5, c5))) i = v) := hid (by rw [Q9.out, hv.out])
  go_wp2_with (first
    | (go_at_call 16
       (with_reducible refine (work_any T9 L9 N9 S9 W9).mono ?_)
       rintro e z ⟨rfl, CZ⟩
       have BZ := bel_t B9 CZ.out))
  go_ret
  exact ⟨rfl, BZ⟩
end
end L19
end Go.Proofs.YteeienmigoebmaaGreatDoor
