import Derived.Test.YtggcampdkgfmgaaGreatJW
import Derived.Deep.MidRow
namespace Go.Proofs.YtggcampdkgfmgaaGreat
open Go.RowKit

/-! Layer 16: the public calls: Set. -/
theorem but_cells (p : Nat) : ∀ (vs : List Value) (o : Nat) (w : World), ButP (fun x => x = p) w (w.setCells p o vs)
  | [], _, w => ButP.refl _ w
  | v :: r, o, w => ((ButP.refl (fun x => x = p) w).store (.inl rfl) v).trans (but_cells p r (o + 1) _) (fun _ hx => .inl hx)
theorem box_cells (p : Nat) (T : TypeId) (r : List Value) : ∀ (vs old pre : List Value) (w : World), old.length = vs.length → Box w p T (pre ++ (old ++ r)).toArray → Box (w.setCells p pre.length vs) p T (pre ++ (vs ++ r)).toArray
  | [], old, pre, w, hl, hb => by
    obtain rfl : old = [] := List.eq_nil_of_length_eq_zero hl
    exact hb
  | v :: vs, old, pre, w, hl, hb => by
    cases old with
    | nil => simp at hl
    | cons x old =>
      have h1 := hb.store pre.length v
      have e : (pre ++ (x :: old ++ r)).toArray.setIfInBounds pre.length v = ((pre ++ [v]) ++ (old ++ r)).toArray := by simp
      rw [e] at h1
      have h2 := box_cells p T r vs old (pre ++ [v]) _ (by simpa using hl) h1
      rw [List.length_append] at h2
      simpa [World.setCells] using h2
theorem concat3_new (W : World) (g : Nat) (A A2 A3 : Option Addr) (n n2 n3 c c2 c3 : Nat) (xs ys zs : List UInt8) (hg : Box W g 27 #[.slice A n c, .slice A2 n2 c2, .slice A3 n3 c3]) (hx : Hid (SlB W W.heap.size A c xs)) (hy : Hid (SlB W W.heap.size A2 c2 ys)) (hz : Hid (SlB W W.heap.size A3 c3 zs)) (hn : Hid (xs.length = n)) (hn2 : Hid (ys.length = n2)) (hn3 : Hid (zs.length = n3)) (hm : n + n2 + n3 ≤ 1000000) :
    Calls Tryz.prog 73 #[.slice (some ⟨g, 0, none⟩) 3 3] W fun e w' => ∃ A5 n5 c5, e = .returned (.slice A5 n5 c5) ∧ Hid ((xs ++ ys ++ zs).length = n5) ∧ Hid (w'.ownsRow W.heap.size 5 1 (.slice A5 n5 c5) n5 (bv (xs ++ ys ++ zs))) ∧ Hid (Below W.heap.size W w') := by
  obtain rfl := hn.out
  obtain rfl := hn2.out
  obtain rfl := hn3.out
  have hl : LisV W W.heap.size (some ⟨g, 0, none⟩) [xs, ys, zs] := fun _ => by
    refine ⟨g, 0, rfl, hg.lt, fun k hk => ?_⟩
    match k, hk with
    | 0, _ => exact ⟨A, c, (hg.cell 0), hx.out⟩
    | 1, _ => exact ⟨A2, c2, (hg.cell 1), hy.out⟩
    | 2, _ => exact ⟨A3, c3, (hg.cell 2), hz.out⟩
  have hf : [xs, ys, zs].flatten = xs ++ ys ++ zs := by simp
  refine (concat_any W W.heap.size (some ⟨g, 0, none⟩) 3 [xs, ys, zs] hl (Nat.le_refl _) (by show 3 ≤ 1000; decide) (by rw [hf, List.length_append, List.length_append]; omega)).mono ?_
  rw [hf]
  rintro e w' ⟨A5, c5, rfl, ho, hb⟩
  exact ⟨A5, _, c5, rfl, hid rfl, hid ho, hid hb⟩
theorem flat_used (ls : List (List UInt8 × Bool)) : (L13.flatL ls).length ≤ L13.usedL ls := by
  induction ls with
  | nil => exact Nat.le_refl _
  | cons x r ih =>
    simp only [L13.flatL, L13.usedL, List.map_cons, List.flatten_cons, List.sum_cons, List.length_append] at ih ⊢
    omega
theorem used_take (ls : List (List UInt8 × Bool)) (k : Nat) : L13.usedL (ls.take k) ≤ L13.usedL ls := by
  induction ls generalizing k with
  | nil => simp
  | cons x r ih =>
    cases k with
    | zero => simp [L13.usedL]
    | succ k =>
      have := ih k
      simp only [L13.usedL, List.take_succ_cons, List.map_cons, List.sum_cons] at this ⊢
      omega
section
variable {w0 w : World} {p : Nat} {S0 S : Nat → Prop} {D : Ds} {h : Ph}
theorem Wy.set_t (H : Hid (Wy w0 p S0 w S D h)) (ht : D.t.Ok) {t : Tm} (h2 : t.Ok) : Hid (Wy w0 p S0 (w.setCells p 0 t.cl) S { D with t := t } h) := by
  have K := H.out.at_
  have k := but_cells p t.cl 0 w
  have hb : Box (w.setCells p 0 t.cl) p 45 (tmV t (dRest { D with t := t } h)) := box_cells p _ (dRest { D with t := t } h) t.cl D.t.cl [] w (by rw [cl_len ht.len, cl_len h2.len]) K.box
  have hz := k.size
  exact hid ⟨K.re k hb (fun _ h => h) (fun x hx => Nat.lt_of_lt_of_le (K.top x hx) hz) K.line K.sl K.raw K.sr K.out K.so K.lsv K.lsq K.row K.txt, H.out.new, H.out.but.trans k (fun x hx => by subst hx; exact H.out.new _ K.sp)⟩
theorem Wy.there (H : Hid (Wy w0 p S0 w S D h)) (ht : D.t.Ok) : w.there p 0 24 := fun j hj => by
  rw [Nat.zero_add]
  refine ⟨?_, Wy.fz H j⟩
  rw [H.out.at_.box.cell j]
  have hs := tmV_size ht (dRest D h)
  rw [Array.getElem?_eq_getElem (by rw [hs]; omega)]
  rfl
attribute [local go_sem ↓] wp_ldR ex_ldR

def rawD (D : Ds) : Ds := { D with raw := (D.raw ++ L13.flatL D.ls ++ D.line).take 1024, ls := [], line := [], nx := false }
set_option maxRecDepth 100000 in
set_option maxHeartbeats 4000000 in
theorem linesToRaw_d (H : Hid (Wy w0 p S0 w S D h)) (hf : Hid (FitN 3500 D)) {D' : Ds} (hr : Hid (rawD D = D')) :
    Calls Tryz.prog 108 #[.pointer (some ⟨p, 0, none⟩)] w fun e w' => e = .returned (.tuple #[]) ∧ DOut w0 p S0 D' w' := by
  obtain rfl := hr.out
  have ht := hf.out.t
  obtain ⟨ql, hql⟩ : ∃ x, Hid (D.ls.length = x) := ⟨_, hid rfl⟩
  obtain ⟨ll, hll⟩ : ∃ x, Hid (D.line.length = x) := ⟨_, hid rfl⟩
  obtain ⟨rl, hrl⟩ : ∃ x, Hid (D.raw.length = x) := ⟨_, hid rfl⟩
  have b1 : ql ≤ 3500 := by rw [← hql.out]; exact hf.out.ls
  have b2 : ll ≤ 13000 := by rw [← hll.out]; exact hf.out.line
  have b3 : rl ≤ 13000 := by rw [← hrl.out]; exact hf.out.raw
  have hq2 : h.qs.length = ql := (Wy.lsL H).trans hql.out
  have LS := Wy.lsS H
  have hfl : (L13.flatL D.ls).length ≤ 20000 := Nat.le_trans (flat_used _) hf.out.used
  have htk : Hid (∀ k, (L13.flatL (L13.lnR (h.qs.take k))).length ≤ 140737488351232) := hid (fun k => by
    have e : L13.lnR (h.qs.take k) = D.ls.take k := by rw [← H.out.at_.lsq]; simp [L13.lnR, List.map_take]
    rw [e]
    have h1 := flat_used (D.ls.take k)
    have h2 := used_take D.ls k
    have h3 := hf.out.used
    omega)
  have hfe : L13.flatL (L13.lnR h.qs) = L13.flatL D.ls := by rw [H.out.at_.lsq]
  have bz : ∀ W, Below w.heap.size w W → W.cell? ⟨p, 27, none⟩ = some (.slice h.rA rl h.rc) ∧ W.cell? ⟨p, 26, none⟩ = some (.slice h.nA ql h.nc) ∧ W.cell? ⟨p, 24, none⟩ = some (.slice h.lA ll h.lc) := by
    intro W k
    have h1 := Wy.cellW H ht 3 rfl W k
    have h2 := Wy.cellW H ht 2 rfl W k
    have h3 := Wy.cellW H ht 0 rfl W k
    rw [hrl.out] at h1
    rw [hql.out] at h2
    rw [hll.out] at h3
    exact ⟨h1, h2, h3⟩
  go_enter Tryz.func108, Tryz.ntmps108
  go_upto_region 0 with fail
  go_cut [2] (fun a wx => ∃ A n c, a = .slice A n c ∧ Hid ((D.raw ++ L13.flatL D.ls ++ D.line).length = n) ∧ Hid (SlB wx wx.heap.size A c (D.raw ++ L13.flatL D.ls ++ D.line)) ∧ Hid (∀ a, A = some a → w.heap.size ≤ a.block) ∧ Hid (Wy w0 p S0 wx S D h))
  case first =>
    go_region_held3 (fun W => W.cell? ⟨p, 27, none⟩ = some (.slice h.rA rl h.rc) ∧ W.cell? ⟨p, 26, none⟩ = some (.slice h.nA ql h.nc) ∧ W.cell? ⟨p, 24, none⟩ = some (.slice h.lA ll h.lc)) (exact bz _ (by repeat (first | exact Below.refl _ _ | exact d5 | exact d3 | with_reducible apply bel_dr | with_reducible apply bel_al))) ((first
      | (go_at_call 143
         (with_reducible refine (L13.flatp_any _ h.nA ql h.nc h.qs (L13.ln_up LS (by repeat (first | exact Below.refl _ _ | with_reducible apply bel_dr | with_reducible apply bel_al))) hq2 (by omega) htk).mono ?_)
         rw [hfe]
         rintro e w3 ⟨A3, n3, c3, rfl, N3, O3, k3⟩
         have d3 : Below w.heap.size w w3 := bel_via k3 (by repeat (first | exact Below.refl _ _ | with_reducible apply bel_dr | with_reducible apply bel_al))
         have e3 : n3 ≤ 20000 := by rw [← N3.out]; exact hfl
         have kx : Below w3.heap.size w3 (w3.alloc (.cells #[.slice h.rA rl h.rc, .slice A3 n3 c3, .slice h.lA ll h.lc] 27)) := (Below.refl _ _).alloc (Nat.le_refl _) _
         have X3 := slb_up (slb_own N3 O3) kx
         have Y3 := slb_up (slb_up (Wy.rawS H) d3) kx
         have Z3 := slb_up (slb_up (Wy.lineS H) d3) kx
         have HX := hid (Box.new w3 27 #[.slice h.rA rl h.rc, .slice A3 n3 c3, .slice h.lA ll h.lc])
         have d4 : Below w.heap.size w (w3.alloc (.cells #[.slice h.rA rl h.rc, .slice A3 n3 c3, .slice h.lA ll h.lc] 27)) := d3.trans (kx.mono d3.size)
         clear kx)
      | (go_at_call 73
         (with_reducible refine (concat3_new _ _ h.rA A3 h.lA rl n3 ll h.rc c3 h.lc D.raw (L13.flatL D.ls) D.line HX.out Y3 X3 Z3 hrl N3 hll (by omega)).mono ?_)
         rintro e w5 ⟨A5, n5, c5, rfl, N5, O5, k5⟩
         have d5 : Below w.heap.size w w5 := bel_via k5 d4)))
    all_goals
      go_wp2_with fail
      go_meet
      exact ⟨A5, n5, c5, rfl, N5, slb_own N5 O5, hid (fun a ha => by subst ha; exact Nat.le_trans d4.size (O5.out.lt a.block rfl).1), Wy.bel H d5⟩
  case rest =>
  obtain ⟨A5, n5, c5, rfl, N5, S5, F5, H5⟩ := hcut
  have hlt := Wy.lt H
  have hFr : ∀ {ne : Prop}, Fr w0 p S A5 ne := fun _ a ha => ⟨.inr (Nat.le_trans H.out.but.size (F5.out a ha)), fun e => by have := F5.out a ha; omega⟩
  obtain ⟨m, hm⟩ : ∃ m, Hid (min n5 1024 = m) := ⟨_, hid rfl⟩
  have hmn : m ≤ n5 := by rw [← hm.out]; omega
  have hmi : min (n5 : Int) 1024 = (m : Int) := by rw [← hm.out]; omega
  have fb := run_front S5.out N5.out hmn
  have hm0 : (0 : Int) ≤ (m : Int) := by omega
  have hm1 : (m : Int) ≤ (n5 : Int) := by omega
  have HT : Hid (((D.raw ++ L13.flatL D.ls ++ D.line).take 1024).length = m) := hid (by rw [List.length_take, N5.out, ← hm.out]; omega)
  have ST : Hid (SlB wc wc.heap.size A5 c5 ((D.raw ++ L13.flatL D.ls ++ D.line).take 1024)) := hid (S5.out.take 1024)
  have z27 := Wy.fz H5 27
  have c27 := Wy.cellW H5 ht 3 rfl wc (Below.refl _ _)
  have z26 := Wy.fz H5 26
  have c26 := Wy.cellW H5 ht 2 rfl wc (Below.refl _ _)
  have z24 := Wy.fz H5 24
  have c24 := Wy.cellW H5 ht 0 rfl wc (Below.refl _ _)
  have z25 := Wy.fz H5 25
  have c25 := Wy.cellW H5 ht 1 rfl wc (Below.refl _ _)
  have H6 := Wy.raw_ H5 ht HT ST hFr
  obtain ⟨S7, H7⟩ := Wy.ls_ H6 ht (qs := []) (n := 0) (c := 0) (hid rfl) (hid rfl) (hid (L13.LnO.nil _ 0 0).ln) Fr.none_ (fun r hr => by cases hr)
  have H8 := Wy.line_ H7 ht (l := []) (n := 0) (hid rfl) (slb_nil0 _) Fr.none_
  have H9 := Wy.nx_ H8 ht false
  clear bz
  by_cases hc : n5 ≤ 1024
  · have hc1 : (n5 : Int) ≤ 1024 := by omega
    obtain rfl : n5 = m := by rw [← hm.out]; omega
    go_wp2_with fail
    go_end0
    exact ⟨rfl, Wy.left H9⟩
  · have hc1 : ¬ (n5 : Int) ≤ 1024 := by omega
    obtain rfl : 1024 = m := by rw [← hm.out]; omega
    have fb1 : ∀ W : World, (Instr.sliceAt 27 (.slice A5 n5 c5) none (some (.int .i64 1024)) none).run Tryz.prog W = .ok (.slice A5 1024 c5) W := fb
    have hm2 : (1024 : Int) ≤ (n5 : Int) := by omega
    clear fb
    go_wp2_with fail
    go_end0
    exact ⟨rfl, Wy.left H9⟩

def linD (D : Ds) : Ds := if D.raw = [] then D else { D with ls := D.ls ++ [(D.raw, true)], raw := [] }
set_option maxRecDepth 100000 in
set_option maxHeartbeats 4000000 in
theorem rawToLines_d (H : Hid (Wy w0 p S0 w S D h)) (hf : Hid (FitN 3500 D)) {D' : Ds} (hr : Hid (linD D = D')) :
    Calls Tryz.prog 109 #[.pointer (some ⟨p, 0, none⟩)] w fun e w' => e = .returned (.tuple #[]) ∧ DOut w0 p S0 D' w' := by
  have ht := hf.out.t
  obtain ⟨ql, hql⟩ : ∃ x, Hid (D.ls.length = x) := ⟨_, hid rfl⟩
  obtain ⟨rl, hrl⟩ : ∃ x, Hid (D.raw.length = x) := ⟨_, hid rfl⟩
  have b1 : ql ≤ 3500 := by rw [← hql.out]; exact hf.out.ls
  have b3 : rl ≤ 13000 := by rw [← hrl.out]; exact hf.out.raw
  have hq2 : h.qs.length = ql := (Wy.lsL H).trans hql.out
  have c27 := Wy.cellW H ht 3 rfl w (Below.refl _ _)
  rw [hrl.out] at c27
  by_cases h0 : rl = 0
  · subst h0
    have hl0 : D.raw = [] := List.eq_nil_of_length_eq_zero hrl.out
    obtain rfl : D = D' := by rw [← hr.out]; unfold linD; rw [if_pos hl0]
    clear hl0
    go_enter Tryz.func109, Tryz.ntmps109
    go_wp2_with fail
    refine bodyPost_ret (results_none rfl _ _ _) rfl ?_
    exact ⟨rfl, Wy.left H⟩
  · have h0i : ((rl : Int) == 0) = false := beq_eq_false_iff_ne.2 (by omega)
    have hne : D.raw ≠ [] := by
      intro e
      apply h0
      rw [← hrl.out, e]
      rfl
    obtain rfl : { D with ls := D.ls ++ [(D.raw, true)], raw := [] } = D' := by rw [← hr.out]; unfold linD; rw [if_neg hne]
    replace hne := hid hne
    have kd : Below w.heap.size w w.drew := bel_dr (Below.refl _ _)
    have k2 : Below w.heap.size w ((w.alloc (.cells #[.slice h.rA rl h.rc, .bool true] 132)).alloc (.cells #[.slice h.nA ql h.nc, .slice (some ⟨w.heap.size, 0, none⟩) 1 1] 41)).drew := bel_dr (((Below.refl _ w).alloc (Nat.le_refl _) _).alloc (by simp) _)
    have Hd := Wy.bel H kd
    have d26 := Wy.cellW Hd ht 2 rfl w.drew (Below.refl _ _)
    have d27 := Wy.cellW Hd ht 3 rfl w.drew (Below.refl _ _)
    rw [hql.out] at d26
    rw [hrl.out] at d27
    have e26 := Wy.cellW H ht 2 rfl (w.alloc (.cells #[.slice h.rA rl h.rc, .bool true] 132)).drew (bel_dr ((Below.refl _ w).alloc (Nat.le_refl _) _))
    rw [hql.out] at e26
    have H2 := Wy.bel H k2
    have G1 : Box ((w.alloc (.cells #[.slice h.rA rl h.rc, .bool true] 132)).alloc (.cells #[.slice h.nA ql h.nc, .slice (some ⟨w.heap.size, 0, none⟩) 1 1] 41)).drew w.heap.size 132 #[.slice h.rA rl h.rc, .bool true] := box_dr (box_al (Box.new w 132 #[.slice h.rA rl h.rc, .bool true]))
    have S2 := slb_up (Wy.rawS H) k2
    have L2 := L13.ln_up (Wy.lsS H) k2
    have HLi0 : Hid (Lies ((w.alloc (.cells #[.slice h.rA rl h.rc, .bool true] 132)).alloc (.cells #[.slice h.nA ql h.nc, .slice (some ⟨w.heap.size, 0, none⟩) 1 1] 41)) ((w.alloc (.cells #[.slice h.rA rl h.rc, .bool true] 132)).alloc (.cells #[.slice h.nA ql h.nc, .slice (some ⟨w.heap.size, 0, none⟩) 1 1] 41)).heap.size (some ⟨w.heap.size + 1, 0, none⟩) ([(⟨h.nA, h.nc, h.qs⟩ : L13.Sr), ⟨some ⟨w.heap.size, 0, none⟩, 1, [⟨h.rA, h.rc, D.raw, true⟩]⟩].map L13.Sr.v)) := hid (L13.lies_rows _ _ (by simp) ⟨h.nA, h.nc, h.qs⟩ ⟨some ⟨w.heap.size, 0, none⟩, 1, [⟨h.rA, h.rc, D.raw, true⟩]⟩ _ _ (by unfold L13.Sr.v; rw [hq2]) rfl)
    have HLi : Hid (Lies ((w.alloc (.cells #[.slice h.rA rl h.rc, .bool true] 132)).alloc (.cells #[.slice h.nA ql h.nc, .slice (some ⟨w.heap.size, 0, none⟩) 1 1] 41)).drew ((w.alloc (.cells #[.slice h.rA rl h.rc, .bool true] 132)).alloc (.cells #[.slice h.nA ql h.nc, .slice (some ⟨w.heap.size, 0, none⟩) 1 1] 41)).drew.heap.size (some ⟨w.heap.size + 1, 0, none⟩) ([(⟨h.nA, h.nc, h.qs⟩ : L13.Sr), ⟨some ⟨w.heap.size, 0, none⟩, 1, [⟨h.rA, h.rc, D.raw, true⟩]⟩].map L13.Sr.v)) := HLi0
    have HLn := hid (L13.rows_ln (s1 := ⟨h.nA, h.nc, h.qs⟩) (s2 := ⟨some ⟨w.heap.size, 0, none⟩, 1, [⟨h.rA, h.rc, D.raw, true⟩]⟩) L2.out (L13.ln_litq hrl.out G1 S2.out))
    have hlen : (h.qs ++ [(⟨h.rA, h.rc, D.raw, true⟩ : L13.Rc)]).length = ql + 1 := by rw [List.length_append, hq2]; rfl
    clear G1
    go_enter Tryz.func109, Tryz.ntmps109
    go_upto_region 1 with fail
    go_region_law (first
    | (go_simp
       go_at_call 140
       (with_reducible refine (L13.concatL_two w _ k2 _ _ (ql + 1) ⟨h.nA, h.nc, h.qs⟩ ⟨some ⟨w.heap.size, 0, none⟩, 1, [⟨h.rA, h.rc, D.raw, true⟩]⟩ HLi HLn hlen (by omega)).mono ?_)
       rintro e w5 ⟨A5, c5, rfl, N5, k5, j5⟩
       have H5 := Wy.bel H2 j5
       have z26 := Wy.fz H5 26
       have c26 := Wy.cellW H5 ht 2 rfl w5 (Below.refl _ _)
       have z27 := Wy.fz H5 27
       have c27 := Wy.cellW H5 ht 3 rfl w5 (Below.refl _ _)))
    all_goals
      have Q5 : Hid (L13.lnR (h.qs ++ [(⟨h.rA, h.rc, D.raw, true⟩ : L13.Rc)]) = D.ls ++ [(D.raw, true)]) := hid (by rw [L13.lnR_append, H.out.at_.lsq]; rfl)
      obtain ⟨S6, H6⟩ := Wy.ls_ H5 ht (hid hlen) Q5 (hid N5.out.ln) (Wy.fresh H2 N5.out.row) (fun r hr hn a ha => by
        rcases List.mem_append.1 hr with h1 | h1
        · obtain ⟨h2, h3⟩ := H.out.at_.txt r h1 hn a ha
          exact ⟨.inl h2, h3⟩
        · obtain rfl := List.mem_singleton.1 h1
          obtain ⟨h2, h3⟩ := H.out.at_.sr hn a ha
          exact ⟨.inl h2, h3⟩)
      have H7 := Wy.raw_ H6 ht (l := []) (n := 0) (hid rfl) (slb_nil0 _) Fr.none_
      go_wp2_with fail
      go_end0
      exact ⟨rfl, Wy.left H7⟩

end
end Go.Proofs.YtggcampdkgfmgaaGreat
namespace Go.Proofs.YtggcampdkgfmgaaGreat
open Go.RowKit

/-! Layer 16: the public calls: Set. -/
section
variable {w0 w : World} {p : Nat} {S0 S : Nat → Prop} {D : Ds} {h : Ph}
theorem size26s (t : Tm) (ht : t.c.length = 19) : (Tryz.prog.info? 26).map (·.size) = some t.cs.size := by rw [cs_size ht]; exact Tryz.size26
theorem rightT_is (t : Tm) : rightB t = rightT t := rfl
attribute [local go_sem ↓] wp_ldR ex_ldR ex_ld26
attribute [local go_sem] isP_v blkV_v aggV_v

set_option maxRecDepth 100000 in
set_option maxHeartbeats 4000000 in
theorem setp_any (w : World) (p : Nat) (S : Nat → Prop) (D : Ds) (hD : Hid (DAt w p S D)) (hf : Hid (Fit D)) (t : Tm) (ht2 : t.Ok) {D' : Ds} (hr : Hid (setF D t = D')) {k : Int} (hk : Hid (setE D t = k)) : Calls Tryz.prog 70 #[.pointer (some ⟨p, 0, none⟩), .agg t.cs] w fun e w' => e = .returned (.int .i64 k) ∧ DOut w p S D' w' := by
  obtain ⟨h, H⟩ := Wy.of hD
  have ht := hf.out.t
  have hs := cs_size ht2.len
  have hf1 : Hid (FitN 3500 D) := hid (hf.out.n.up (by omega))
  have hlt := Wy.lt H
  have H1 := Wy.bel H ((Below.refl _ w).alloc (Nat.le_refl _) (.cells t.cs 26))
  have nG : Hid (¬ S w.heap.size) := nots H (Nat.le_refl _)
  cases hR : rightB t
  · have hR2 : rightT t = false := hR
    obtain rfl : 4 = k := by rw [← hk.out]; unfold setE; rw [hR2, if_neg (by decide)]
    obtain rfl : D = D' := by rw [← hr.out]; unfold setF; rw [hR2, if_neg (by decide)]
    go_enter Tryz.func70, Tryz.ntmps70
    go_wp2_with (first
      | (refine bx26 (by rfl) _ (by rfl) _ (by rfl) hs ?_
         intro G0)
      | (refine ld26 (by rfl) _ (by rfl) _ (by rfl) t.cs G0.out hs ?_)
      | (go_at_call 107
         (with_reducible refine (right_any _ t ht2).mono ?_)
         rw [hR]
         rintro e w2 ⟨rfl, k2⟩))
    go_ret
    exact ⟨rfl, Wy.left (Wy.bel H1 k2.out)⟩
  · have hR2 : rightT t = true := hR
    obtain rfl : 0 = k := by rw [← hk.out]; unfold setE; rw [hR2, if_pos rfl]
    obtain ⟨D1, hD1⟩ : ∃ D1, Hid (setD1 D t = D1) := ⟨_, hid rfl⟩
    obtain rfl : { D1 with t := t } = D' := by rw [← hr.out, ← hD1.out]; unfold setF; rw [hR2, if_pos rfl]; rfl
    go_enter Tryz.func70, Tryz.ntmps70
    go_wp2_with (first
      | (refine bx26 (by rfl) _ (by rfl) _ (by rfl) hs ?_
         intro G0)
      | (refine ld26 (by rfl) _ (by rfl) _ (by rfl) t.cs G0.out hs ?_)
      | (go_at_call 107
         (with_reducible refine (right_any _ t ht2).mono ?_)
         rw [hR]
         rintro e w2 ⟨rfl, k2⟩
         have H2 := Wy.bel H1 k2.out
         have G2 := hid (box_below G0.out k2.out)))
    cases hb : D.has 51 <;> cases hi : hasN t.f 51
    all_goals
      have hbb := hid hb
      have hii := hid hi
      clear hb hi
    all_goals
      have bz : ∀ W, Below w2.heap.size w2 W → isB W w.heap.size = true ∧ cs26 W w.heap.size = t.cs := fun W k => box_isB (box_below G2.out k) ht2.len
    case false.false =>
      go_upto_region 5 with fail
      go_cut [5, 6] (fun a b wx => a = .bool false ∧ b = .bool false ∧ Hid (Below w2.heap.size w2 wx))
      case first =>
        go_region_held3 (fun W => isB W w.heap.size = true ∧ cs26 W w.heap.size = t.cs) (exact bz _ (by repeat (first | exact Below.refl _ _ | exact b3 | exact b4 | with_reducible apply bel_dr | with_reducible apply bel_al))) ((first
          | (go_at_call 61
             (with_reducible refine (hasd_b (Wy.bel H2 (by repeat (first | exact Below.refl _ _ | exact b4 | with_reducible apply bel_dr | with_reducible apply bel_al))) ht hbb.out).mono ?_)
             rintro e w3 ⟨rfl, k3⟩
             have b3 : Below w2.heap.size w2 w3 := bel_via k3 (by repeat (first | exact Below.refl _ _ | exact b4 | with_reducible apply bel_dr | with_reducible apply bel_al)))
          | (go_at_call 28
             (with_reducible refine (has_b _ ht2 hii.out).mono ?_)
             rintro e w4 ⟨rfl, k4⟩
             have b4 : Below w2.heap.size w2 w4 := bel_via k4 (by repeat (first | exact Below.refl _ _ | exact b3 | with_reducible apply bel_dr | with_reducible apply bel_al)))))
        all_goals
          go_wp2_with fail
          go_meet
          first
            | exact ⟨rfl, rfl, hid b4⟩
            | exact ⟨rfl, rfl, hid b3⟩
      case rest =>
      obtain ⟨rfl, rfl, K5⟩ := hcut
      have H5 := Wy.bel H2 K5.out
      have G5 := hid (box_below G2.out K5.out)
      have H5r := Wy.self H5
      clear bz
      have hd1 : Hid (D = D1) := hid (by
        rw [← hD1.out]
        unfold setD1
        rw [hbb.out, hii.out]
        simp)
      obtain rfl := hd1.out
      have htd := ht
      
      go_wp2_with (first
        | (refine ld26 (by rfl) _ (by rfl) _ (by rfl) t.cs G5.out hs ?_)
        | (refine wpList_store_mid (by rfl) 26 _ _ (by rfl) p 0 t.cs (by rfl) (by rfl) (by rw [hs]; exact Wy.there H5 htd) (size26s t ht2.len) (cs_one t) ?_))
      go_ret
      exact ⟨rfl, Wy.left (Wy.set_t H5 htd ht2)⟩
    case false.true =>
      go_upto_region 5 with fail
      go_cut [5, 6] (fun a b wx => a = .bool false ∧ b = .bool true ∧ Hid (Below w2.heap.size w2 wx))
      case first =>
        go_region_held3 (fun W => isB W w.heap.size = true ∧ cs26 W w.heap.size = t.cs) (exact bz _ (by repeat (first | exact Below.refl _ _ | exact b3 | exact b4 | with_reducible apply bel_dr | with_reducible apply bel_al))) ((first
          | (go_at_call 61
             (with_reducible refine (hasd_b (Wy.bel H2 (by repeat (first | exact Below.refl _ _ | exact b4 | with_reducible apply bel_dr | with_reducible apply bel_al))) ht hbb.out).mono ?_)
             rintro e w3 ⟨rfl, k3⟩
             have b3 : Below w2.heap.size w2 w3 := bel_via k3 (by repeat (first | exact Below.refl _ _ | exact b4 | with_reducible apply bel_dr | with_reducible apply bel_al)))
          | (go_at_call 28
             (with_reducible refine (has_b _ ht2 hii.out).mono ?_)
             rintro e w4 ⟨rfl, k4⟩
             have b4 : Below w2.heap.size w2 w4 := bel_via k4 (by repeat (first | exact Below.refl _ _ | exact b3 | with_reducible apply bel_dr | with_reducible apply bel_al)))))
        all_goals
          go_wp2_with fail
          go_meet
          first
            | exact ⟨rfl, rfl, hid b4⟩
            | exact ⟨rfl, rfl, hid b3⟩
      case rest =>
      obtain ⟨rfl, rfl, K5⟩ := hcut
      have H5 := Wy.bel H2 K5.out
      have G5 := hid (box_below G2.out K5.out)
      have H5r := Wy.self H5
      clear bz
      have hd1 : Hid (linD D = D1) := hid (by
        rw [← hD1.out]
        unfold setD1 linD
        rw [hbb.out, hii.out]
        by_cases he : D.raw = [] <;> simp [he])
      have htd : D1.t.Ok := by
        rw [← hd1.out]
        unfold linD; split <;> exact ht
      go_wp2_with (first
        | (go_at_call 109
           (with_reducible refine (rawToLines_d H5r hf1 hd1).mono ?_)
           rintro e w6 ⟨rfl, K6⟩
           have G6 := dout_box K6 G5 nG
           obtain ⟨S6, h6, H6⟩ := Wy.next H5 K6)
        | (refine ld26 (by rfl) _ (by rfl) _ (by rfl) t.cs G6.out hs ?_)
        | (refine wpList_store_mid (by rfl) 26 _ _ (by rfl) p 0 t.cs (by rfl) (by rfl) (by rw [hs]; exact Wy.there H6 htd) (size26s t ht2.len) (cs_one t) ?_))
      go_ret
      exact ⟨rfl, Wy.left (Wy.set_t H6 htd ht2)⟩
    case true.false =>
      go_upto_region 5 with fail
      go_cut [5, 6] (fun a b wx => a = .bool true ∧ b = .bool false ∧ Hid (Below w2.heap.size w2 wx))
      case first =>
        go_region_held3 (fun W => isB W w.heap.size = true ∧ cs26 W w.heap.size = t.cs) (exact bz _ (by repeat (first | exact Below.refl _ _ | exact b3 | exact b4 | with_reducible apply bel_dr | with_reducible apply bel_al))) ((first
          | (go_at_call 61
             (with_reducible refine (hasd_b (Wy.bel H2 (by repeat (first | exact Below.refl _ _ | exact b4 | with_reducible apply bel_dr | with_reducible apply bel_al))) ht hbb.out).mono ?_)
             rintro e w3 ⟨rfl, k3⟩
             have b3 : Below w2.heap.size w2 w3 := bel_via k3 (by repeat (first | exact Below.refl _ _ | exact b4 | with_reducible apply bel_dr | with_reducible apply bel_al)))
          | (go_at_call 28
             (with_reducible refine (has_b _ ht2 hii.out).mono ?_)
             rintro e w4 ⟨rfl, k4⟩
             have b4 : Below w2.heap.size w2 w4 := bel_via k4 (by repeat (first | exact Below.refl _ _ | exact b3 | with_reducible apply bel_dr | with_reducible apply bel_al)))))
        all_goals
          go_wp2_with fail
          go_meet
          first
            | exact ⟨rfl, rfl, hid b4⟩
            | exact ⟨rfl, rfl, hid b3⟩
      case rest =>
      obtain ⟨rfl, rfl, K5⟩ := hcut
      have H5 := Wy.bel H2 K5.out
      have G5 := hid (box_below G2.out K5.out)
      have H5r := Wy.self H5
      clear bz
      have hd1 : Hid (rawD D = D1) := hid (by
        rw [← hD1.out]
        unfold setD1 rawD
        rw [hbb.out, hii.out]
        simp)
      have htd : D1.t.Ok := by
        rw [← hd1.out]
        exact ht
      go_wp2_with (first
        | (go_at_call 108
           (with_reducible refine (linesToRaw_d H5r hf1 hd1).mono ?_)
           rintro e w6 ⟨rfl, K6⟩
           have G6 := dout_box K6 G5 nG
           obtain ⟨S6, h6, H6⟩ := Wy.next H5 K6)
        | (refine ld26 (by rfl) _ (by rfl) _ (by rfl) t.cs G6.out hs ?_)
        | (refine wpList_store_mid (by rfl) 26 _ _ (by rfl) p 0 t.cs (by rfl) (by rfl) (by rw [hs]; exact Wy.there H6 htd) (size26s t ht2.len) (cs_one t) ?_))
      go_ret
      exact ⟨rfl, Wy.left (Wy.set_t H6 htd ht2)⟩
    case true.true =>
      go_upto_region 5 with fail
      go_cut [5, 6] (fun a b wx => a = .bool true ∧ b = .bool true ∧ Hid (Below w2.heap.size w2 wx))
      case first =>
        go_region_held3 (fun W => isB W w.heap.size = true ∧ cs26 W w.heap.size = t.cs) (exact bz _ (by repeat (first | exact Below.refl _ _ | exact b3 | exact b4 | with_reducible apply bel_dr | with_reducible apply bel_al))) ((first
          | (go_at_call 61
             (with_reducible refine (hasd_b (Wy.bel H2 (by repeat (first | exact Below.refl _ _ | exact b4 | with_reducible apply bel_dr | with_reducible apply bel_al))) ht hbb.out).mono ?_)
             rintro e w3 ⟨rfl, k3⟩
             have b3 : Below w2.heap.size w2 w3 := bel_via k3 (by repeat (first | exact Below.refl _ _ | exact b4 | with_reducible apply bel_dr | with_reducible apply bel_al)))
          | (go_at_call 28
             (with_reducible refine (has_b _ ht2 hii.out).mono ?_)
             rintro e w4 ⟨rfl, k4⟩
             have b4 : Below w2.heap.size w2 w4 := bel_via k4 (by repeat (first | exact Below.refl _ _ | exact b3 | with_reducible apply bel_dr | with_reducible apply bel_al)))))
        all_goals
          go_wp2_with fail
          go_meet
          first
            | exact ⟨rfl, rfl, hid b4⟩
            | exact ⟨rfl, rfl, hid b3⟩
      case rest =>
      obtain ⟨rfl, rfl, K5⟩ := hcut
      have H5 := Wy.bel H2 K5.out
      have G5 := hid (box_below G2.out K5.out)
      have H5r := Wy.self H5
      clear bz
      have hd1 : Hid (D = D1) := hid (by
        rw [← hD1.out]
        unfold setD1
        rw [hbb.out, hii.out]
        simp)
      obtain rfl := hd1.out
      have htd := ht
      
      go_wp2_with (first
        | (refine ld26 (by rfl) _ (by rfl) _ (by rfl) t.cs G5.out hs ?_)
        | (refine wpList_store_mid (by rfl) 26 _ _ (by rfl) p 0 t.cs (by rfl) (by rfl) (by rw [hs]; exact Wy.there H5 htd) (size26s t ht2.len) (cs_one t) ?_))
      go_ret
      exact ⟨rfl, Wy.left (Wy.set_t H5 htd ht2)⟩

end
end Go.Proofs.YtggcampdkgfmgaaGreat
