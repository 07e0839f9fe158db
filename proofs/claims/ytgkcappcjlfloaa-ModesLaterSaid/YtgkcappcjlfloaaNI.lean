import Derived.Test.YtgkcappcjlfloaaNG
namespace Go.Proofs.Ytgkcappcjlfloaa
open Go.RowKit

theorem four_num (v : Nat) (hv : v < 4294967296) (r : List UInt8) : num4 (four v ++ r) = v := by
  show (UInt8.ofNat (v / 16777216)).toNat * 16777216 + (UInt8.ofNat (v / 65536)).toNat * 65536 + (UInt8.ofNat (v / 256)).toNat * 256 + (UInt8.ofNat v).toNat = v
  simp
  omega
theorem dec_five {op v : Nat} {r : List UInt8} {u u' : Tm} (h1 : 1 ≤ op) (h2 : op < 160) (hv : v < 4294967296) (hs : stepT u op v = some u') : decT (enc5 op v ++ r) u = decT r u' := by
  show decT (UInt8.ofNat op :: (four v ++ r)) u = _
  have e : (UInt8.ofNat op).toNat = op := by simp; omega
  rw [dec_some (t' := u') (by unfold endB; rw [e]; simp <;> omega) (by simp [four] <;> omega) (by rw [e, four_num v hv]; exact hs)]
  rfl
/-- A setting with the first characters of another one. -/
def uC (t u : Tm) : Nat → Tm
  | 0 => u
  | k + 1 => { uC t u k with c := (uC t u k).c.set (k + 1) (t.c.getD (k + 1) 0) }
theorem uC_rest (t u : Tm) : ∀ k, uC t u k = { u with c := (uC t u k).c }
  | 0 => rfl
  | k + 1 => by
    have h := uC_rest t u k
    simp only [uC]
    rw [h]
theorem uC_len (t : Tm) {u : Tm} (h : u.c.length = 19) : ∀ k, (uC t u k).c.length = 19
  | 0 => h
  | k + 1 => by simp [uC, uC_len t h k]
theorem uC_at (t : Tm) {u : Tm} (h : u.c.length = 19) (i : Nat) : ∀ k, k ≤ 18 → (uC t u k).c[i]? = if 1 ≤ i ∧ i ≤ k then some (t.c.getD i 0) else u.c[i]?
  | 0, _ => by rw [if_neg (by omega)]; rfl
  | k + 1, hk => by
    have hl := uC_len t h k
    simp only [uC]
    by_cases hi : i = k + 1
    · subst hi
      rw [List.getElem?_set_self (by omega), if_pos ⟨by omega, Nat.le_refl _⟩]
    · rw [List.getElem?_set_ne (by omega), uC_at t h i k (by omega)]
      by_cases h2 : 1 ≤ i ∧ i ≤ k
      · rw [if_pos h2, if_pos ⟨h2.1, by omega⟩]
      · rw [if_neg h2, if_neg (by omega)]
theorem uC_all {t u : Tm} (ht : t.c.length = 19) (hu : u.c.length = 19) (h0 : t.c.getD 0 0 = 0) (h1 : u.c.getD 0 0 = 0) : (uC t u 18).c = t.c := by
  apply List.ext_getElem?
  intro i
  rw [uC_at t hu i 18 (Nat.le_refl _)]
  by_cases hi : 1 ≤ i ∧ i ≤ 18
  · rw [if_pos hi, List.getD_eq_getElem?_getD, List.getElem?_eq_getElem (show i < t.c.length by omega)]
    rfl
  · rw [if_neg hi]
    by_cases h2 : i = 0
    · subst h2
      rw [List.getD_eq_getElem?_getD] at h0 h1
      rw [List.getElem?_eq_getElem (show 0 < t.c.length by omega)] at h0 ⊢
      rw [List.getElem?_eq_getElem (show 0 < u.c.length by omega)] at h1 ⊢
      rw [show u.c[0] = 0 from h1, show t.c[0] = 0 from h0]
    · rw [List.getElem?_eq_none (by omega), List.getElem?_eq_none (by omega)]
theorem dec_chars (t u : Tm) : ∀ (k : Nat) (r : List UInt8), k ≤ 18 → decT (chL t k ++ r) u = decT r (uC t u k)
  | 0, r, _ => rfl
  | k + 1, r, hk => by
    rw [chL_step, List.append_assoc, dec_chars t u k _ (by omega)]
    have hl := (t.c.getD (k + 1) 0).toNat_lt
    refine dec_five (by omega) (by omega) (by omega) ?_
    unfold stepT
    rw [if_pos hk, if_neg (by omega), UInt8.ofNat_toNat]
    rfl
/-- A setting with some flags of another one. -/
def uF (t u : Tm) (l : List Fl) : Tm := { u with f := l.foldl (fun f x => setN f x.1 (hasN t.f x.1)) u.f }
theorem dec_flags (t : Tm) : ∀ (l : List Fl) (u : Tm) (r : List UInt8), decT (flL t l ++ r) u = decT r (uF t u l)
  | [], u, r => rfl
  | x :: l, u, r => by
    have e : flL t (x :: l) ++ r = flE t x ++ (flL t l ++ r) := by unfold flL; rw [List.flatMap_cons, List.append_assoc]
    rw [e]
    have hr := flag_rng x.2
    have hx : ((x.1.toNat : Nat) : Int) = x.1 := by omega
    unfold flE
    rw [dec_five (u' := setT u x.1 (hasN t.f x.1)) (by omega) (by omega) (by split <;> omega) ?_, dec_flags t l]
    · rfl
    · unfold stepT
      rw [if_neg (by omega), if_neg (by omega), if_neg (by omega), hx]
      congr 2
      cases hasN t.f x.1 <;> rfl
theorem fold_lt (t : Tm) : ∀ (l : List Fl) (f : Nat), f < 18446744073709551616 → l.foldl (fun f x => setN f x.1 (hasN t.f x.1)) f < 18446744073709551616
  | [], _f, h => h
  | _x :: l, _f, h => fold_lt t l _ (setN_lt h _ _)
theorem fold_bit (t : Tm) (i : Nat) : ∀ (l : List Fl) (f : Nat), f < 18446744073709551616 → (l.foldl (fun f x => setN f x.1 (hasN t.f x.1)) f).testBit i = if ∃ x ∈ l, kb x.1 = i then t.f.testBit i else f.testBit i
  | [], f, _ => by simp
  | x :: l, f, h => by
    rw [List.foldl_cons, fold_bit t i l _ (setN_lt h _ _), setN_bit h]
    by_cases h1 : ∃ y ∈ l, kb y.1 = i
    · obtain ⟨y, hy, hk⟩ := h1
      rw [if_pos ⟨y, hy, hk⟩, if_pos ⟨y, by simp [hy], hk⟩]
    · rw [if_neg h1]
      by_cases h2 : kb x.1 = i
      · rw [if_pos ⟨x.2, h2⟩, if_pos ⟨x, by simp, h2⟩]
        unfold hasN
        rw [x.2, h2]
        rfl
      · rw [if_neg (fun h => h2 h.2), if_neg]
        rintro ⟨y, hy, hk⟩
        rcases List.mem_cons.1 hy with rfl | hy
        · exact h2 hk
        · exact h1 ⟨y, hy, hk⟩
theorem fold_all {t : Tm} {f : Nat} (ht : t.f < 18446744073709551616) (hf : f < 18446744073709551616) (h1 : okF t.f) (h2 : okF f) : flagsF.foldl (fun f x => setN f x.1 (hasN t.f x.1)) f = t.f := by
  refine bits_eq (fold_lt t _ _ hf) ht fun i hi => ?_
  rw [fold_bit t i _ _ hf]
  split
  · rfl
  · rename_i h
    have hn : ¬ flagB ((i : Int) + 30) = true := by
      intro hfl
      have hm := (mem_flags ((i : Int) + 30)).2 hfl
      rw [← flagsF_val] at hm
      obtain ⟨x, hx, he⟩ := List.mem_map.1 hm
      refine h ⟨x, hx, ?_⟩
      unfold kb
      rw [he]
      omega
    rw [okF_iff ht] at h1
    rw [okF_iff hf] at h2
    cases ha : f.testBit i
    · cases hb : t.f.testBit i
      · rfl
      · exact absurd (h1 i hi hb) hn
    · exact absurd (h2 i hi ha) hn
theorem step_in (u : Tm) (n : Nat) : stepT u 128 n = some { u with i := n } := rfl
theorem step_out (u : Tm) (n : Nat) : stepT u 129 n = some { u with o := n } := rfl
theorem dec_speeds (z : Tm) (i o : Nat) (hi : i < 4294967296) (ho : o < 4294967296) (b : List UInt8) : decT (enc5 128 i ++ (enc5 129 o ++ (0 :: b))) z = ({ z with i := i, o := o }, 0) := by
  rw [dec_five (by omega) (by omega) hi (step_in z i), dec_five (by omega) (by omega) ho (step_out _ o)]
  exact dec_end rfl
/-- What is encoded of a right setting is decoded over any right one. -/
theorem back_math {t u : Tm} (ht : t.Ok) (hu : u.Ok) (hr : rightB t = true) (hv : rightB u = true) (b : List UInt8) : decT (encE t ++ b) u = ({ t with m := u.m, s := u.s }, 0) := by
  unfold rightB at hr hv
  simp only [Bool.and_eq_true, decide_eq_true_eq] at hr hv
  unfold encE
  simp only [List.append_assoc]
  rw [dec_chars t u 18 _ (Nat.le_refl _), dec_flags, show ([0] : List UInt8) ++ b = 0 :: b from rfl, dec_speeds _ _ _ ht.i ht.o]
  have h1 := uC_all ht.len hu.len hr.1.1.2 hv.1.1.2
  have h2 := uC_rest t u 18
  have h3 := fold_all ht.f hu.f hr.1.1.1 hv.1.1.1
  rw [h1] at h2
  rw [h2]
  unfold uF
  rw [show ({ u with c := t.c } : Tm).f = u.f from rfl, h3]
theorem right_same {t u : Tm} (hr : rightB t = true) (hv : rightB u = true) : rightB { t with m := u.m, s := u.s } = true := by
  unfold rightB at *
  simp only [Bool.and_eq_true] at *
  exact ⟨⟨hr.1.1, hv.1.2⟩, hv.2⟩
theorem cs_setm {t : Tm} (h : t.c.length = 19) (n : Int) : t.cs.setIfInBounds 22 (.int .i64 n) = ({ t with m := n } : Tm).cs := by
  rw [← Array.toList_inj]
  simp only [Tm.cs, Tm.cl, Array.toList_setIfInBounds]
  rw [List.set_append_right _ _ (by simp [bv, h])]
  simp [bv, h]
theorem cs_sets {t : Tm} (h : t.c.length = 19) (n : Int) : t.cs.setIfInBounds 23 (.int .i64 n) = ({ t with s := n } : Tm).cs := by
  rw [← Array.toList_inj]
  simp only [Tm.cs, Tm.cl, Array.toList_setIfInBounds]
  rw [List.set_append_right _ _ (by simp [bv, h])]
  simp [bv, h]
theorem box_m {w : World} {g : Nat} {t : Tm} (ht : t.c.length = 19) (h : Box w g 26 t.cs) (n : Int) : Box (w.setCell ⟨g, 22, none⟩ (.int .i64 n)) g 26 ({ t with m := n } : Tm).cs := by
  have h1 := h.store 22 (.int .i64 n)
  rwa [cs_setm ht] at h1
theorem box_s {w : World} {g : Nat} {t : Tm} (ht : t.c.length = 19) (h : Box w g 26 t.cs) (n : Int) : Box (w.setCell ⟨g, 23, none⟩ (.int .i64 n)) g 26 ({ t with s := n } : Tm).cs := by
  have h1 := h.store 23 (.int .i64 n)
  rwa [cs_sets ht] at h1
theorem own_base {w : World} {b b' : Nat} {e : TypeId} {z k : Nat} {v : Value} {xs : List Value} (h : w.ownsRow b e z v k xs) (hb : b' ≤ b) : w.ownsRow b' e z v k xs := by
  obtain ⟨h1, h2 | ⟨g, cap, cur, h3, h4, h5⟩⟩ := h
  · exact ⟨h1, Or.inl h2⟩
  · exact ⟨h1, Or.inr ⟨g, cap, cur, h3, Nat.le_trans hb h4, h5⟩⟩
theorem right_b (w : World) {t : Tm} (ht : t.Ok) {b : Bool} (hb : rightB t = b) : Calls Try.prog 18 #[.agg t.cs] w fun e w' => e = .returned (.bool b) ∧ Hid (Below w.heap.size w w') := by
  subst hb
  exact right_any w t ht
/-- A setting is told in any world that has grown. -/
theorem enc_grow (u W : World) (hb : Below u.heap.size u W) (t : Tm) (ht : t.Ok) (l : List UInt8) (hl : Hid (encE t = l)) :
    Calls Try.prog 25 #[.agg t.cs] W fun e w' => ∃ A n c, e = .returned (.slice A n c) ∧ Hid (l.length = n) ∧ Hid (w'.ownsRow u.heap.size 5 1 (.slice A n c) n (bv l)) ∧ Below u.heap.size u w' ∧ Below W.heap.size W w' ∧ ∀ g, isB W g = true → isB w' g = true := by
  refine (encode_own W t ht).mono ?_
  rw [hl.out]
  rintro e w' ⟨A, n, c, rfl, h1, h2, h3⟩
  exact ⟨A, n, c, rfl, hid h1, hid (own_base h2 hb.size), hb.trans (h3.mono hb.size), h3, fun g hg => isB_below hg h3⟩
section
variable {dst : Option Tmp} {x y : Operand} {ty : TypeId} {pos : String} {after : Array Edge} {gd : Option (Nat × Bool)}
theorem ex_st26 {ev : Operand → Value} {w : World} (h1 : isP (ev x) = true) (h2 : isB w (blkV (ev x)) = true) (h3 : okS (ev y) = true) :
    (execOp ev { dst, op := .store 26 x y, type := ty, pos, after, guard := gd }).run Try.prog w = .ok .skip (w.setRow (blkV (ev x)) (aggV (ev y))) := by
  obtain ⟨hb, hs⟩ := isB_box h2
  have hx := isP_eq h1
  unfold okS at h3
  simp only [Bool.and_eq_true, decide_eq_true_eq] at h3
  obtain ⟨⟨h4, h5⟩, h6⟩ := h3
  have hy := isA_eq h4
  generalize blkV (ev x) = g at *
  generalize aggV (ev y) = cs at *
  unfold execOp
  simp only [hx, hy, Instr.storeAt, Instr.sureAddr, Sem.run_bind, Sem.run_pure, Result.andThen_ok, run_storeVar_row (P := Try.prog) w g 26 26 _ cs hb (by rw [h5]; exact Try.size26) (by rw [hs, h5]) h6]
end
theorem bel_row {u W : World} {g : Nat} {cs : Array Value} (h : Below u.heap.size u W) (hg : u.heap.size ≤ g) : Below u.heap.size u (W.setRow g cs) := h.trans ((Turn.setRow W g cs).below hg)
theorem bel_cell {u W : World} {g i : Nat} {v : Value} (h : Below u.heap.size u W) (hg : u.heap.size ≤ g) : Below u.heap.size u (W.setCell ⟨g, i, none⟩ v) := h.trans ((Turn.setCell W g i v).below hg)
/-- Behind the two stores. -/
theorem fin_two {w u W : World} {g g3 : Nat} {t x : Tm} {m s : Int} {cs : Array Value} (ht : t.c.length = 19) (hx : Hid (({ t with m := m, s := s } : Tm) = x)) (hT : Hid (Box u g 26 t.cs)) (hY : Hid (Box u g3 26 cs)) (hne : g3 ≠ g) (hk : Hid (Below w.heap.size w u)) (hg : w.heap.size ≤ g) (hW : (u.setCell ⟨g, 22, none⟩ (.int .i64 m)).setCell ⟨g, 23, none⟩ (.int .i64 s) = W) :
    Hid (Box W g 26 x.cs) ∧ Hid (Box W g3 26 cs) ∧ Hid (Below w.heap.size w W) := by
  subst hW
  have h1 := box_m ht hT.out m
  have h2 := box_s (t := { t with m := m }) ht h1 s
  rw [← hx.out]
  exact ⟨hid h2, hid ((Turn.setCell _ g 23 _).box ((Turn.setCell _ g 22 _).box hY.out hne) hne), hid (bel_cell (bel_cell hk.out hg) hg)⟩
attribute [local go_sem ↓] ex_ld26 ex_st26
attribute [local go_sem] isP_v blkV_v aggV_v
set_option maxRecDepth 100000 in
set_option maxHeartbeats 8000000 in
theorem back_walk (w : World) (t u : Tm) (ht : t.Ok) (hu : u.Ok) (A : Option Addr) (c n : Nat) (bs : List UInt8) (hb : Hid (SlB w w.heap.size A c bs)) (hn : bs.length = n) :
    Calls Try.prog 6 #[.agg t.cs, .agg u.cs, .slice A n c] w fun e w' => e = .returned (.bool true) ∧ Hid (Below w.heap.size w w') := by
  have hst := cs_size ht.len
  have hsu := cs_size hu.len
  have T0 : Hid (Box ((w.alloc (.cells t.cs 26)).alloc (.cells u.cs 26)) w.heap.size 26 t.cs) := hid (box_below (Box.new w 26 _) ((Below.refl _ _).alloc (Nat.le_refl _) _))
  have U0 : Hid (Box ((w.alloc (.cells t.cs 26)).alloc (.cells u.cs 26)) (w.heap.size + 1) 26 u.cs) := hid (by have h := Box.new (w.alloc (.cells t.cs 26)) 26 u.cs; rwa [World.size_alloc] at h)
  have K0 : Hid (Below w.heap.size w ((w.alloc (.cells t.cs 26)).alloc (.cells u.cs 26))) := hid (((Below.refl _ w).alloc (Nat.le_refl _) _).alloc (by simp) _)
  obtain ⟨g2, hg2⟩ : ∃ z, z = w.heap.size + 1 := ⟨_, rfl⟩
  rw [← hg2] at U0
  have HG2 := hid hg2
  cases hr : rightB t
  · go_enter Try.func6, Try.ntmps6
    go_wp2_with (first
      | (refine bx26 (by rfl) _ (by rfl) _ (by rfl) hst ?_
         intro _)
      | (refine bx26 (by rfl) _ (by rfl) _ (by rfl) hsu ?_
         intro _)
      | (go_at_call 9
         (with_reducible refine (call_alive5 _).mono ?_)
         rintro e u1 ⟨rfl, k⟩
         have T1 := hid (box_below T0.out k.out)
         have K1 := bel_t K0 k.out
         clear k T0 K0)
      | (refine ld26 (by rfl) _ (by rfl) _ (by rfl) t.cs T1.out hst ?_)
      | (go_at_call 18
         (with_reducible refine (right_b _ ht hr).mono ?_)
         rintro e u2 ⟨rfl, k⟩
         have K2 := bel_t K1 k.out
         clear k K1))
    go_ret
    exact ⟨rfl, K2⟩
  · cases hv : rightB u
    · go_enter Try.func6, Try.ntmps6
      go_wp2_with (first
        | (refine bx26 (by rfl) _ (by rfl) _ (by rfl) hst ?_
           intro _)
        | (refine bx26 (by rfl) _ (by rfl) _ (by rfl) hsu ?_
           intro _)
        | (go_at_call 9
           (with_reducible refine (call_alive5 _).mono ?_)
           rintro e u1 ⟨rfl, k⟩
           have T1 := hid (box_below T0.out k.out)
           have U1 := hid (box_below U0.out k.out)
           rw [hg2] at U1
           have K1 := bel_t K0 k.out
           clear k T0 U0 K0)
        | (refine ld26 (by rfl) _ (by rfl) _ (by rfl) t.cs T1.out hst ?_)
        | (refine ld26 (by rfl) _ (by rfl) _ (by rfl) u.cs U2.out hsu ?_)
        | (go_at_call 18
           (first
             | ((with_reducible refine (right_b _ ht hr).mono ?_)
                rintro e u2 ⟨rfl, k⟩
                have U2 := hid (box_below U1.out k.out)
                have K2 := bel_t K1 k.out
                clear k K1 T1 U1)
             | ((with_reducible refine (right_b _ hu hv).mono ?_)
                rintro e u3 ⟨rfl, k⟩
                have K3 := bel_t K2 k.out
                clear k K2 U2))))
      go_ret
      exact ⟨rfl, K3⟩
    · by_cases h1 : 10000 < n
      · have k1 : (10000 : Int) < (n : Int) := by omega
        go_enter Try.func6, Try.ntmps6
        go_wp2_with (first
          | (refine bx26 (by rfl) _ (by rfl) _ (by rfl) hst ?_
             intro _)
          | (refine bx26 (by rfl) _ (by rfl) _ (by rfl) hsu ?_
             intro _)
          | (go_at_call 9
             (with_reducible refine (call_alive5 _).mono ?_)
             rintro e u1 ⟨rfl, k⟩
             have T1 := hid (box_below T0.out k.out)
             have U1 := hid (box_below U0.out k.out)
             rw [hg2] at U1
             have K1 := bel_t K0 k.out
             clear k T0 U0 K0)
          | (refine ld26 (by rfl) _ (by rfl) _ (by rfl) t.cs T1.out hst ?_)
          | (refine ld26 (by rfl) _ (by rfl) _ (by rfl) u.cs U2.out hsu ?_)
          | (go_at_call 18
             (first
               | ((with_reducible refine (right_b _ ht hr).mono ?_)
                  rintro e u2 ⟨rfl, k⟩
                  have U2 := hid (box_below U1.out k.out)
                  have T2 := hid (box_below T1.out k.out)
                  have K2 := bel_t K1 k.out
                  clear k K1 T1 U1)
               | ((with_reducible refine (right_b _ hu hv).mono ?_)
                  rintro e u3 ⟨rfl, k⟩
                  have K3 := bel_t K2 k.out
                  clear k K2 U2 T2))))
        go_ret
        exact ⟨rfl, K3⟩
      · have k1 : ¬ (10000 : Int) < (n : Int) := by omega
        go_enter Try.func6, Try.ntmps6
        go_wp2_with (first
          | (refine bx26 (by rfl) _ (by rfl) _ (by rfl) hst ?_
             intro _)
          | (refine bx26 (by rfl) _ (by rfl) _ (by rfl) hsu ?_
             intro _)
          | (go_at_call 9
             (with_reducible refine (call_alive5 _).mono ?_)
             rintro e u1 ⟨rfl, k⟩
             have T1 := hid (box_below T0.out k.out)
             have U1 := hid (box_below U0.out k.out)
             rw [hg2] at U1
             have K1 := bel_t K0 k.out
             clear k T0 U0 K0)
          | (refine ld26 (by rfl) _ (by rfl) _ (by rfl) t.cs T1.out hst ?_)
          | (refine ld26 (by rfl) _ (by rfl) _ (by rfl) u.cs U2.out hsu ?_)
          | (go_at_call 18
             (first
               | ((with_reducible refine (right_b _ ht hr).mono ?_)
                  rintro e u2 ⟨rfl, k⟩
                  have U2 := hid (box_below U1.out k.out)
                  have T2 := hid (box_below T1.out k.out)
                  have K2 := bel_t K1 k.out
                  clear k K1 T1 U1)
               | ((with_reducible refine (right_b _ hu hv).mono ?_)
                  rintro e u3 ⟨rfl, k⟩
                  have U3 := hid (box_below U2.out k.out)
                  have T3 := hid (box_below T2.out k.out)
                  have K3 := bel_t K2 k.out
                  clear k K2 U2 T2))))
        have L3 := slb_at hb K3
        obtain ⟨l, hl⟩ : ∃ l, Hid (encE t = l) := ⟨_, hid rfl⟩
        have hll : l.length = 281 := by rw [← hl.out]; exact encE_len t
        obtain ⟨x, hx⟩ : ∃ x : Tm, Hid (({ t with m := u.m, s := u.s } : Tm) = x) := ⟨_, hid rfl⟩
        have hd : Hid (decT (l ++ bs) u = (x, 0)) := hid (by rw [← hl.out, back_math ht hu hr hv, hx.out])
        have hxo : Hid x.Ok := hid (by rw [← hx.out]; exact ⟨ht.len, ht.f, ht.i, ht.o, hu.m, hu.s⟩)
        have hxr : rightB x = true := by rw [← hx.out]; exact right_same hr hv
        have bz : ∀ W, Below u3.heap.size u3 W → (isB W w.heap.size = true ∧ cs26 W w.heap.size = t.cs) ∧ (isB W (w.heap.size + 1) = true ∧ cs26 W (w.heap.size + 1) = u.cs) := fun W h => ⟨⟨isB_mk (box_below T3.out h) hst, cs26_of (box_below T3.out h)⟩, ⟨isB_mk (box_below U3.out h) hsu, cs26_of (box_below U3.out h)⟩⟩
        obtain ⟨r8, r9⟩ := okS_cs hxo.out.len
        clear hg2
        go_region_held3 (fun W => (isB W w.heap.size = true ∧ cs26 W w.heap.size = t.cs) ∧ (isB W (w.heap.size + 1) = true ∧ cs26 W (w.heap.size + 1) = u.cs)) (exact bz _ (by repeat (first | exact Below.refl _ _ | exact b7 | exact b6 | exact b5 | exact Nat.le_refl _ | exact b7.size | exact b6.size | exact b5.size | with_reducible apply bel_dr | with_reducible apply bel_al | with_reducible apply bel_row))) ((first
          | (go_at_call 25
             (with_reducible refine (enc_grow u3 _ ?b1 t ht l hl).mono ?_)
             case b1 => repeat (first | exact Below.refl _ _ | with_reducible apply bel_dr | with_reducible apply bel_al)
             rintro e u5 ⟨A5, n5, c5, rfl, hn5, o5, b5, d5, z5⟩
             first | have z5a := z5 u3.heap.size (isB_nw rfl) | have z5a := z5 u3.heap.size (isB_dr (isB_nw rfl)) | skip)
          | (refine step_more u3 u5 rfl (.tmp 26) (.tmp 27) rfl A5 n5 c5 l rfl o5 ?e1 ?e2 A n c bs rfl L3 hn (by have := hn5.out; omega) ?_
             case e1 => repeat (first | exact Below.refl _ _ | with_reducible apply bel_dr | with_reducible apply bel_al)
             case e2 => repeat (first | exact b5 | with_reducible apply bel_dr | with_reducible apply bel_al)
             intro A6 c6 u6 b6 o6 z6
             first | have z6a := z6 u3.heap.size z5a | have z6a := z6 u3.heap.size (isB_al z5a) | skip
             first | have z6b := z6 u5.heap.size (isB_nw rfl) | skip)
          | (go_at_call 22
             (with_reducible refine (dec_own u3 u6 _ ?c1 ?c2 A6 (n5 + n) c6 (l ++ bs) o6 (by rw [List.length_append, hn5.out, hn]) hu hd.out).mono ?_)
             case c1 => repeat (first | exact b6 | with_reducible apply bel_dr | with_reducible apply bel_al)
             case c2 => repeat (first | exact Below.refl _ _ | with_reducible apply bel_dr | with_reducible apply bel_al)
             rintro e u7 ⟨rfl, b7, z7⟩
             first | have z7a := z7 u3.heap.size z6a | have z7a := z7 u3.heap.size (isB_al z6a) | skip
             first | have z7b := z7 u5.heap.size z6b | have z7b := z7 u5.heap.size (isB_al z6b) | skip
             first | have z7c := z7 u6.heap.size (isB_nw rfl) | skip
             have z7d := isB_nw (w := u7) rfl)))
        all_goals
          clear bz r8 r9
          generalize hW : World.setRow _ _ _ = u11
          obtain ⟨b11, y11⟩ := fin_reg (u := u3) hW (by repeat (first | exact b7 | with_reducible apply bel_dr | with_reducible apply bel_al)) (by first | exact Nat.le_refl _ | exact b7.size | exact b6.size | exact b5.size) (by first | exact z7a | exact z7b | exact z7c | exact z7d | exact isB_al z7a | exact isB_al z7b | exact isB_al z7c)
          have K11 := bel_t K3 b11
          have T11 := hid (box_below T3.out b11)
          have U11 := hid (box_below U3.out b11)
          have Y11 := hid y11
          have T3l := T3.out.lt
          have q0 : u11.cell? ⟨w.heap.size + 1, 22, none⟩ = some (.int .i64 u.m) := (U11.out.cell 22).trans (cs_m hu.len)
          have q1 : u11.cell? ⟨w.heap.size + 1, 23, none⟩ = some (.int .i64 u.s) := (U11.out.cell 23).trans (cs_s hu.len)
          have q2 : u11.cell? ⟨w.heap.size, 22, none⟩ = some (.int .i64 t.m) := (T11.out.cell 22).trans (cs_m ht.len)
          have q3 : u11.cell? ⟨w.heap.size, 23, none⟩ = some (.int .i64 t.s) := (T11.out.cell 23).trans (cs_s ht.len)
          have q4 : u11.frozen? ⟨w.heap.size, 22, none⟩ = false := T11.out.frozen 22
          have q5 : u11.frozen? ⟨w.heap.size, 23, none⟩ = false := T11.out.frozen 23
          have hgg : w.heap.size ≤ w.heap.size := Nat.le_refl _
          clear hW b11 y11
          go_wp2
          go_region
          all_goals
            generalize hW : World.setCell (World.setCell _ _ _) _ _ = u12
            obtain ⟨T12, Y12, K12⟩ := fin_two ht.len hx T11 Y11 (by first | exact Nat.ne_of_gt T3l | exact Nat.ne_of_gt (Nat.lt_of_lt_of_le T3l b7.size) | exact Nat.ne_of_gt (Nat.lt_of_lt_of_le T3l b6.size) | exact Nat.ne_of_gt (Nat.lt_of_lt_of_le T3l b5.size)) K11 hgg hW
            clear hW q0 q1 q2 q3 q4 q5 T11 Y11 U11 K11
            have T12d : Hid (Box u12.drew w.heap.size 26 x.cs) := T12
            have Y12d : Hid (Box u12.drew _ 26 x.cs) := Y12
            have K12d := drw K12
            have hxs := cs_size hxo.out.len
            clear T12 Y12 K12
            go_wp2_with (first
              | (refine ld26 (by rfl) _ (by rfl) _ (by rfl) x.cs Y12d.out hxs ?_)
              | (refine ld26 (by rfl) _ (by rfl) _ (by rfl) x.cs T12d.out hxs ?_)
              | (refine eqw26 (by rfl) _ _ _ (by rfl) x x hxo.out.len hxo.out.len (by rfl) (by rfl) true (eqT_self x) ?_)
              | (go_at_call 18
                 (with_reducible refine (right_b _ hxo.out hxr).mono ?_)
                 rintro e u13 ⟨rfl, k13⟩
                 have K13 := bel_t K12d k13.out
                 clear k13 K12d))
            go_ret
            exact ⟨rfl, K13⟩
end Go.Proofs.Ytgkcappcjlfloaa
