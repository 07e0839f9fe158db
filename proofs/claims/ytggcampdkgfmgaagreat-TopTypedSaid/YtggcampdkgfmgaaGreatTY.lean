import Derived.Test.YtggcampdkgfmgaaGreatTX
import Derived.Test.YtggcampdkgfmgaaGreatQK
namespace Go.Proofs.YtggcampdkgfmgaaGreat
open Go.RowKit

/-! The Tops of layer 17: plainSet, plainText, opened; what is killed. -/
/-- All of it, typed. -/
def inAll (D : Ds) (b : List UInt8) : Ds := b.foldl (fun D c => (inputD D c).1) D
theorem Inv.inAll {D : Ds} (h : Inv D) : ∀ b : List UInt8, Inv (inAll D b)
  | [] => h
  | c :: r => (h.input c).inAll r
theorem Inv.used {D : Ds} (h : Inv D) : usedD D ≤ 2303 := by
  have h1 := h.line
  have h2 := h.ls
  have h3 := h.raw
  unfold usedD
  omega
theorem typeM_inv : ∀ (b : List UInt8) {D : Ds}, Inv D → (typeM D b).1 = inAll D b ∧ (typeM D b).2.1 = b.length
  | [], _, _ => ⟨rfl, rfl⟩
  | c :: r, D, h => by
    have h1 := h.used
    have h2 := typeM_inv r (h.input c)
    unfold typeM
    rw [if_neg (by omega)]
    exact ⟨h2.1, by show (typeM (inputD D c).1 r).2.1 + 1 = _; rw [h2.2, List.length_cons]⟩
def opP : List Int := [33, 37, 31, 34, 35, 39]
theorem opP_at {k : Nat} (hk : k < 6) : (#[.int .i64 33, .int .i64 37, .int .i64 31, .int .i64 34, .int .i64 35, .int .i64 39] : Array Value)[k]? = some (.int .i64 (opP.getD k 0)) := by
  match k, hk with
  | 0, _ => rfl
  | 1, _ => rfl
  | 2, _ => rfl
  | 3, _ => rfl
  | 4, _ => rfl
  | 5, _ => rfl
def tP (t : Tm) : Tm := setK (setT t 51 true) opP false 6
theorem tP_T {t : Tm} (ht : t.Ok) : (tP t).Ok ∧ hasN (tP t).f 51 = true ∧ hasN (tP t).f 33 = false ∧ hasN (tP t).f 37 = false ∧ hasN (tP t).f 31 = false ∧ hasN (tP t).f 34 = false ∧ hasN (tP t).f 39 = false := by
  have k0 := setT_ok ht 51 true
  have h0 := set_has ht 51 true (by decide)
  unfold tP
  generalize setT t 51 true = u at k0 h0 ⊢
  have h1 := setK_out k0 (ops := opP) false (by decide) (op := 51) (by decide) (by decide) 6 (by decide)
  exact ⟨setK_ok k0 _ _ _, h1.trans h0, setK_in k0 false (by decide) (by decide) 6 (by decide) (by decide), setK_in k0 false (by decide) (by decide) 6 (by decide) (by decide), setK_in k0 false (by decide) (by decide) 6 (by decide) (by decide), setK_in k0 false (by decide) (by decide) 6 (by decide) (by decide), setK_in k0 false (by decide) (by decide) 6 (by decide) (by decide)⟩
set_option maxRecDepth 100000 in
set_option maxHeartbeats 4000000 in
theorem plainSet_any (w : World) (t : Tm) (ht : t.Ok) : Calls Tryz.prog 51 #[.agg t.cs] w fun e w' => e = .returned (.agg (tP t).cs) ∧ Hid (Below w.heap.size w w') := by
  have hs := cs_size ht.len
  have H0 := hid (Pair.new w t)
  have hz : Hid (Tm.zero.cs.size = 24) := hid (cs_size rfl)
  have ok51 := setT_ok ht 51 true
  go_enter Tryz.func51, Tryz.ntmps51
  go_wp2_with (first
    | (refine bx26 (by rfl) _ (by rfl) _ (by rfl) hs ?_
       intro _)
    | (refine ld26 (by rfl) _ (by rfl) _ (by rfl) t.cs H0.out.boxT hs ?_)
    | (go_at_call 16
       (with_reducible refine (set_any _ t ht 51 true).mono ?_)
       rintro e u1 ⟨rfl, K1⟩
       have H1 := hid (H0.out.grow K1.out)
       clear H0 K1)
    | (refine st26 (by rfl) _ _ (by rfl) _ (by rfl) (setT t 51 true) ok51.len (by rfl) _ H1.out.boxT hs ?_
       intro u2 hb2 ht2
       have H2 := hid (H1.out.turnT ht2.out hb2.out)
       clear H1 hb2 ht2)
    | (refine wpList_build_at rfl 48 _ rfl #[.int .i64 33, .int .i64 37, .int .i64 31, .int .i64 34, .int .i64 35, .int .i64 39] ?hc ?_
       case hc => kernel_rfl))
  obtain ⟨t4, ht4⟩ : ∃ t4, Hid (setT t 51 true = t4) := ⟨_, hid rfl⟩
  rw [ht4.out] at H2 ok51
  obtain ⟨gr, hgr⟩ : ∃ g, w.heap.size + 1 = g := ⟨_, rfl⟩
  rw [hgr] at H2 ⊢
  clear hgr
  go_loopg [8] 6 (fun gk i wr => ∃ k : Nat, k + gk = 6 ∧ i = .int .i64 k ∧ Hid (Pair w wr w.heap.size gr (setK t4 opP false k) Tm.zero))
  case atStart => exact ⟨0, by omega, rfl, H2⟩
  case round =>
    clear H2
    obtain ⟨k, hk, rfl, H3⟩ := hrel
    have hjs : (setK t4 opP false k).cs.size = 24 := cs_size (setK_ok ok51 _ _ k).len
    by_cases hlt : k < 6
    · have hki : (k : Int) < 6 := by omega
      have hix := index_int Tryz.underlying48 hlt (opP_at hlt)
      generalize hop : opP.getD k 0 = op at hix
      have HOP := hid hop
      clear hop
      go_wp2_with (first
        | (refine ld26 (by rfl) _ (by rfl) _ (by rfl) _ H3.out.boxT hjs ?_)
        | (go_at_call 16
           (with_reducible refine (set_any _ (setK t4 opP false k) (setK_ok ok51 _ _ k) op false).mono ?_)
           rintro e u4 ⟨rfl, k4⟩
           have H4 := hid (H3.out.grow k4.out)
           clear k4 H3)
        | (refine st26 (by rfl) _ _ (by rfl) _ (by rfl) (setT (setK t4 opP false k) op false) (setT_ok (setK_ok ok51 _ _ k) _ _).len (by rfl) _ H4.out.boxT hjs ?_
           intro u5 X5 k5
           have H5 := hid (H4.out.turnT k5.out X5.out)
           clear X5 k5 H4))
      go_roundg (gk - 1)
      case measure => omega
      case rel =>
        rw [← HOP.out] at H5
        exact ⟨k + 1, by omega, by go_num, H5⟩
    · obtain rfl : k = 6 := by omega
      have hki : ¬ ((6 : Nat) : Int) < 6 := by omega
      have e6 : setK t4 opP false 6 = tP t := by rw [← ht4.out]; rfl
      rw [e6] at H3 hjs
      have ok6 : (tP t).Ok := (tP_T ht).1
      go_wp2_with (first
        | (refine ld26 (by rfl) _ (by rfl) _ (by rfl) _ H3.out.boxT hjs ?_)
        | (refine st26 (by rfl) _ _ (by rfl) _ (by rfl) (tP t) ok6.len (by rfl) _ H3.out.boxR hz.out ?_
           intro u5 X5 k5
           have H5 := hid (H3.out.turnR k5.out X5.out)))
      refine bodyPost_ret (results26 rfl _ _ _ (tP t) ok6.len rfl H5.out.boxR) rfl ?_
      exact ⟨rfl, hid H5.out.bel⟩
/-- A byte of a plain text. -/
def Txt (t : Tm) (y : UInt8) : Prop := (y = 10 ∨ (32 ≤ y.toNat ∧ y.toNat ≤ 126)) ∧ ∀ op : Int, 1 ≤ op → op ≤ 18 → L15.isC t op y = false
theorem Txt.plain {t : Tm} {y : UInt8} (h : Txt t y) : y = 10 ∨ PlainC t y := by
  by_cases h10 : y = 10
  · exact .inl h10
  · refine .inr ⟨h10, ?_, h.2⟩
    rintro rfl
    rcases h.1 with h1 | h1
    · exact absurd h1 (by decide)
    · exact absurd h1.1 (by decide)
def PTxt (t : Tm) (bs : List UInt8) : Prop := bs.length ≤ 200 ∧ (∀ op : Int, 1 ≤ op → op ≤ 18 → L15.isC t op 10 = false) ∧ ∀ y ∈ bs, y = 10 ∨ PlainC t y
def TT (t : Tm) (bs : List UInt8) : Prop := bs.length ≤ 200 ∧ ∀ y ∈ [10] ++ bs, Txt t y
theorem TT.p {t : Tm} {bs : List UInt8} (h : TT t bs) : PTxt t bs := ⟨h.1, (h.2 10 (by simp)).2, fun y hy => (h.2 y (by simp [hy])).plain⟩
def RetT (w : World) (t : Tm) (bs : List UInt8) (e : Ending) (w' : World) : Prop := ∃ b, e = .returned (.bool b) ∧ Hid (b = true ↔ TT t bs) ∧ Hid (Below w.heap.size w w')
theorem lit_own1 (w : World) (y : UInt8) : Hid ((w.alloc (.cells #[.int .u8 (y.toNat : Int)] 5)).ownsRow 0 5 1 (.slice (some ⟨w.heap.size, 0, none⟩) 1 1) 1 (bv [y])) :=
  hid (World.ownsRow_lit w #[.int .u8 (y.toNat : Int)] 1 (Nat.zero_le _) (by unfold maxLen; decide) rfl)
set_option maxRecDepth 100000 in
set_option maxHeartbeats 4000000 in
theorem plainText_any (w : World) (t : Tm) (ht : t.Ok) (A : Option Addr) (n c : Nat) (bs : List UInt8) (hb : Hid (SlB w w.heap.size A c bs)) (hn : Hid (bs.length = n)) : Calls Tryz.prog 52 #[.agg t.cs, .slice A n c] w (RetT w t bs) := by
  have hs := cs_size ht.len
  have K0 := old26 w t
  go_enter Tryz.func52, Tryz.ntmps52
  go_upto_region 1 with (first
    | (refine bx26 (by rfl) _ (by rfl) _ (by rfl) hs ?_
       intro G0))
  by_cases h200 : 200 < n
  · have h2 : (n : Int) > 200 := by omega
    have h3 : 200 < n := h200
    go_wp2_with fail
    go_ret
    exact ⟨false, rfl, hid ⟨(fun h => by cases h), fun h => by have := h.1; have := hn.out; omega⟩, K0⟩
  have h2 : ¬ (n : Int) > 200 := by omega
  go_upto_region 3 with fail
  obtain ⟨v, hv⟩ : ∃ v, v = w.alloc (.cells t.cs 26) := ⟨_, rfl⟩
  have L0 := slb_at hb K0
  have ht10 : n ≤ 200 := by omega
  rw [← hv] at G0 K0 L0 ⊢
  clear hv h2 h200
  obtain ⟨u, hu⟩ : ∃ u, u = v.alloc (.cells #[.int .u8 10] 5) := ⟨_, rfl⟩
  have O1 : Hid (u.ownsRow 0 5 1 (.slice (some ⟨v.heap.size, 0, none⟩) 1 1) 1 (bv [10])) := by rw [hu]; exact lit_own1 v 10
  have KU : Hid (Below v.heap.size v u) := hid (by rw [hu]; exact (Below.refl _ _).alloc (Nat.le_refl _) _)
  have L1 := slb_at L0 KU
  obtain ⟨N, hN⟩ : ∃ N, 1 + n = N := ⟨_, rfl⟩
  go_upto_region 4 with (first
    | (at_builtin
       rw [← hu]
       refine app_but u rfl _ _ rfl 1 1 _ [10] (by rfl) O1 A n c bs (by rfl) L1 hn.out (by omega) ?_
       intro A5 c5 u5 O5 B5 F5))
  have G5 : Hid (Box u5 w.heap.size 26 t.cs) := hid (B5.out.box (box_below G0.out KU.out) (by rintro ⟨q, hq, e⟩; injection hq with hq; subst hq; have h1 := G0.out.lt; have e : v.heap.size = w.heap.size := e; omega))
  have K5 : Hid (Below w.heap.size w u5) := hid ((K0.out.trans (KU.out.mono K0.out.size)).trans (B5.out.below (Nat.le_trans K0.out.size KU.out.size) (by rintro x ⟨q, hq, rfl⟩; injection hq with hq; subst hq; exact K0.out.size)))
  rw [hN] at O5
  have hNl : Hid (([10] ++ bs).length = N) := hid (by rw [List.length_append, hn.out, ← hN]; rfl)
  have S5 : Hid (SlB u5 u5.heap.size A5 c5 ([10] ++ bs)) := own0_slb hNl O5
  clear O5 B5 F5 G0 K0 L0 L1 O1 KU hu
  go_loopg [15] N (fun gk i wr => ∃ k : Nat, k + gk = N ∧ i = .int .i64 k ∧ Hid (∀ (j : Nat) (y : UInt8), j < k → ([10] ++ bs)[j]? = some y → Txt t y) ∧ Hid (Below u5.heap.size u5 wr))
  case atStart => exact ⟨0, by omega, rfl, hid (fun j y hj => by omega), hid (Below.refl _ _)⟩
  case round =>
    obtain ⟨k, hk, rfl, HC, K6⟩ := hrel
    by_cases hlt : k < N
    · have hki : (k : Int) < (N : Int) := by omega
      have S6 := slb_at S5 K6
      obtain ⟨b0, o0, y, hA, hy, cy⟩ := slb_cell S6.out hNl.out hlt
      subst hA
      have HY := hid hy
      have hyt := y.toNat_lt
      clear hy
      go_upto_region 6 with fail
      by_cases hq : y = 10 ∨ (32 ≤ y.toNat ∧ y.toNat ≤ 126)
      · go_cut [28] (fun a wx => a = .bool false ∧ Hid (Below wr.heap.size wr wx))
        case first =>
          rcases hq with h10 | ⟨h32, h126⟩
          · have q1 : ((y.toNat : Int) == 10) = true := by rw [h10]; rfl
            have q2 : ((y.toNat : Int) != 10) = false := by rw [bne, q1]; rfl
            clear h10
            go_wp2_with fail
            go_meet
            exact ⟨rfl, hid (Below.refl _ _)⟩
          · have q3 : ¬ (y.toNat : Int) < 32 := by omega
            have q4 : ¬ (y.toNat : Int) > 126 := by omega
            have q5 : ¬ y.toNat < 32 := by omega
            have q6 : ¬ 126 < y.toNat := by omega
            by_cases h10 : y = 10
            · have q1 : ((y.toNat : Int) == 10) = true := by rw [h10]; rfl
              have q2 : ((y.toNat : Int) != 10) = false := by rw [bne, q1]; rfl
              clear h10
              go_wp2_with fail
              go_meet
              exact ⟨rfl, hid (Below.refl _ _)⟩
            · have q1 : ((y.toNat : Int) == 10) = false := u8_ne h10
              have q2 : ((y.toNat : Int) != 10) = true := by rw [bne, q1]; rfl
              clear h10
              go_wp2_with fail
              go_meet
              exact ⟨rfl, hid (Below.refl _ _)⟩
        case rest =>
        obtain ⟨rfl, K7⟩ := hcut
        have HQ := hid hq
        clear hq
        obtain ⟨v7, hv7⟩ : ∃ x, x = wc := ⟨_, rfl⟩
        subst hv7
        have K8 : Hid (Below u5.heap.size u5 v7) := hid (K6.out.trans (K7.out.mono K6.out.size))
        clear K6 K7 cy S6
        obtain ⟨gK, rfl⟩ : ∃ gK, gK = gk := ⟨_, rfl⟩
        go_wp2_with fail
        go_loopg [7] 18 (fun gk i wr => ∃ m : Nat, m + gk = 18 ∧ i = .int .i64 ((m : Int) + 1) ∧ Hid (∀ j, j < m → L15.isC t ((j : Int) + 1) y = false) ∧ Hid (Below u5.heap.size u5 wr))
        case atStart => exact ⟨0, by omega, rfl, hid (fun j hj => by omega), K8⟩
        case round =>
          clear K8
          obtain ⟨m, hm, rfl, HD, K9⟩ := hrel
          have G9 := hid (box_below G5.out K9.out)
          by_cases hlt : m < 18
          · have hki : (m : Int) + 1 ≤ 18 := by omega
            cases hc : L15.isC t ((m : Int) + 1) y
            · go_wp2_with (first
                | (refine ld26 (by rfl) _ (by rfl) _ (by rfl) t.cs G9.out hs ?_)
                | (go_at_call 18
                   (with_reducible refine (L15.isp_b _ t ht _ y hc).mono ?_)
                   rintro e u2 ⟨rfl, k2⟩
                   have K2 := bel_t K9 k2.out))
              go_roundg (gk - 1)
              case measure => omega
              case rel => exact ⟨m + 1, by omega, by go_num, hid (fun j hj => by
                by_cases e : j = m
                · subst e; exact hc
                · exact HD.out j (by omega)), K2⟩
            · go_wp2_with (first
                | (refine ld26 (by rfl) _ (by rfl) _ (by rfl) t.cs G9.out hs ?_)
                | (go_at_call 18
                   (with_reducible refine (L15.isp_b _ t ht _ y hc).mono ?_)
                   rintro e u2 ⟨rfl, k2⟩
                   have K2 := bel_t K9 k2.out))
              go_ret
              exact ⟨false, rfl, hid ⟨(fun h => by cases h), fun h => by have h1 := (h.2 y (List.mem_of_getElem? HY.out)).2 ((m : Int) + 1) (by omega) (by omega); rw [hc] at h1; cases h1⟩, hid (K5.out.trans (K2.out.mono K5.out.size))⟩
          · obtain rfl : m = 18 := by omega
            have hki : ¬ ((18 : Nat) : Int) + 1 ≤ 18 := by omega
            go_wp2_with fail
            go_roundg (gK - 1)
            case measure => omega
            case rel => exact ⟨k + 1, by omega, by go_num, hid (fun j z hj hz => by
              by_cases e : j = k
              · subst e
                rw [HY.out] at hz
                injection hz with hz
                subst hz
                exact ⟨HQ.out, fun op ho hp => by
                  have := HD.out (op - 1).toNat (by omega)
                  rwa [show ((op - 1).toNat : Int) + 1 = op by omega] at this⟩
              · exact HC.out j z (by omega) hz), K9⟩
      · have h10 : ¬ y = 10 := fun h => hq (.inl h)
        have hnq := hid hq
        have q1 : ((y.toNat : Int) == 10) = false := u8_ne h10
        have q2 : ((y.toNat : Int) != 10) = true := by rw [bne, q1]; rfl
        by_cases h32 : y.toNat < 32
        · have q3 : (y.toNat : Int) < 32 := by omega
          clear hq h10
          go_wp2_with fail
          go_ret
          exact ⟨false, rfl, hid ⟨(fun h => by cases h), fun h => absurd (h.2 y (List.mem_of_getElem? HY.out)).1 hnq.out⟩, hid (K5.out.trans (K6.out.mono K5.out.size))⟩
        · have q3 : ¬ (y.toNat : Int) < 32 := by omega
          have q4 : (y.toNat : Int) > 126 := by omega
          have q5 : 126 < y.toNat := by omega
          clear hq h10
          go_wp2_with fail
          go_ret
          exact ⟨false, rfl, hid ⟨(fun h => by cases h), fun h => absurd (h.2 y (List.mem_of_getElem? HY.out)).1 hnq.out⟩, hid (K5.out.trans (K6.out.mono K5.out.size))⟩
    · obtain rfl : k = N := by omega
      have hki : ¬ (k : Int) < (k : Int) := by omega
      go_wp2_with fail
      go_ret
      refine ⟨true, rfl, hid ⟨fun _ => ⟨by rw [hn.out]; exact ht10, fun y hy => ?_⟩, fun _ => rfl⟩, hid (K5.out.trans (K6.out.mono K5.out.size))⟩
      obtain ⟨j, hj⟩ := List.mem_iff_getElem?.1 hy
      have hjl := (List.getElem?_eq_some_iff.1 hj).1
      exact HC.out j y (by have := hNl.out; omega) hj
/-- Whether it is one. -/
def TB (b : Bool) (t : Tm) (bs : List UInt8) : Prop := b = true ↔ TT t bs
theorem plainText_b (w : World) (t : Tm) (ht : t.Ok) (A : Option Addr) (n c : Nat) (bs : List UInt8) (hb : Hid (SlB w w.heap.size A c bs)) (hn : Hid (bs.length = n)) {b : Bool} (h : Hid (TB b t bs)) : Calls Tryz.prog 52 #[.agg t.cs, .slice A n c] w fun e w' => e = .returned (.bool b) ∧ Hid (Below w.heap.size w w') := by
  refine (plainText_any w t ht A n c bs hb hn).mono ?_
  rintro e w' ⟨b2, rfl, h2, k⟩
  refine ⟨?_, k⟩
  have h3 : b2 = true ↔ b = true := h2.out.trans h.out.symm
  congr 2
  cases b2 <;> cases b <;> simp_all
theorem tt_b (t : Tm) (bs : List UInt8) : ∃ b : Bool, Hid (TB b t bs) := ⟨@decide (TT t bs) (Classical.propDecidable _), hid (by unfold TB; simp)⟩
set_option maxRecDepth 100000 in
theorem opened_any (w : World) (t : Tm) (ht : t.Ok) : Calls Tryz.prog 53 #[.agg t.cs] w fun e w' => ∃ g p S, e = .returned (.tuple #[.pointer (some ⟨g, 0, none⟩), .bool true]) ∧ Hid (AlP w w' g p S { newPt t ⟨0, 0, 0, 0⟩ with sl := 1 }) := by
  have hs := cs_size ht.len
  have K0 := old26 w t
  have cP : ∀ W, Calls Tryz.prog 39 #[.agg t.cs, .agg #[.int .u32 0, .int .u32 0, .int .u32 0, .int .u32 0]] W fun e w' => ∃ g p S, e = .returned (.pointer (some ⟨g, 0, none⟩)) ∧ Hid (AlP W w' g p S (newPt t ⟨0, 0, 0, 0⟩)) := fun W => newpt_any W t ht ⟨0, 0, 0, 0⟩
  have hop : Hid (openP (newPt t ⟨0, 0, 0, 0⟩) = ({ newPt t ⟨0, 0, 0, 0⟩ with sl := 1 }, 0)) := hid (by
    have h : wrap64 ((0 : Int) + 1) = 1 := by decide +kernel
    unfold openP newPt
    rw [if_neg (by show ¬ false = true; decide)]
    dsimp only
    rw [h])
  go_enter Tryz.func53, Tryz.ntmps53
  go_wp2_with (first
    | (refine bx26 (by rfl) _ (by rfl) _ (by rfl) hs ?_
       intro G0)
    | (refine ld26 (by rfl) _ (by rfl) _ (by rfl) t.cs G0.out hs ?_)
    | (refine wpList_build_at rfl 90 _ rfl #[.int .u32 0, .int .u32 0, .int .u32 0, .int .u32 0] ?hc ?_
       case hc => kernel_rfl)
    | (go_at_call 39
       (with_reducible refine (cP _).mono ?_)
       rintro e v3 ⟨g1, p1, S1, rfl, H3⟩)
    | (go_at_call 40
       (with_reducible refine (open_any (AlP.py H3) hop).mono ?_)
       rintro e v5 ⟨rfl, O5⟩
       obtain ⟨S5, H5, -⟩ := H3.out.nextO O5))
  go_ret2
  exact ⟨g1, p1, S5, rfl, hid ⟨H5.out.at_, fun x hx => Nat.le_trans K0.out.size (H5.out.new x hx), K0.out.trans (H5.out.bel.mono K0.out.size)⟩⟩
end Go.Proofs.YtggcampdkgfmgaaGreat
