import Derived.Test.YtggcampdkgfmgaaGreatJY
import Derived.Deep.DeepCutAuto
namespace Go.Proofs.YtggcampdkgfmgaaGreat
open Go.RowKit

/-! LdiscErases. -/
theorem flag_at {ops : List Int} (hf : ops.all flagB = true) {k : Nat} (hk : k < ops.length) : flagB (ops.getD k 0) = true := by
  rw [List.all_eq_true] at hf
  rw [List.getD_eq_getElem?_getD, List.getElem?_eq_getElem hk]
  exact hf _ (List.getElem_mem hk)
theorem setK_in {t : Tm} (ht : t.Ok) {ops : List Int} (on : Bool) (hf : ops.all flagB = true) {op : Int} (h2 : flagB op = true) : ∀ k, k ≤ ops.length → op ∈ ops.take k → hasN (setK t ops on k).f op = on
  | 0, _, h => by simp at h
  | k + 1, hk, h => by
    show hasN (setT (setK t ops on k) (ops.getD k 0) on).f op = on
    by_cases e : ops.getD k 0 = op
    · rw [e]
      exact set_has (setK_ok ht ops on k) op on h2
    · rw [set_keeps (setK_ok ht ops on k) on (flag_at hf (by omega)) e h2]
      refine setK_in ht on hf h2 k (by omega) ?_
      rw [List.take_succ_eq_append_getElem (by omega)] at h
      rcases List.mem_append.1 h with h | h
      · exact h
      · exfalso
        apply e
        rw [List.getD_eq_getElem?_getD, List.getElem?_eq_getElem (by omega)]
        exact (List.mem_singleton.1 h).symm
theorem setK_out {t : Tm} (ht : t.Ok) {ops : List Int} (on : Bool) (hf : ops.all flagB = true) {op : Int} (h2 : flagB op = true) (hn : op ∉ ops) : ∀ k, k ≤ ops.length → hasN (setK t ops on k).f op = hasN t.f op
  | 0, _ => rfl
  | k + 1, hk => by
    show hasN (setT (setK t ops on k) (ops.getD k 0) on).f op = _
    have e : ops.getD k 0 ≠ op := by
      rw [List.getD_eq_getElem?_getD, List.getElem?_eq_getElem (by omega)]
      rintro e
      exact hn (e ▸ List.getElem_mem (by omega))
    rw [set_keeps (setK_ok ht ops on k) on (flag_at hf (by omega)) e h2]
    exact setK_out ht on hf h2 hn k (by omega)
def opE1 : List Int := [51, 53, 54, 60]
def opE2 : List Int := [33, 37, 31, 71, 42, 39]
def tE (t : Tm) : Tm := setK (setK t opE1 true 4) opE2 false 6
theorem tE_ok {t : Tm} (ht : t.Ok) : (tE t).Ok := setK_ok (setK_ok ht _ _ _) _ _ _
theorem tE_on {t : Tm} (ht : t.Ok) {op : Int} (h : op ∈ opE1) (h2 : flagB op = true) (h3 : op ∉ opE2) : hasN (tE t).f op = true := by
  unfold tE
  rw [setK_out (setK_ok ht _ _ _) false (by decide) h2 h3 6 (by decide)]
  exact setK_in ht true (by decide) h2 4 (by decide) h
theorem tE_off {t : Tm} (ht : t.Ok) {op : Int} (h : op ∈ opE2) (h2 : flagB op = true) : hasN (tE t).f op = false :=
  setK_in (setK_ok ht _ _ _) false (by decide) h2 6 (by decide) h
theorem e1_at {k : Nat} (hk : k < 4) : (#[.int .i64 51, .int .i64 53, .int .i64 54, .int .i64 60] : Array Value)[k]? = some (.int .i64 (opE1.getD k 0)) := by
  match k, hk with
  | 0, _ => rfl
  | 1, _ => rfl
  | 2, _ => rfl
  | 3, _ => rfl
theorem e2_at {k : Nat} (hk : k < 6) : (#[.int .i64 33, .int .i64 37, .int .i64 31, .int .i64 71, .int .i64 42, .int .i64 39] : Array Value)[k]? = some (.int .i64 (opE2.getD k 0)) := by
  match k, hk with
  | 0, _ => rfl
  | 1, _ => rfl
  | 2, _ => rfl
  | 3, _ => rfl
  | 4, _ => rfl
  | 5, _ => rfl
theorem prn_i {c : UInt8} (h1 : ¬ (c.toNat : Int) < 32) (h2 : ¬ (127 : Int) ≤ (c.toNat : Int)) : Prn c := ⟨by omega, by omega⟩
set_option maxRecDepth 100000 in
set_option maxHeartbeats 8000000 in
theorem erases_walk (w : World) (t : Tm) (ht : t.Ok) (A : Option Addr) (c n : Nat) (bs : List UInt8) (hb : Hid (SlB w w.heap.size A c bs)) (hn : Hid (bs.length = n)) :
    Calls Tryz.prog 4 #[.agg t.cs, .slice A n c] w fun e w' => e = .returned (.bool true) ∧ Hid (Below w.heap.size w w') := by
  have hs := cs_size ht.len
  have K0 := old26 w t
  go_enter Tryz.func4, Tryz.ntmps4
  go_wp2_with (first
    | (refine bx26 (by rfl) _ (by rfl) _ (by rfl) hs ?_
       intro G0)
    | (go_at_call 15
       (with_reducible refine (alive_any _).mono ?_)
       rintro e u1 ⟨rfl, k⟩
       have G1 := hid (box_below G0.out k.out)
       have K1 := bel_t K0 k.out
       clear k G0 K0)
    | (refine wpList_build_at rfl 47 _ rfl #[.int .i64 51, .int .i64 53, .int .i64 54, .int .i64 60] ?hc ?_
       case hc => kernel_rfl))
  obtain ⟨g, hg⟩ : ∃ g, Hid (w.heap.size = g) := ⟨_, hid rfl⟩
  go_loopg [20] 4 (fun gk i wr => ∃ k : Nat, k + gk = 4 ∧ i = .int .i64 k ∧ Hid (Box wr w.heap.size 26 (setK t opE1 true k).cs) ∧ Hid (Below w.heap.size w wr))
  case atStart => exact ⟨0, by omega, rfl, G1, K1⟩
  case round =>
    obtain ⟨k, hk, rfl, X3, K3⟩ := hrel
    have hjs : (setK t opE1 true k).cs.size = 24 := cs_size (setK_ok ht _ _ k).len
    by_cases hlt : k < 4
    · have hki : (k : Int) < 4 := by omega
      have hix := index_int Tryz.underlying47 hlt (e1_at hlt)
      generalize hop : opE1.getD k 0 = op at hix
      have HOP := hid hop
      clear hop
      go_wp2_with (first
        | (refine ld26 (by rfl) _ (by rfl) _ (by rfl) _ X3.out hjs ?_)
        | (go_at_call 16
           (with_reducible refine (set_any _ (setK t opE1 true k) (setK_ok ht _ _ k) op true).mono ?_)
           rintro e u4 ⟨rfl, k4⟩
           have X4 := hid (box_below X3.out k4.out)
           have K4 := bel_t K3 k4.out
           clear k4 X3 K3)
        | (refine st26 (by rfl) _ _ (by rfl) _ (by rfl) (setT (setK t opE1 true k) op true) (setT_ok (setK_ok ht _ _ k) _ _).len (by rfl) _ X4.out hjs ?_
           intro u5 X5 k5
           have K5 := hid (K4.out.trans (k5.out.below (Nat.le_refl _)))
           clear k5 X4 K4))
      go_roundg (gk - 1)
      case measure => omega
      case rel =>
        rw [← HOP.out] at X5
        exact ⟨k + 1, by omega, by go_num, X5, K5⟩
    · obtain rfl : k = 4 := by omega
      have hki : ¬ ((4 : Nat) : Int) < 4 := by omega
      go_wp2_with (first
        | (refine wpList_build_at rfl 48 _ rfl #[.int .i64 33, .int .i64 37, .int .i64 31, .int .i64 71, .int .i64 42, .int .i64 39] ?hc ?_
           case hc => kernel_rfl))
      obtain ⟨t4, ht4⟩ : ∃ t4, Hid (setK t opE1 true 4 = t4) := ⟨_, hid rfl⟩
      have ok4 : t4.Ok := ht4.out ▸ setK_ok ht _ _ 4
      rw [ht4.out] at X3
      clear hki hk hlt
      go_loopg [28] 6 (fun gk i wr => ∃ k : Nat, k + gk = 6 ∧ i = .int .i64 k ∧ Hid (Box wr w.heap.size 26 (setK t4 opE2 false k).cs) ∧ Hid (Below w.heap.size w wr))
      case atStart => exact ⟨0, by omega, rfl, X3, K3⟩
      case round =>
        clear X3 K3
        obtain ⟨k, hk, rfl, X3, K3⟩ := hrel
        have hjs : (setK t4 opE2 false k).cs.size = 24 := cs_size (setK_ok ok4 _ _ k).len
        by_cases hlt : k < 6
        · have hki : (k : Int) < 6 := by omega
          have hix := index_int Tryz.underlying48 hlt (e2_at hlt)
          generalize hop : opE2.getD k 0 = op at hix
          have HOP := hid hop
          clear hop
          go_wp2_with (first
            | (refine ld26 (by rfl) _ (by rfl) _ (by rfl) _ X3.out hjs ?_)
            | (go_at_call 16
               (with_reducible refine (set_any _ (setK t4 opE2 false k) (setK_ok ok4 _ _ k) op false).mono ?_)
               rintro e u4 ⟨rfl, k4⟩
               have X4 := hid (box_below X3.out k4.out)
               have K4 := bel_t K3 k4.out
               clear k4 X3 K3)
            | (refine st26 (by rfl) _ _ (by rfl) _ (by rfl) (setT (setK t4 opE2 false k) op false) (setT_ok (setK_ok ok4 _ _ k) _ _).len (by rfl) _ X4.out hjs ?_
               intro u5 X5 k5
               have K5 := hid (K4.out.trans (k5.out.below (Nat.le_refl _)))
               clear k5 X4 K4))
          go_roundg (gk - 1)
          case measure => omega
          case rel =>
            rw [← HOP.out] at X5
            exact ⟨k + 1, by omega, by go_num, X5, K5⟩
        · obtain rfl : k = 6 := by omega
          have hki : ¬ ((6 : Nat) : Int) < 6 := by omega
          obtain ⟨t6, ht6⟩ : ∃ t6, Hid (tE t = t6) := ⟨_, hid rfl⟩
          have e6 : setK t4 opE2 false 6 = t6 := by rw [← ht6.out, ← ht4.out]; rfl
          have ok6 : t6.Ok := ht6.out ▸ tE_ok ht
          have hon : Hid (∀ op, op ∈ opE1 → flagB op = true → op ∉ opE2 → hasN t6.f op = true) := hid (fun op h1 h2 h3 => ht6.out ▸ tE_on ht h1 h2 h3)
          have hoff : Hid (∀ op, op ∈ opE2 → flagB op = true → hasN t6.f op = false) := hid (fun op h1 h2 => ht6.out ▸ tE_off ht h1 h2)
          have hs6 := cs_size ok6.len
          rw [e6] at X3
          clear e6 hjs hlt hk ok4 ht4
          cases h3 : chB t6 3
          · obtain ⟨x, hx⟩ : ∃ x, chV t6 3 = x := ⟨_, rfl⟩
            go_wp2_with (first
              | (refine ld26 (by rfl) _ (by rfl) _ (by rfl) _ X3.out hs6 ?_)
              | (go_at_call 23
                 (with_reducible refine (char_any _ t6 ok6 3).mono ?_)
                 rw [h3, hx]
                 rintro e u4 ⟨rfl, k4⟩
                 have X4 := hid (box_below X3.out k4.out)
                 have K4 := bel_t K3 k4.out
                 clear k4 X3 K3))
            go_ret
            exact ⟨rfl, K4⟩
          · obtain ⟨x, hx⟩ : ∃ x, chV t6 3 = x := ⟨_, rfl⟩
            have HE : Hid (L15.isC t6 3 x = true) := hid (by unfold L15.isC; rw [h3, hx]; simp)
            by_cases h200 : 200 < n
            · have hki2 : (n : Int) > 200 := by omega
              go_wp2_with (first
                | (refine ld26 (by rfl) _ (by rfl) _ (by rfl) _ X3.out hs6 ?_)
                | (go_at_call 23
                   (with_reducible refine (char_any _ t6 ok6 3).mono ?_)
                   rw [h3, hx]
                   rintro e u4 ⟨rfl, k4⟩
                   have X4 := hid (box_below X3.out k4.out)
                   have K4 := bel_t K3 k4.out
                   clear k4 X3 K3))
              go_ret
              exact ⟨rfl, K4⟩
            · have hki2 : ¬ (n : Int) > 200 := by omega
              by_cases h10 : x = 10
              · have q10 : ((x.toNat : Int) == 10) = true := by rw [h10]; rfl
                go_wp2_with (first
                  | (refine ld26 (by rfl) _ (by rfl) _ (by rfl) _ X3.out hs6 ?_)
                  | (go_at_call 23
                     (with_reducible refine (char_any _ t6 ok6 3).mono ?_)
                     rw [h3, hx]
                     rintro e u4 ⟨rfl, k4⟩
                     have X4 := hid (box_below X3.out k4.out)
                     have K4 := bel_t K3 k4.out
                     clear k4 X3 K3))
                go_ret
                exact ⟨rfl, K4⟩
              · have q10 : ((x.toNat : Int) == 10) = false := u8_ne h10
                by_cases h13 : x = 13
                · have q13 : ((x.toNat : Int) == 13) = true := by rw [h13]; rfl
                  go_wp2_with (first
                    | (refine ld26 (by rfl) _ (by rfl) _ (by rfl) _ X3.out hs6 ?_)
                    | (go_at_call 23
                       (with_reducible refine (char_any _ t6 ok6 3).mono ?_)
                       rw [h3, hx]
                       rintro e u4 ⟨rfl, k4⟩
                       have X4 := hid (box_below X3.out k4.out)
                       have K4 := bel_t K3 k4.out
                       clear k4 X3 K3))
                  go_ret
                  exact ⟨rfl, K4⟩
                · have q13 : ((x.toNat : Int) == 13) = false := u8_ne h13
                  go_wp2_with (first
                    | (refine ld26 (by rfl) _ (by rfl) _ (by rfl) _ X3.out hs6 ?_)
                    | (go_at_call 23
                       (with_reducible refine (char_any _ t6 ok6 3).mono ?_)
                       rw [h3, hx]
                       rintro e u4 ⟨rfl, k4⟩
                       have X4 := hid (box_below X3.out k4.out)
                       have K4 := bel_t K3 k4.out
                       clear k4 X3 K3))
                  clear q10 q13 hki2 hx h3
                  go_loopg [11] 18 (fun gk i wr => ∃ k : Nat, k + gk = 18 ∧ i = .int .i64 ((k : Int) + 1) ∧ Hid (∀ j, j < k → j ≠ 2 → L15.isC t6 ((j : Int) + 1) x = false) ∧ Hid (Box wr w.heap.size 26 t6.cs) ∧ Hid (Below w.heap.size w wr))
                  case atStart => exact ⟨0, by omega, rfl, hid (fun j hj => by omega), X4, K4⟩
                  case round =>
                    clear X4 K4
                    obtain ⟨k, hk, rfl, HC, X4, K4⟩ := hrel
                    by_cases hlt : k < 18
                    · have hki : (k : Int) + 1 ≤ 18 := by omega
                      by_cases h2 : k = 2
                      · subst h2
                        go_wp2_with fail
                        go_roundg (gk - 1)
                        case measure => omega
                        case rel => exact ⟨2 + 1, by omega, by go_num, hid (fun j hj hj2 => HC.out j (by omega) hj2), X4, K4⟩
                      · have q3 : (((k : Int) + 1) != 3) = true := bne_iff_ne.2 (by omega)
                        cases hc : L15.isC t6 ((k : Int) + 1) x
                        · go_wp2_with (first
                            | (refine ld26 (by rfl) _ (by rfl) _ (by rfl) _ X4.out hs6 ?_)
                            | (go_at_call 18
                               (with_reducible refine (L15.isp_b _ t6 ok6 _ x hc).mono ?_)
                               rintro e u5 ⟨rfl, k5⟩
                               have X5 := hid (box_below X4.out k5.out)
                               have K5 := bel_t K4 k5.out
                               clear k5))
                          go_roundg (gk - 1)
                          case measure => omega
                          case rel => exact ⟨k + 1, by omega, by go_num, hid (fun j hj hj2 => by
                            by_cases e : j = k
                            · subst e; exact hc
                            · exact HC.out j (by omega) hj2), X5, K5⟩
                        · go_wp2_with (first
                            | (refine ld26 (by rfl) _ (by rfl) _ (by rfl) _ X4.out hs6 ?_)
                            | (go_at_call 18
                               (with_reducible refine (L15.isp_b _ t6 ok6 _ x hc).mono ?_)
                               rintro e u5 ⟨rfl, k5⟩
                               have K5 := bel_t K4 k5.out
                               clear k5))
                          go_ret
                          exact ⟨rfl, K5⟩
                    · obtain rfl : k = 18 := by omega
                      have hki : ¬ ((18 : Nat) : Int) + 1 ≤ 18 := by omega
                      have TE : Hid (ErT t6 x) := hid ⟨ok6, hon.out 51 (by decide) (by decide) (by decide), hon.out 53 (by decide) (by decide) (by decide), hon.out 54 (by decide) (by decide) (by decide), hon.out 60 (by decide) (by decide) (by decide), hoff.out 33 (by decide) (by decide), hoff.out 37 (by decide) (by decide), hoff.out 31 (by decide) (by decide), hoff.out 71 (by decide) (by decide), hoff.out 42 (by decide) (by decide), hoff.out 39 (by decide) (by decide), HE.out, fun op ho hp h3 => by
                        have := HC.out (op - 1).toNat (by omega) (by omega)
                        rwa [show ((op - 1).toNat : Int) + 1 = op by omega] at this, h10, h13⟩
                      clear HC HE hon hoff hlt hk
                      go_wp2_with fail
                      clear hki
                      go_loopg [69] n (fun gk i wr => ∃ k : Nat, k + gk = n ∧ i = .int .i64 k ∧ Hid (∀ (j : Nat) (y : UInt8), j < k → bs[j]? = some y → PlainC t6 y ∧ Prn y) ∧ Hid (Box wr w.heap.size 26 t6.cs) ∧ Hid (Below w.heap.size w wr))
                      case atStart => exact ⟨0, by omega, rfl, hid (fun j y hj => by omega), X4, K4⟩
                      case round =>
                        clear X4 K4
                        obtain ⟨k, hk, rfl, HP, X4, K4⟩ := hrel
                        have L4 := slb_at hb K4
                        by_cases hlt : k < n
                        · have hki : (k : Int) < (n : Int) := by omega
                          obtain ⟨b0, o0, y, hA, hy, cy⟩ := slb_cell L4.out hn.out hlt
                          subst hA
                          have HY := hid hy
                          clear hy
                          cases hp : PlainB t6 y
                          · go_wp2_with (first
                              | (refine ld26 (by rfl) _ (by rfl) _ (by rfl) _ X4.out hs6 ?_)
                              | (go_at_call 17
                                 (with_reducible refine (plain_any _ t6 ok6 y (hid hp)).mono ?_)
                                 rintro e u5 ⟨rfl, k5⟩
                                 have K5 := bel_t K4 k5.out
                                 clear k5))
                            go_ret
                            exact ⟨rfl, K5⟩
                          · by_cases h32 : (y.toNat : Int) < 32
                            · go_wp2_with (first
                                | (refine ld26 (by rfl) _ (by rfl) _ (by rfl) _ X4.out hs6 ?_)
                                | (go_at_call 17
                                   (with_reducible refine (plain_any _ t6 ok6 y (hid hp)).mono ?_)
                                   rintro e u5 ⟨rfl, k5⟩
                                   have K5 := bel_t K4 k5.out
                                   clear k5))
                              go_ret
                              exact ⟨rfl, K5⟩
                            · by_cases h127 : (y.toNat : Int) ≥ 127
                              · go_wp2_with (first
                                  | (refine ld26 (by rfl) _ (by rfl) _ (by rfl) _ X4.out hs6 ?_)
                                  | (go_at_call 17
                                     (with_reducible refine (plain_any _ t6 ok6 y (hid hp)).mono ?_)
                                     rintro e u5 ⟨rfl, k5⟩
                                     have K5 := bel_t K4 k5.out
                                     clear k5))
                                go_ret
                                exact ⟨rfl, K5⟩
                              · go_wp2_with (first
                                  | (refine ld26 (by rfl) _ (by rfl) _ (by rfl) _ X4.out hs6 ?_)
                                  | (go_at_call 17
                                     (with_reducible refine (plain_any _ t6 ok6 y (hid hp)).mono ?_)
                                     rintro e u5 ⟨rfl, k5⟩
                                     have X5 := hid (box_below X4.out k5.out)
                                     have K5 := bel_t K4 k5.out
                                     clear k5))
                                go_roundg (gk - 1)
                                case measure => omega
                                case rel => exact ⟨k + 1, by omega, by go_num, hid (fun j z hj hz => by
                                  by_cases e : j = k
                                  · subst e
                                    rw [HY.out] at hz
                                    injection hz with hz
                                    subst hz
                                    exact ⟨plainB_iff.1 hp, prn_i (by omega) (by omega)⟩
                                  · exact HP.out j z (by omega) hz), X5, K5⟩
                        · obtain rfl : k = n := by omega
                          have hki : ¬ (k : Int) < (k : Int) := by omega
                          clear L4 hlt hk
                          have hk200 : k ≤ 200 := by omega
                          go_wp2_with (first
                            | (refine ld26 (by rfl) _ (by rfl) _ (by rfl) _ X4.out hs6 ?_)
                            | (go_at_call 19
                               (with_reducible refine (newp_any _ t6 ok6).mono ?_)
                               rintro e w2 ⟨p, S0, rfl, A2, N2, k2⟩
                               have H2 := hid (Al.made (w0 := w) A2 (hid (fun x hx => Nat.le_trans K4.out.size (N2.out x hx))) (bel_t K4 k2.out))
                               clear A2 k2 K4 N2))
                          clear hki
                          go_loopg [90] k (fun gk i wr => ∃ (m : Nat) (S : Nat → Prop) (D : Ds), m + gk = k ∧ i = .int .i64 m ∧ Hid (Al w wr p S D) ∧ Hid (ErAt t6 (bs.take m) m D))
                          case atStart => exact ⟨0, S0, newD t6, by omega, rfl, H2, hid (by rw [List.take_zero]; exact ErAt.new ok6)⟩
                          case round =>
                            clear H2
                            obtain ⟨m, S, D, hm, rfl, H3, E3⟩ := hrel
                            by_cases hlt : m < k
                            · have hki : (m : Int) < (k : Int) := by omega
                              have L4 := slb_at hb (hid H3.out.bel)
                              obtain ⟨b0, o0, y, hA, hy, cy⟩ := slb_cell L4.out hn.out hlt
                              subst hA
                              have hpy := HP.out m y hlt hy
                              have hst := hid (E3.out.byte TE.out hpy.1 hpy.2 (by rw [List.length_take]; omega) (by omega))
                              have ht1 : bs.take (m + 1) = bs.take m ++ [y] := by
                                obtain ⟨h1, h2⟩ := List.getElem?_eq_some_iff.1 hy
                                rw [List.take_succ_eq_append_getElem h1, h2]
                              rw [← ht1] at hst
                              clear ht1 hy hpy
                              go_wp2_with (first
                                | (go_at_call 20
                                   (with_reducible refine (inputp_any _ p S D (hid H3.out.at_) (hid E3.out.inv.fit) y (hid rfl)).mono ?_)
                                   rintro e w3 ⟨A3, n3, c3, rfl, hn3, -, O3⟩
                                   obtain ⟨S4, H4, N4, B4⟩ := H3.out.next O3))
                              go_roundg (gk - 1)
                              case measure => omega
                              case rel => exact ⟨m + 1, S4, _, by omega, by go_num, H4, hid hst.out.1⟩
                            · obtain rfl : m = k := by omega
                              have hki : ¬ (m : Int) < (m : Int) := by omega
                              clear HP hlt hm
                              go_wp2_with fail
                              clear hki
                              go_loopg [100] m (fun gk i wr => ∃ (q : Nat) (S : Nat → Prop) (D : Ds), q + gk = m ∧ i = .int .i64 q ∧ Hid (Al w wr p S D) ∧ Hid (ErAt t6 (bs.take (m - q)) (m + 3 * q) D))
                              case atStart => exact ⟨0, S, D, by omega, rfl, H3, E3⟩
                              case round =>
                                clear H3 E3 D S
                                obtain ⟨q, S, D, hq, rfl, H3, E3⟩ := hrel
                                by_cases hlt : q < m
                                · have hki : (q : Int) < (m : Int) := by omega
                                  obtain ⟨y, ht1⟩ : ∃ y, bs.take (m - q) = bs.take (m - (q + 1)) ++ [y] := by
                                    have h1 : m - (q + 1) < bs.length := by rw [hn.out]; omega
                                    refine ⟨bs[m - (q + 1)], ?_⟩
                                    rw [show m - q = m - (q + 1) + 1 by omega, List.take_succ_eq_append_getElem h1]
                                  rw [ht1] at E3
                                  have hst := hid (E3.out.back TE.out (by rw [List.length_take]; omega) (by omega))
                                  clear ht1
                                  go_wp2_with (first
                                    | (go_at_call 20
                                       (with_reducible refine (inputp_any _ p S D (hid H3.out.at_) (hid E3.out.inv.fit) x (hid rfl)).mono ?_)
                                       rintro e w3 ⟨A3, n3, c3, rfl, hn3, -, O3⟩
                                       obtain ⟨S4, H4, N4, B4⟩ := H3.out.next O3))
                                  go_roundg (gk - 1)
                                  case measure => omega
                                  case rel => exact ⟨q + 1, S4, _, by omega, by go_num, H4, hid (by have := hst.out.1; rwa [show m + 3 * q + 3 = m + 3 * (q + 1) by omega] at this)⟩
                                · obtain rfl : q = m := by omega
                                  have hki : ¬ (q : Int) < (q : Int) := by omega
                                  obtain ⟨h, Hp⟩ := H3.out.at_
                                  have okD : D.t.Ok := E3.out.inv.t
                                  have z1 : D.line.length = 0 := by rw [E3.out.line]; simp
                                  have z2 : D.ls.length = 0 := by rw [E3.out.ls]; rfl
                                  have z3 : D.col = 0 := by rw [E3.out.col]; simp
                                  have z4 : D.fr = 0 := E3.out.fr
                                  have c0 := Hp.cell okD 0 (v := .slice h.lA 0 h.lc) (by show some (Value.slice h.lA D.line.length h.lc) = _; rw [z1])
                                  have c2 := Hp.cell okD 2 (v := .slice h.nA 0 h.nc) (by show some (Value.slice h.nA D.ls.length h.nc) = _; rw [z2])
                                  have c7 := Hp.cell okD 7 (v := .int .i64 0) (by show some (Value.int .i64 D.col) = _; rw [z3])
                                  have c8 := Hp.cell okD 8 (v := .int .i64 0) (by show some (Value.int .i64 D.fr) = _; rw [z4])
                                  clear Hp E3 z1 z2 z3 z4
                                  go_wp2_with fail
                                  go_ret
                                  exact ⟨rfl, hid H3.out.bel⟩
end Go.Proofs.YtggcampdkgfmgaaGreat
