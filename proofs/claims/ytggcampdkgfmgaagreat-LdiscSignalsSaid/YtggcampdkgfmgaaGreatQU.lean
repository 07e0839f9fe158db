import Derived.Test.YtggcampdkgfmgaaGreatQTo
import Derived.Deep.DeepCutAuto
namespace Go.Proofs.YtggcampdkgfmgaaGreat
open Go.RowKit

/-! LdiscSignals: the walk. -/
theorem sli16_up {u W : World} {A : Option Addr} {c : Nat} {l : List Int} (h : Hid (SlI u u.heap.size A c l)) (hW : Hid (Below u.heap.size u W)) : Hid (SlI W W.heap.size A c l) :=
  hid ⟨h.out.1, h.out.2.1, h.out.2.2.1, (h.out.2.2.2.below hW.out).more hW.out.size⟩
theorem sizeX : (Tryz.prog.info? 54).map (·.size) = some 34 := by kernel_rfl
set_option maxRecDepth 100000 in
set_option maxHeartbeats 8000000 in
theorem signals_walk (w : World) (D : Ds) (h : Ph) (X : Hid (XIn w D h)) (y : UInt8) :
    Calls Tryz.prog 5 #[.agg (tmV D.t (dRest D h)), .int .u8 (y.toNat : Int)] w fun e w' => e = .returned (.bool true) ∧ Hid (Below w.heap.size w w') := by
  have hl := X.out.t.len
  have hs := cs_size hl
  have hsz : Hid ((Tryz.prog.info? 54).map (·.size) = some (tmV D.t (dRest D h)).size) := hid (by rw [tmV_size X.out.t]; exact sizeX)
  have B0 : Hid (Box (w.alloc (.cells (tmV D.t (dRest D h)) 54)) w.heap.size 54 (tmV D.t (dRest D h))) := hid (Box.new w _ _)
  have K0 : Hid (Below w.heap.size w (w.alloc (.cells (tmV D.t (dRest D h)) 54))) := hid ((Below.refl _ w).alloc (Nat.le_refl _) _)
  have F0 : Hid (∀ (j : Nat) (v : Value), D.t.cl[j]? = some v → (tmV D.t (dRest D h))[j]? = some v) := hid (tmV_front _)
  have F25 : Hid ((tmV D.t (dRest D h))[25]? = some (.bool D.nx)) := hid (tmV_back X.out.t (j := 1) rfl)
  have cG : ∀ (W : World) (_ : Hid (XIn W D h)) (b : Bool), Hid (greatD D = b) → Calls Tryz.prog 24 #[.agg (tmV D.t (dRest D h))] W fun e w' => e = .returned (.bool b) ∧ Hid (Below W.heap.size W w') := fun W hX b hb => great_any W D h hX hb
  have cT : ∀ (W : World) (_ : Hid (XIn W D h)), Hid (greatD D = false) → Calls Tryz.prog 25 #[.agg (tmV D.t (dRest D h))] W fun e w' => ∃ p S, e = .returned (.pointer (some ⟨p, 0, none⟩)) ∧ Hid (DAt w' p S D) ∧ Hid (∀ x, S x → W.heap.size ≤ x) ∧ Hid (Below W.heap.size W w') := fun W hX hg => to_any W D h hX hg
  generalize tmV D.t (dRest D h) = V at hsz B0 K0 F0 F25 cG cT ⊢
  cases hg : greatD D
  · have HG := hid hg
    have fitN := hid (great_fit X.out.t hg X.out.col X.out.fr X.out.idle)
    have fitD := hid (fitN.out.fit (by decide))
    obtain ⟨U, hU⟩ : ∃ U, Hid (usedD D = U) := ⟨_, hid rfl⟩
    obtain ⟨⟨D', sg⟩, hr⟩ : ∃ z, Hid (inputD D y = z) := ⟨_, hid rfl⟩
    have fitD' : Hid (Fit D') := hid (by have := (fitN.out.input y).fit (by decide); rwa [hr.out] at this)
    have hsig := hid (inputD_sig D y)
    rw [hr.out] at hsig
    obtain ⟨z, hz⟩ : ∃ z, Hid (L9.stripB D.t y = z) := ⟨_, hid rfl⟩
    rw [hz.out] at hsig
    have okD := X.out.t
    clear hg
    rcases hsig.out with h0 | ⟨hnx, h50, hus, hcase⟩
    · have h0 : sg = [] := h0
      subst h0
      go_enter Tryz.func5, Tryz.ntmps5
      go_wp2_with (first
        | (refine bxT (by rfl) 54 _ (by rfl) _ (by rfl) hsz.out ?_)
        | (go_at_call 15
           (with_reducible refine (alive_any _).mono ?_)
           rintro e v1 ⟨rfl, k1⟩
           have K1 := bel_t K0 k1.out
           have B1 := hid (box_below B0.out k1.out)
           have X1 := hid (X.out.grow K1.out)
           clear k1 B0 K0)
        | (refine ldX (by rfl) 54 Tryz.underlying54 _ (by rfl) _ (by rfl) B1 hsz ?_)
        | (refine ldX (by rfl) 54 Tryz.underlying54 _ (by rfl) _ (by rfl) B2 hsz ?_)
        | (go_at_call 24
           (with_reducible refine (cG _ X1 false HG).mono ?_)
           rintro e v2 ⟨rfl, k2⟩
           have K2 := bel_t K1 k2.out
           have B2 := hid (box_below B1.out k2.out)
           have X2 := hid (X1.out.grow k2.out)
           clear k2 B1 K1 X1)
        | (go_at_call 25
           (with_reducible refine (cT _ X2 HG).mono ?_)
           rintro e v3 ⟨p, S3, rfl, A3, N3, k3⟩
           have H3 := hid (Al.made (w0 := v2) A3 N3 k3)
           clear A3 N3 k3)
        | (go_at_call 26
           (with_reducible refine (usedp16_any _ p S3 D (hid H3.out.at_) fitD hU).mono ?_)
           rintro e v4 ⟨rfl, O4⟩
           obtain ⟨S4, H4, N4, b4⟩ := H3.out.next O4
           clear N4 b4)
        | (go_at_call 20
           (with_reducible refine (inputp_any _ p S4 D (hid H4.out.at_) fitD y hr).mono ?_)
           rintro e v5 ⟨A5, n5, c5, rfl, hn5, L5, O5⟩
           obtain ⟨S5, H5, N5, b5⟩ := H4.out.next O5
           have hn5 : Hid (([] : List Int).length = n5) := hn5
           have L5 : Hid (SlI v5 v5.heap.size A5 c5 ([] : List Int)) := L5
           have H5 : Hid (Al v2 v5 p S5 D') := H5
           have B5 := hid (box_below B2.out H5.out.bel)
           have K5 := bel_t K2 H5.out.bel
           obtain rfl : n5 = 0 := hn5.out.symm
           clear N5 b5))
      go_ret
      exact ⟨rfl, K5⟩
    · have hus : usedD D' = if D.has 57 = true then usedD D else 0 := hus
      have h50 : hasN D.t.f 50 = true := h50
      cases h57 : hasN D.t.f 57
      · have hused : Hid (usedD D' = 0) := hid (by rw [hus]; show (if hasN D.t.f 57 = true then usedD D else 0) = _; rw [h57]; rfl)
        rcases hcase with ⟨hsg, his⟩ | ⟨hsg, his⟩ | ⟨hsg, his⟩
        · have hsg : sg = [2] := hsg
          have his : L15.isC D.t 1 z = true := his
          subst hsg
          go_enter Tryz.func5, Tryz.ntmps5
          go_wp2_with (first
            | (refine bxT (by rfl) 54 _ (by rfl) _ (by rfl) hsz.out ?_)
            | (go_at_call 15
               (with_reducible refine (alive_any _).mono ?_)
               rintro e v1 ⟨rfl, k1⟩
               have K1 := bel_t K0 k1.out
               have B1 := hid (box_below B0.out k1.out)
               have X1 := hid (X.out.grow K1.out)
               clear k1 B0 K0)
            | (refine ldX (by rfl) 54 Tryz.underlying54 _ (by rfl) _ (by rfl) B1 hsz ?_)
            | (refine ldX (by rfl) 54 Tryz.underlying54 _ (by rfl) _ (by rfl) B2 hsz ?_)
            | (go_at_call 24
               (with_reducible refine (cG _ X1 false HG).mono ?_)
               rintro e v2 ⟨rfl, k2⟩
               have K2 := bel_t K1 k2.out
               have B2 := hid (box_below B1.out k2.out)
               have X2 := hid (X1.out.grow k2.out)
               clear k2 B1 K1 X1)
            | (go_at_call 25
               (with_reducible refine (cT _ X2 HG).mono ?_)
               rintro e v3 ⟨p, S3, rfl, A3, N3, k3⟩
               have H3 := hid (Al.made (w0 := v2) A3 N3 k3)
               clear A3 N3 k3)
            | (go_at_call 26
               (with_reducible refine (usedp16_any _ p S3 D (hid H3.out.at_) fitD hU).mono ?_)
               rintro e v4 ⟨rfl, O4⟩
               obtain ⟨S4, H4, N4, b4⟩ := H3.out.next O4
               clear N4 b4)
            | (go_at_call 20
               (with_reducible refine (inputp_any _ p S4 D (hid H4.out.at_) fitD y hr).mono ?_)
               rintro e v5 ⟨A5, n5, c5, rfl, hn5, L5, O5⟩
               obtain ⟨S5, H5, N5, b5⟩ := H4.out.next O5
               have hn5 : Hid (([2] : List Int).length = n5) := hn5
               have L5 : Hid (SlI v5 v5.heap.size A5 c5 ([2] : List Int)) := L5
               have H5 : Hid (Al v2 v5 p S5 D') := H5
               have B5 := hid (box_below B2.out H5.out.bel)
               have K5 := bel_t K2 H5.out.bel
               obtain rfl : n5 = 1 := hn5.out.symm
               clear N5 b5)
            | (refine ldF16 (by rfl) _ (by rfl) _ (by rfl) D.t hl B5 F0 ?_)
            | (refine ldF16 (by rfl) _ (by rfl) _ (by rfl) D.t hl B6 F0 ?_)
            | (refine ldF16 (by rfl) _ (by rfl) _ (by rfl) D.t hl B7 F0 ?_)
            | (refine ldF16 (by rfl) _ (by rfl) _ (by rfl) D.t hl B8 F0 ?_)
            | (go_at_call 27
               (with_reducible refine (L9.strip_b _ okD hz.out).mono ?_)
               rintro e v6 ⟨rfl, k6⟩
               have B6 := hid (box_below B5.out k6.out)
               have H6 := hid (H5.out.grow k6.out)
               have K6 := bel_t K5 k6.out
               obtain ⟨b6, o6, y6, rfl, hy6, cy6⟩ := sli_cell (sli16_up L5 k6).out (n := 1) rfl (j := 0) (by omega)
               obtain rfl : y6 = 2 := by simpa using hy6.symm
               have cz6 : World.cell? v6 ⟨b6, o6, none⟩ = some (.int .i64 2) := cy6
               clear cy6 B5 H5 K5 k6 L5)
            | (go_at_call 18
               (with_reducible refine (L15.isp_b _ D.t okD 1 z his).mono ?_)
               rintro e v7 ⟨rfl, k7⟩
               have B7 := hid (box_below B6.out k7.out)
               have H7 := hid (H6.out.grow k7.out)
               have K7 := bel_t K6 k7.out
               clear B6 H6 K6 k7)
            | (go_at_call 28
               (first
                 | ((with_reducible refine (has_b _ okD (op := 50) h50).mono ?_)
                    rintro e v8 ⟨rfl, k8⟩
                    have B8 := hid (box_below B7.out k8.out)
                    have H8 := hid (H7.out.grow k8.out)
                    have K8 := bel_t K7 k8.out
                    have c25 : World.cell? v8 ⟨w.heap.size, 25, none⟩ = some (.bool false) := by rw [B8.out.cell 25, F25.out, hnx]
                    clear B7 H7 K7 k8)
                 | ((with_reducible refine (has_b _ okD (op := 57) h57).mono ?_)
                    rintro e v9 ⟨rfl, k9⟩
                    have H9 := hid (H8.out.grow k9.out)
                    have K9 := bel_t K8 k9.out
                    clear k9)))
            | (go_at_call 26
               (with_reducible refine (usedp16_any _ p S5 D' (hid H9.out.at_) fitD' hused).mono ?_)
               rintro e v10 ⟨rfl, O10⟩
               obtain ⟨S10, H10, N10, b10⟩ := H9.out.next O10))
          go_ret
          exact ⟨rfl, bel_t K2 H10.out.bel⟩
        · have hsg : sg = [3] := hsg
          have his : L15.isC D.t 2 z = true := his
          subst hsg
          go_enter Tryz.func5, Tryz.ntmps5
          go_wp2_with (first
            | (refine bxT (by rfl) 54 _ (by rfl) _ (by rfl) hsz.out ?_)
            | (go_at_call 15
               (with_reducible refine (alive_any _).mono ?_)
               rintro e v1 ⟨rfl, k1⟩
               have K1 := bel_t K0 k1.out
               have B1 := hid (box_below B0.out k1.out)
               have X1 := hid (X.out.grow K1.out)
               clear k1 B0 K0)
            | (refine ldX (by rfl) 54 Tryz.underlying54 _ (by rfl) _ (by rfl) B1 hsz ?_)
            | (refine ldX (by rfl) 54 Tryz.underlying54 _ (by rfl) _ (by rfl) B2 hsz ?_)
            | (go_at_call 24
               (with_reducible refine (cG _ X1 false HG).mono ?_)
               rintro e v2 ⟨rfl, k2⟩
               have K2 := bel_t K1 k2.out
               have B2 := hid (box_below B1.out k2.out)
               have X2 := hid (X1.out.grow k2.out)
               clear k2 B1 K1 X1)
            | (go_at_call 25
               (with_reducible refine (cT _ X2 HG).mono ?_)
               rintro e v3 ⟨p, S3, rfl, A3, N3, k3⟩
               have H3 := hid (Al.made (w0 := v2) A3 N3 k3)
               clear A3 N3 k3)
            | (go_at_call 26
               (with_reducible refine (usedp16_any _ p S3 D (hid H3.out.at_) fitD hU).mono ?_)
               rintro e v4 ⟨rfl, O4⟩
               obtain ⟨S4, H4, N4, b4⟩ := H3.out.next O4
               clear N4 b4)
            | (go_at_call 20
               (with_reducible refine (inputp_any _ p S4 D (hid H4.out.at_) fitD y hr).mono ?_)
               rintro e v5 ⟨A5, n5, c5, rfl, hn5, L5, O5⟩
               obtain ⟨S5, H5, N5, b5⟩ := H4.out.next O5
               have hn5 : Hid (([3] : List Int).length = n5) := hn5
               have L5 : Hid (SlI v5 v5.heap.size A5 c5 ([3] : List Int)) := L5
               have H5 : Hid (Al v2 v5 p S5 D') := H5
               have B5 := hid (box_below B2.out H5.out.bel)
               have K5 := bel_t K2 H5.out.bel
               obtain rfl : n5 = 1 := hn5.out.symm
               clear N5 b5)
            | (refine ldF16 (by rfl) _ (by rfl) _ (by rfl) D.t hl B5 F0 ?_)
            | (refine ldF16 (by rfl) _ (by rfl) _ (by rfl) D.t hl B6 F0 ?_)
            | (refine ldF16 (by rfl) _ (by rfl) _ (by rfl) D.t hl B7 F0 ?_)
            | (refine ldF16 (by rfl) _ (by rfl) _ (by rfl) D.t hl B8 F0 ?_)
            | (go_at_call 27
               (with_reducible refine (L9.strip_b _ okD hz.out).mono ?_)
               rintro e v6 ⟨rfl, k6⟩
               have B6 := hid (box_below B5.out k6.out)
               have H6 := hid (H5.out.grow k6.out)
               have K6 := bel_t K5 k6.out
               obtain ⟨b6, o6, y6, rfl, hy6, cy6⟩ := sli_cell (sli16_up L5 k6).out (n := 1) rfl (j := 0) (by omega)
               obtain rfl : y6 = 3 := by simpa using hy6.symm
               have cz6 : World.cell? v6 ⟨b6, o6, none⟩ = some (.int .i64 3) := cy6
               clear cy6 B5 H5 K5 k6 L5)
            | (go_at_call 18
               (with_reducible refine (L15.isp_b _ D.t okD 2 z his).mono ?_)
               rintro e v7 ⟨rfl, k7⟩
               have B7 := hid (box_below B6.out k7.out)
               have H7 := hid (H6.out.grow k7.out)
               have K7 := bel_t K6 k7.out
               clear B6 H6 K6 k7)
            | (go_at_call 28
               (first
                 | ((with_reducible refine (has_b _ okD (op := 50) h50).mono ?_)
                    rintro e v8 ⟨rfl, k8⟩
                    have B8 := hid (box_below B7.out k8.out)
                    have H8 := hid (H7.out.grow k8.out)
                    have K8 := bel_t K7 k8.out
                    have c25 : World.cell? v8 ⟨w.heap.size, 25, none⟩ = some (.bool false) := by rw [B8.out.cell 25, F25.out, hnx]
                    clear B7 H7 K7 k8)
                 | ((with_reducible refine (has_b _ okD (op := 57) h57).mono ?_)
                    rintro e v9 ⟨rfl, k9⟩
                    have H9 := hid (H8.out.grow k9.out)
                    have K9 := bel_t K8 k9.out
                    clear k9)))
            | (go_at_call 26
               (with_reducible refine (usedp16_any _ p S5 D' (hid H9.out.at_) fitD' hused).mono ?_)
               rintro e v10 ⟨rfl, O10⟩
               obtain ⟨S10, H10, N10, b10⟩ := H9.out.next O10))
          go_ret
          exact ⟨rfl, bel_t K2 H10.out.bel⟩
        · have hsg : sg = [20] := hsg
          have his : L15.isC D.t 10 z = true := his
          subst hsg
          go_enter Tryz.func5, Tryz.ntmps5
          go_wp2_with (first
            | (refine bxT (by rfl) 54 _ (by rfl) _ (by rfl) hsz.out ?_)
            | (go_at_call 15
               (with_reducible refine (alive_any _).mono ?_)
               rintro e v1 ⟨rfl, k1⟩
               have K1 := bel_t K0 k1.out
               have B1 := hid (box_below B0.out k1.out)
               have X1 := hid (X.out.grow K1.out)
               clear k1 B0 K0)
            | (refine ldX (by rfl) 54 Tryz.underlying54 _ (by rfl) _ (by rfl) B1 hsz ?_)
            | (refine ldX (by rfl) 54 Tryz.underlying54 _ (by rfl) _ (by rfl) B2 hsz ?_)
            | (go_at_call 24
               (with_reducible refine (cG _ X1 false HG).mono ?_)
               rintro e v2 ⟨rfl, k2⟩
               have K2 := bel_t K1 k2.out
               have B2 := hid (box_below B1.out k2.out)
               have X2 := hid (X1.out.grow k2.out)
               clear k2 B1 K1 X1)
            | (go_at_call 25
               (with_reducible refine (cT _ X2 HG).mono ?_)
               rintro e v3 ⟨p, S3, rfl, A3, N3, k3⟩
               have H3 := hid (Al.made (w0 := v2) A3 N3 k3)
               clear A3 N3 k3)
            | (go_at_call 26
               (with_reducible refine (usedp16_any _ p S3 D (hid H3.out.at_) fitD hU).mono ?_)
               rintro e v4 ⟨rfl, O4⟩
               obtain ⟨S4, H4, N4, b4⟩ := H3.out.next O4
               clear N4 b4)
            | (go_at_call 20
               (with_reducible refine (inputp_any _ p S4 D (hid H4.out.at_) fitD y hr).mono ?_)
               rintro e v5 ⟨A5, n5, c5, rfl, hn5, L5, O5⟩
               obtain ⟨S5, H5, N5, b5⟩ := H4.out.next O5
               have hn5 : Hid (([20] : List Int).length = n5) := hn5
               have L5 : Hid (SlI v5 v5.heap.size A5 c5 ([20] : List Int)) := L5
               have H5 : Hid (Al v2 v5 p S5 D') := H5
               have B5 := hid (box_below B2.out H5.out.bel)
               have K5 := bel_t K2 H5.out.bel
               obtain rfl : n5 = 1 := hn5.out.symm
               clear N5 b5)
            | (refine ldF16 (by rfl) _ (by rfl) _ (by rfl) D.t hl B5 F0 ?_)
            | (refine ldF16 (by rfl) _ (by rfl) _ (by rfl) D.t hl B6 F0 ?_)
            | (refine ldF16 (by rfl) _ (by rfl) _ (by rfl) D.t hl B7 F0 ?_)
            | (refine ldF16 (by rfl) _ (by rfl) _ (by rfl) D.t hl B8 F0 ?_)
            | (go_at_call 27
               (with_reducible refine (L9.strip_b _ okD hz.out).mono ?_)
               rintro e v6 ⟨rfl, k6⟩
               have B6 := hid (box_below B5.out k6.out)
               have H6 := hid (H5.out.grow k6.out)
               have K6 := bel_t K5 k6.out
               obtain ⟨b6, o6, y6, rfl, hy6, cy6⟩ := sli_cell (sli16_up L5 k6).out (n := 1) rfl (j := 0) (by omega)
               obtain rfl : y6 = 20 := by simpa using hy6.symm
               have cz6 : World.cell? v6 ⟨b6, o6, none⟩ = some (.int .i64 20) := cy6
               clear cy6 B5 H5 K5 k6 L5)
            | (go_at_call 18
               (with_reducible refine (L15.isp_b _ D.t okD 10 z his).mono ?_)
               rintro e v7 ⟨rfl, k7⟩
               have B7 := hid (box_below B6.out k7.out)
               have H7 := hid (H6.out.grow k7.out)
               have K7 := bel_t K6 k7.out
               clear B6 H6 K6 k7)
            | (go_at_call 28
               (first
                 | ((with_reducible refine (has_b _ okD (op := 50) h50).mono ?_)
                    rintro e v8 ⟨rfl, k8⟩
                    have B8 := hid (box_below B7.out k8.out)
                    have H8 := hid (H7.out.grow k8.out)
                    have K8 := bel_t K7 k8.out
                    have c25 : World.cell? v8 ⟨w.heap.size, 25, none⟩ = some (.bool false) := by rw [B8.out.cell 25, F25.out, hnx]
                    clear B7 H7 K7 k8)
                 | ((with_reducible refine (has_b _ okD (op := 57) h57).mono ?_)
                    rintro e v9 ⟨rfl, k9⟩
                    have H9 := hid (H8.out.grow k9.out)
                    have K9 := bel_t K8 k9.out
                    clear k9)))
            | (go_at_call 26
               (with_reducible refine (usedp16_any _ p S5 D' (hid H9.out.at_) fitD' hused).mono ?_)
               rintro e v10 ⟨rfl, O10⟩
               obtain ⟨S10, H10, N10, b10⟩ := H9.out.next O10))
          go_ret
          exact ⟨rfl, bel_t K2 H10.out.bel⟩
      · have hused : Hid (usedD D' = U) := hid (by rw [hus]; show (if hasN D.t.f 57 = true then usedD D else 0) = _; rw [h57]; exact hU.out)
        rcases hcase with ⟨hsg, his⟩ | ⟨hsg, his⟩ | ⟨hsg, his⟩
        · have hsg : sg = [2] := hsg
          have his : L15.isC D.t 1 z = true := his
          subst hsg
          go_enter Tryz.func5, Tryz.ntmps5
          go_wp2_with (first
            | (refine bxT (by rfl) 54 _ (by rfl) _ (by rfl) hsz.out ?_)
            | (go_at_call 15
               (with_reducible refine (alive_any _).mono ?_)
               rintro e v1 ⟨rfl, k1⟩
               have K1 := bel_t K0 k1.out
               have B1 := hid (box_below B0.out k1.out)
               have X1 := hid (X.out.grow K1.out)
               clear k1 B0 K0)
            | (refine ldX (by rfl) 54 Tryz.underlying54 _ (by rfl) _ (by rfl) B1 hsz ?_)
            | (refine ldX (by rfl) 54 Tryz.underlying54 _ (by rfl) _ (by rfl) B2 hsz ?_)
            | (go_at_call 24
               (with_reducible refine (cG _ X1 false HG).mono ?_)
               rintro e v2 ⟨rfl, k2⟩
               have K2 := bel_t K1 k2.out
               have B2 := hid (box_below B1.out k2.out)
               have X2 := hid (X1.out.grow k2.out)
               clear k2 B1 K1 X1)
            | (go_at_call 25
               (with_reducible refine (cT _ X2 HG).mono ?_)
               rintro e v3 ⟨p, S3, rfl, A3, N3, k3⟩
               have H3 := hid (Al.made (w0 := v2) A3 N3 k3)
               clear A3 N3 k3)
            | (go_at_call 26
               (with_reducible refine (usedp16_any _ p S3 D (hid H3.out.at_) fitD hU).mono ?_)
               rintro e v4 ⟨rfl, O4⟩
               obtain ⟨S4, H4, N4, b4⟩ := H3.out.next O4
               clear N4 b4)
            | (go_at_call 20
               (with_reducible refine (inputp_any _ p S4 D (hid H4.out.at_) fitD y hr).mono ?_)
               rintro e v5 ⟨A5, n5, c5, rfl, hn5, L5, O5⟩
               obtain ⟨S5, H5, N5, b5⟩ := H4.out.next O5
               have hn5 : Hid (([2] : List Int).length = n5) := hn5
               have L5 : Hid (SlI v5 v5.heap.size A5 c5 ([2] : List Int)) := L5
               have H5 : Hid (Al v2 v5 p S5 D') := H5
               have B5 := hid (box_below B2.out H5.out.bel)
               have K5 := bel_t K2 H5.out.bel
               obtain rfl : n5 = 1 := hn5.out.symm
               clear N5 b5)
            | (refine ldF16 (by rfl) _ (by rfl) _ (by rfl) D.t hl B5 F0 ?_)
            | (refine ldF16 (by rfl) _ (by rfl) _ (by rfl) D.t hl B6 F0 ?_)
            | (refine ldF16 (by rfl) _ (by rfl) _ (by rfl) D.t hl B7 F0 ?_)
            | (refine ldF16 (by rfl) _ (by rfl) _ (by rfl) D.t hl B8 F0 ?_)
            | (go_at_call 27
               (with_reducible refine (L9.strip_b _ okD hz.out).mono ?_)
               rintro e v6 ⟨rfl, k6⟩
               have B6 := hid (box_below B5.out k6.out)
               have H6 := hid (H5.out.grow k6.out)
               have K6 := bel_t K5 k6.out
               obtain ⟨b6, o6, y6, rfl, hy6, cy6⟩ := sli_cell (sli16_up L5 k6).out (n := 1) rfl (j := 0) (by omega)
               obtain rfl : y6 = 2 := by simpa using hy6.symm
               have cz6 : World.cell? v6 ⟨b6, o6, none⟩ = some (.int .i64 2) := cy6
               clear cy6 B5 H5 K5 k6 L5)
            | (go_at_call 18
               (with_reducible refine (L15.isp_b _ D.t okD 1 z his).mono ?_)
               rintro e v7 ⟨rfl, k7⟩
               have B7 := hid (box_below B6.out k7.out)
               have H7 := hid (H6.out.grow k7.out)
               have K7 := bel_t K6 k7.out
               clear B6 H6 K6 k7)
            | (go_at_call 28
               (first
                 | ((with_reducible refine (has_b _ okD (op := 50) h50).mono ?_)
                    rintro e v8 ⟨rfl, k8⟩
                    have B8 := hid (box_below B7.out k8.out)
                    have H8 := hid (H7.out.grow k8.out)
                    have K8 := bel_t K7 k8.out
                    have c25 : World.cell? v8 ⟨w.heap.size, 25, none⟩ = some (.bool false) := by rw [B8.out.cell 25, F25.out, hnx]
                    clear B7 H7 K7 k8)
                 | ((with_reducible refine (has_b _ okD (op := 57) h57).mono ?_)
                    rintro e v9 ⟨rfl, k9⟩
                    have H9 := hid (H8.out.grow k9.out)
                    have K9 := bel_t K8 k9.out
                    clear k9)))
            | (go_at_call 26
               (with_reducible refine (usedp16_any _ p S5 D' (hid H9.out.at_) fitD' hused).mono ?_)
               rintro e v10 ⟨rfl, O10⟩
               obtain ⟨S10, H10, N10, b10⟩ := H9.out.next O10))
          go_ret
          exact ⟨rfl, bel_t K2 H10.out.bel⟩
        · have hsg : sg = [3] := hsg
          have his : L15.isC D.t 2 z = true := his
          subst hsg
          go_enter Tryz.func5, Tryz.ntmps5
          go_wp2_with (first
            | (refine bxT (by rfl) 54 _ (by rfl) _ (by rfl) hsz.out ?_)
            | (go_at_call 15
               (with_reducible refine (alive_any _).mono ?_)
               rintro e v1 ⟨rfl, k1⟩
               have K1 := bel_t K0 k1.out
               have B1 := hid (box_below B0.out k1.out)
               have X1 := hid (X.out.grow K1.out)
               clear k1 B0 K0)
            | (refine ldX (by rfl) 54 Tryz.underlying54 _ (by rfl) _ (by rfl) B1 hsz ?_)
            | (refine ldX (by rfl) 54 Tryz.underlying54 _ (by rfl) _ (by rfl) B2 hsz ?_)
            | (go_at_call 24
               (with_reducible refine (cG _ X1 false HG).mono ?_)
               rintro e v2 ⟨rfl, k2⟩
               have K2 := bel_t K1 k2.out
               have B2 := hid (box_below B1.out k2.out)
               have X2 := hid (X1.out.grow k2.out)
               clear k2 B1 K1 X1)
            | (go_at_call 25
               (with_reducible refine (cT _ X2 HG).mono ?_)
               rintro e v3 ⟨p, S3, rfl, A3, N3, k3⟩
               have H3 := hid (Al.made (w0 := v2) A3 N3 k3)
               clear A3 N3 k3)
            | (go_at_call 26
               (with_reducible refine (usedp16_any _ p S3 D (hid H3.out.at_) fitD hU).mono ?_)
               rintro e v4 ⟨rfl, O4⟩
               obtain ⟨S4, H4, N4, b4⟩ := H3.out.next O4
               clear N4 b4)
            | (go_at_call 20
               (with_reducible refine (inputp_any _ p S4 D (hid H4.out.at_) fitD y hr).mono ?_)
               rintro e v5 ⟨A5, n5, c5, rfl, hn5, L5, O5⟩
               obtain ⟨S5, H5, N5, b5⟩ := H4.out.next O5
               have hn5 : Hid (([3] : List Int).length = n5) := hn5
               have L5 : Hid (SlI v5 v5.heap.size A5 c5 ([3] : List Int)) := L5
               have H5 : Hid (Al v2 v5 p S5 D') := H5
               have B5 := hid (box_below B2.out H5.out.bel)
               have K5 := bel_t K2 H5.out.bel
               obtain rfl : n5 = 1 := hn5.out.symm
               clear N5 b5)
            | (refine ldF16 (by rfl) _ (by rfl) _ (by rfl) D.t hl B5 F0 ?_)
            | (refine ldF16 (by rfl) _ (by rfl) _ (by rfl) D.t hl B6 F0 ?_)
            | (refine ldF16 (by rfl) _ (by rfl) _ (by rfl) D.t hl B7 F0 ?_)
            | (refine ldF16 (by rfl) _ (by rfl) _ (by rfl) D.t hl B8 F0 ?_)
            | (go_at_call 27
               (with_reducible refine (L9.strip_b _ okD hz.out).mono ?_)
               rintro e v6 ⟨rfl, k6⟩
               have B6 := hid (box_below B5.out k6.out)
               have H6 := hid (H5.out.grow k6.out)
               have K6 := bel_t K5 k6.out
               obtain ⟨b6, o6, y6, rfl, hy6, cy6⟩ := sli_cell (sli16_up L5 k6).out (n := 1) rfl (j := 0) (by omega)
               obtain rfl : y6 = 3 := by simpa using hy6.symm
               have cz6 : World.cell? v6 ⟨b6, o6, none⟩ = some (.int .i64 3) := cy6
               clear cy6 B5 H5 K5 k6 L5)
            | (go_at_call 18
               (with_reducible refine (L15.isp_b _ D.t okD 2 z his).mono ?_)
               rintro e v7 ⟨rfl, k7⟩
               have B7 := hid (box_below B6.out k7.out)
               have H7 := hid (H6.out.grow k7.out)
               have K7 := bel_t K6 k7.out
               clear B6 H6 K6 k7)
            | (go_at_call 28
               (first
                 | ((with_reducible refine (has_b _ okD (op := 50) h50).mono ?_)
                    rintro e v8 ⟨rfl, k8⟩
                    have B8 := hid (box_below B7.out k8.out)
                    have H8 := hid (H7.out.grow k8.out)
                    have K8 := bel_t K7 k8.out
                    have c25 : World.cell? v8 ⟨w.heap.size, 25, none⟩ = some (.bool false) := by rw [B8.out.cell 25, F25.out, hnx]
                    clear B7 H7 K7 k8)
                 | ((with_reducible refine (has_b _ okD (op := 57) h57).mono ?_)
                    rintro e v9 ⟨rfl, k9⟩
                    have H9 := hid (H8.out.grow k9.out)
                    have K9 := bel_t K8 k9.out
                    clear k9)))
            | (go_at_call 26
               (with_reducible refine (usedp16_any _ p S5 D' (hid H9.out.at_) fitD' hused).mono ?_)
               rintro e v10 ⟨rfl, O10⟩
               obtain ⟨S10, H10, N10, b10⟩ := H9.out.next O10))
          go_ret
          exact ⟨rfl, bel_t K2 H10.out.bel⟩
        · have hsg : sg = [20] := hsg
          have his : L15.isC D.t 10 z = true := his
          subst hsg
          go_enter Tryz.func5, Tryz.ntmps5
          go_wp2_with (first
            | (refine bxT (by rfl) 54 _ (by rfl) _ (by rfl) hsz.out ?_)
            | (go_at_call 15
               (with_reducible refine (alive_any _).mono ?_)
               rintro e v1 ⟨rfl, k1⟩
               have K1 := bel_t K0 k1.out
               have B1 := hid (box_below B0.out k1.out)
               have X1 := hid (X.out.grow K1.out)
               clear k1 B0 K0)
            | (refine ldX (by rfl) 54 Tryz.underlying54 _ (by rfl) _ (by rfl) B1 hsz ?_)
            | (refine ldX (by rfl) 54 Tryz.underlying54 _ (by rfl) _ (by rfl) B2 hsz ?_)
            | (go_at_call 24
               (with_reducible refine (cG _ X1 false HG).mono ?_)
               rintro e v2 ⟨rfl, k2⟩
               have K2 := bel_t K1 k2.out
               have B2 := hid (box_below B1.out k2.out)
               have X2 := hid (X1.out.grow k2.out)
               clear k2 B1 K1 X1)
            | (go_at_call 25
               (with_reducible refine (cT _ X2 HG).mono ?_)
               rintro e v3 ⟨p, S3, rfl, A3, N3, k3⟩
               have H3 := hid (Al.made (w0 := v2) A3 N3 k3)
               clear A3 N3 k3)
            | (go_at_call 26
               (with_reducible refine (usedp16_any _ p S3 D (hid H3.out.at_) fitD hU).mono ?_)
               rintro e v4 ⟨rfl, O4⟩
               obtain ⟨S4, H4, N4, b4⟩ := H3.out.next O4
               clear N4 b4)
            | (go_at_call 20
               (with_reducible refine (inputp_any _ p S4 D (hid H4.out.at_) fitD y hr).mono ?_)
               rintro e v5 ⟨A5, n5, c5, rfl, hn5, L5, O5⟩
               obtain ⟨S5, H5, N5, b5⟩ := H4.out.next O5
               have hn5 : Hid (([20] : List Int).length = n5) := hn5
               have L5 : Hid (SlI v5 v5.heap.size A5 c5 ([20] : List Int)) := L5
               have H5 : Hid (Al v2 v5 p S5 D') := H5
               have B5 := hid (box_below B2.out H5.out.bel)
               have K5 := bel_t K2 H5.out.bel
               obtain rfl : n5 = 1 := hn5.out.symm
               clear N5 b5)
            | (refine ldF16 (by rfl) _ (by rfl) _ (by rfl) D.t hl B5 F0 ?_)
            | (refine ldF16 (by rfl) _ (by rfl) _ (by rfl) D.t hl B6 F0 ?_)
            | (refine ldF16 (by rfl) _ (by rfl) _ (by rfl) D.t hl B7 F0 ?_)
            | (refine ldF16 (by rfl) _ (by rfl) _ (by rfl) D.t hl B8 F0 ?_)
            | (go_at_call 27
               (with_reducible refine (L9.strip_b _ okD hz.out).mono ?_)
               rintro e v6 ⟨rfl, k6⟩
               have B6 := hid (box_below B5.out k6.out)
               have H6 := hid (H5.out.grow k6.out)
               have K6 := bel_t K5 k6.out
               obtain ⟨b6, o6, y6, rfl, hy6, cy6⟩ := sli_cell (sli16_up L5 k6).out (n := 1) rfl (j := 0) (by omega)
               obtain rfl : y6 = 20 := by simpa using hy6.symm
               have cz6 : World.cell? v6 ⟨b6, o6, none⟩ = some (.int .i64 20) := cy6
               clear cy6 B5 H5 K5 k6 L5)
            | (go_at_call 18
               (with_reducible refine (L15.isp_b _ D.t okD 10 z his).mono ?_)
               rintro e v7 ⟨rfl, k7⟩
               have B7 := hid (box_below B6.out k7.out)
               have H7 := hid (H6.out.grow k7.out)
               have K7 := bel_t K6 k7.out
               clear B6 H6 K6 k7)
            | (go_at_call 28
               (first
                 | ((with_reducible refine (has_b _ okD (op := 50) h50).mono ?_)
                    rintro e v8 ⟨rfl, k8⟩
                    have B8 := hid (box_below B7.out k8.out)
                    have H8 := hid (H7.out.grow k8.out)
                    have K8 := bel_t K7 k8.out
                    have c25 : World.cell? v8 ⟨w.heap.size, 25, none⟩ = some (.bool false) := by rw [B8.out.cell 25, F25.out, hnx]
                    clear B7 H7 K7 k8)
                 | ((with_reducible refine (has_b _ okD (op := 57) h57).mono ?_)
                    rintro e v9 ⟨rfl, k9⟩
                    have H9 := hid (H8.out.grow k9.out)
                    have K9 := bel_t K8 k9.out
                    clear k9)))
            | (go_at_call 26
               (with_reducible refine (usedp16_any _ p S5 D' (hid H9.out.at_) fitD' hused).mono ?_)
               rintro e v10 ⟨rfl, O10⟩
               obtain ⟨S10, H10, N10, b10⟩ := H9.out.next O10))
          go_ret
          exact ⟨rfl, bel_t K2 H10.out.bel⟩
  · have HG := hid hg
    clear hg
    go_enter Tryz.func5, Tryz.ntmps5
    go_wp2_with (first
      | (refine bxT (by rfl) 54 _ (by rfl) _ (by rfl) hsz.out ?_)
      | (go_at_call 15
         (with_reducible refine (alive_any _).mono ?_)
         rintro e v1 ⟨rfl, k1⟩
         have K1 := bel_t K0 k1.out
         have B1 := hid (box_below B0.out k1.out)
         have X1 := hid (X.out.grow K1.out)
         clear k1 B0 K0)
      | (refine ldX (by rfl) 54 Tryz.underlying54 _ (by rfl) _ (by rfl) B1 hsz ?_)
      | (go_at_call 24
         (with_reducible refine (cG _ X1 true HG).mono ?_)
         rintro e v2 ⟨rfl, k2⟩
         have K2 := bel_t K1 k2.out
         clear k2))
    go_ret
    exact ⟨rfl, K2⟩
end Go.Proofs.YtggcampdkgfmgaaGreat
