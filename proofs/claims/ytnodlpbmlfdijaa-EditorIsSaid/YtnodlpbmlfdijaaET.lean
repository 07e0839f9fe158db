import Derived.Test.YtnodlpbmlfdijaaES
namespace Go.Proofs.Ytnodlpbmlfdijaa
open Go.RowKit

theorem u8_open {H : Type} {enc : TypeId × Value → H} {w : World} {base : Nat} {spare : Nat → Bool} {held : Bool} {v : Value} {d : DataW H} {p : List MemPlace} (h : DataW.Trod enc Try.prog w base spare held 5 v d p) (hv : ∃ z, v = .int .u8 z) : ∃ c : UInt8, v = .int .u8 (c.toNat : Int) := by
  obtain ⟨fuel, hf⟩ := h
  obtain ⟨z, rfl⟩ := hv
  obtain ⟨k0, e0, _, hw⟩ := DataW.trod_int Try.underlying5 hf
  simp only [Value.cells, List.cons.injEq, and_true] at e0
  injection e0 with _ e0
  subst e0
  have hb := bounds_u8 hw
  refine ⟨UInt8.ofNat z.toNat, ?_⟩
  have e : ((UInt8.ofNat z.toNat).toNat : Int) = z := by simp; omega
  rw [e]
set_option maxRecDepth 100000 in
set_option maxHeartbeats 16000000 in
theorem is_walk (w : World) (t : Tm) (ht : t.Ok) (A : Option Addr) (c n : Nat) (bs : List UInt8) (y : UInt8) (hb : Hid (SlB w w.heap.size A c bs)) (hn : bs.length = n) :
    Calls Try.prog 3 #[.agg t.cs, .slice A n c, .int .u8 (y.toNat : Int)] w fun e w' => e = .returned (.bool true) ∧ Hid (Below w.heap.size w w') := by
  have hs := cs_size ht.len
  have K0 := old26 w t
  have L0 := slb_at hb K0
  by_cases h1 : 1000 < n
  · have k1 : (1000 : Int) < (n : Int) := by omega
    go_enter Try.func3, Try.ntmps3
    go_wp2_with (first
      | (refine bx26 (by rfl) _ (by rfl) _ (by rfl) hs ?_
         intro G0)
      | (go_at_call 7
         (with_reducible refine (call_alive K0).mono ?_)
         rintro e u1 ⟨rfl, k, K1⟩))
    go_ret
    exact ⟨rfl, K1⟩
  · have k1 : ¬ (1000 : Int) < (n : Int) := by omega
    have hm : n ≤ 1000 := by omega
    have hm6 : n ≤ 1000000 := by omega
    obtain ⟨u, hu⟩ : ∃ u, Hid (hasN t.f 42 = u) := ⟨_, hid rfl⟩
    obtain ⟨pz, hpz⟩ : ∃ x, Hid (putA bs y = x) := ⟨_, hid rfl⟩
    obtain ⟨pb, hpb⟩ : ∃ x, Hid (putB bs = x) := ⟨_, hid rfl⟩
    obtain ⟨xa, hxa⟩ : ∃ x, Hid (eraA u bs = x) := ⟨_, hid rfl⟩
    obtain ⟨xb, hxb⟩ : ∃ x, Hid (eraB u bs = x) := ⟨_, hid rfl⟩
    obtain ⟨wa, hwa⟩ : ∃ x, Hid (restL u bs = x) := ⟨_, hid rfl⟩
    obtain ⟨wb, hwb⟩ : ∃ x, Hid (goneL u bs = x) := ⟨_, hid rfl⟩
    obtain ⟨us, hus⟩ : ∃ x, Hid (units u bs = x) := ⟨_, hid rfl⟩
    have hul : us.length ≤ 1000 := by have := units_len u bs; rw [hus.out, hn] at this; omega
    have HUL : Hid (∀ b ∈ us, b.length ≤ 1000000) := hid fun b hb => by
      rw [← hus.out] at hb
      have := (units_each u bs b hb).2
      omega
    have hpl : pz.length ≤ 1001 := by
      rw [← hpz.out]
      unfold putA
      split
      · omega
      · rw [List.length_append]; simp; omega
    have hal : xa.length ≤ 1000 := by have := eraA_len u bs; rw [hxa.out] at this; omega
    have hbl : xb.length ≤ 1000 := by have := eraB_len u bs; have := lastN_le u bs; rw [hxb.out] at *; omega
    have hwl : wa.length + wb.length ≤ 1000 := by have := congrArg List.length (word_join u bs); rw [hwa.out, hwb.out, List.length_append] at this; omega
    have hq1 : (pb != pb) = false := by simp
    go_enter Try.func3, Try.ntmps3
    go_wp2_with (first
      | (refine bx26 (by rfl) _ (by rfl) _ (by rfl) hs ?_
         intro G0)
      | (go_at_call 7
         (with_reducible refine (call_alive K0).mono ?_)
         rintro e v1 ⟨rfl, k, K1⟩
         have G1 := hid (box_below G0.out k.out)
         have L1 := slb_at L0 k
         clear k G0)
      | (at_builtin
         (first
           | (refine app_copy_g v1 (by rfl) (.tmp 29) (.tmp 30) rfl _ rfl rfl A n c bs rfl L1 (hid hn) hm6 ?_
              intro Ai ci v2 k2 oi
              have hwu : w.heap.size ≤ v2.heap.size := Nat.le_trans K1.out.size k2.out.size
              have HS2 : Hid (St w v2 v2 t [(Ai, n, ci, bs), (A, n, c, bs)] []) := hid ⟨(bel_trans K1 k2).out, Below.refl _ _, box_below G1.out k2.out, fun r hr => (by
                rcases List.mem_cons.1 hr with rfl | hr
                · exact slb_own (hid hn) oi
                · rcases List.mem_cons.1 hr with rfl | hr
                  · exact slb_at L1 k2
                  · cases hr), fun v hv => (by cases hv)⟩
              clear k2 G1 L1 K1)
           | (refine app_five v14 rfl (.tmp 117) (.tmp 118) rfl [.slice A3 n3 c3, .slice A5 n5 c5, .slice B5 m5 d5, .slice A7 n7 c7, .slice B7 m7 d7] _ rfl 5 rfl (fun v hv => (by simp at hv; rcases hv with rfl | rfl | rfl | rfl | rfl <;> rfl)) _ rfl rfl LA k lc cs rfl HU14 (fun v hv => (by simp at hv ⊢; rcases hv with rfl | rfl | rfl | rfl | rfl <;> simp)) hwu (by omega) ?_
              intro AL cL v15 HSh)))
      | (go_at_call 8
         (with_reducible refine (put_any _ Ai n ci bs y (HS2.out.rows (Ai, n, ci, bs) (by simp)) hn hm).mono ?_)
         rw [hpz.out, hpb.out]
         rintro e v3 ⟨A3, n3, c3, rfl, h3, o3, k3⟩
         have HS3 := hid ((HS2.out.keep k3.out).own h3 o3 HS2.out.bm.size)
         clear o3 k3)
      | (go_at_call 9
         (with_reducible refine (putr_any _ A n c bs y (HS3.out.rows (A, n, c, bs) (by simp)) hn hm).mono ?_)
         rw [hpz.out, hpb.out]
         rintro e v4 ⟨A4, n4, c4, rfl, h4, o4, k4⟩
         have HS4 := hid ((HS3.out.keep k4.out).row (n := n4) (slb_own h4 o4))
         clear o4 k4)
      | (refine ld26 (by rfl) _ (by rfl) _ (by rfl) t.cs HS4.out.box hs ?_)
      | (refine ld26 (by rfl) _ (by rfl) _ (by rfl) t.cs HS5.out.box hs ?_)
      | (refine ld26 (by rfl) _ (by rfl) _ (by rfl) t.cs HS6.out.box hs ?_)
      | (refine ld26 (by rfl) _ (by rfl) _ (by rfl) t.cs HS7.out.box hs ?_)
      | (refine ld26 (by rfl) _ (by rfl) _ (by rfl) t.cs HS8.out.box hs ?_)
      | (go_at_call 10
         (with_reducible refine (erase_any _ t ht Ai n ci bs hu (HS4.out.rows (Ai, n, ci, bs) (by simp)) hn hm6).mono ?_)
         rw [hxa.out, hxb.out]
         rintro e v5 ⟨A5, n5, c5, B5, m5, d5, rfl, h5, g5, o5, p5, k5⟩
         have HS5 := hid (((HS4.out.keep k5.out).own h5 o5 HS4.out.bm.size).own g5 p5 HS4.out.bm.size)
         clear o5 p5 k5)
      | (go_at_call 11
         (with_reducible refine (eraser_any _ t ht A n c bs hu (HS5.out.rows (A, n, c, bs) (by simp)) hn hm6).mono ?_)
         rw [hxa.out, hxb.out]
         rintro e v6 ⟨A6, n6, c6, B6, m6, d6, rfl, h6, g6, o6, p6, k6⟩
         have HS6 := hid (((HS5.out.keep k6.out).row (n := n6) (slb_own h6 o6)).row (n := m6) (slb_own g6 p6))
         clear o6 p6 k6)
      | (go_at_call 12
         (with_reducible refine (word_any _ t ht Ai n ci bs hu (HS6.out.rows (Ai, n, ci, bs) (by simp)) hn hm6).mono ?_)
         rw [hwa.out, hwb.out]
         rintro e v7 ⟨A7, n7, c7, B7, m7, d7, rfl, h7, g7, o7, p7, k7⟩
         have HS7 := hid (((HS6.out.keep k7.out).own h7 o7 HS6.out.bm.size).own g7 p7 HS6.out.bm.size)
         clear o7 p7 k7)
      | (go_at_call 13
         (with_reducible refine (wordr_any _ t ht A n c bs hu (HS7.out.rows (A, n, c, bs) (by simp)) hn hm6).mono ?_)
         rw [hwa.out, hwb.out]
         rintro e v8 ⟨A8, n8, c8, B8, m8, d8, rfl, h8, g8, o8, p8, k8⟩
         have HS8 := hid (((HS7.out.keep k8.out).row (n := n8) (slb_own h8 o8)).row (n := m8) (slb_own g8 p8))
         clear o8 p8 k8)
      | (go_at_call 14
         (with_reducible refine (units_any _ t ht Ai n ci bs hu (HS8.out.rows (Ai, n, ci, bs) (by simp)) hn hm6).mono ?_)
         rw [hus.out]
         rintro e v9 ⟨LA, k, lc, cs, rfl, hk, ou, pu, k9⟩
         have HU9 := hid (StU.mk (HS8.out.keep k9.out) (own_mono ou.out HS8.out.bm.size) (pu.out.mono HS8.out.bm.size))
         have hk6 : k ≤ 1000 := by have := hk.out; omega
         clear ou pu k9)
      | (go_at_call 15
         (first
           | ((with_reducible refine (bytes_two _ A3 A4 c3 c4 n3 n4 pz pz h3.out h4.out (Eq.refl pz) (HU9.out.st.rows (A3, n3, c3, pz) (by simp)) (HU9.out.st.rows (A4, n4, c4, pz) (by simp)) (by have := h3.out; unfold maxLen; omega)).mono ?_)
              rintro e v10 ⟨rfl, q10⟩
              have HU10 := hid (HU9.out.keep q10.out)
              clear q10)
           | ((with_reducible refine (bytes_two _ A5 A6 c5 c6 n5 n6 xa xa h5.out h6.out (Eq.refl xa) (HU10.out.st.rows (A5, n5, c5, xa) (by simp)) (HU10.out.st.rows (A6, n6, c6, xa) (by simp)) (by have := h5.out; unfold maxLen; omega)).mono ?_)
              rintro e v11 ⟨rfl, q11⟩
              have HU11 := hid (HU10.out.keep q11.out)
              clear q11)
           | ((with_reducible refine (bytes_two _ B5 B6 d5 d6 m5 m6 xb xb g5.out g6.out (Eq.refl xb) (HU11.out.st.rows (B5, m5, d5, xb) (by simp)) (HU11.out.st.rows (B6, m6, d6, xb) (by simp)) (by have := g5.out; unfold maxLen; omega)).mono ?_)
              rintro e v12 ⟨rfl, q12⟩
              have HU12 := hid (HU11.out.keep q12.out)
              clear q12)
           | ((with_reducible refine (bytes_two _ A7 A8 c7 c8 n7 n8 wa wa h7.out h8.out (Eq.refl wa) (HU12.out.st.rows (A7, n7, c7, wa) (by simp)) (HU12.out.st.rows (A8, n8, c8, wa) (by simp)) (by have := h7.out; unfold maxLen; omega)).mono ?_)
              rintro e v13 ⟨rfl, q13⟩
              have HU13 := hid (HU12.out.keep q13.out)
              clear q13)
           | ((with_reducible refine (bytes_two _ B7 B8 d7 d8 m7 m8 wb wb g7.out g8.out (Eq.refl wb) (HU13.out.st.rows (B7, m7, d7, wb) (by simp)) (HU13.out.st.rows (B8, m8, d8, wb) (by simp)) (by have := g7.out; unfold maxLen; omega)).mono ?_)
              rintro e v131 ⟨rfl, q131⟩
              have HU131 := hid (HU13.out.keep q131.out)
              clear q131)))
      | (refine ld26 (by rfl) _ (by rfl) _ (by rfl) t.cs HU131.out.st.box hs ?_)
      | (go_at_call 17
         (with_reducible refine (unitsr_any _ t ht A n c bs hu (HU131.out.st.rows (A, n, c, bs) (by simp)) hn hm6).mono ?_)
         rw [hus.out]
         rintro e v132 ⟨LB, kb, lcb, csb, rfl, hkb, ob, pb2, k132⟩
         have HU132 := hid (HU131.out.keep k132.out)
         have VB := hid (pb2.out.lis ob.out)
         clear ob pb2 k132)
      | (go_at_call 16
         (with_reducible refine (lists_two _ LA LB lc lcb k kb us us hk.out hkb.out (Eq.refl us) HU132.out.lis VB (by omega) HUL).mono ?_)
         rintro e v14 ⟨rfl, k14⟩
         have HU14 := hid (HU132.out.keep k14.out)))
    have hwb5 : n5 ≤ 1000 ∧ m5 ≤ 1000 ∧ n7 ≤ 1000 ∧ m7 ≤ 1000 := ⟨by rw [← h5.out]; omega, by rw [← g5.out]; omega, by rw [← h7.out]; omega, by rw [← g7.out]; omega⟩
    have HIN := hid ((slb_own (hid hn) oi).out)
    generalize [Value.slice A3 n3 c3, .slice A5 n5 c5, .slice B5 m5 d5, .slice A7 n7 c7, .slice B7 m7 d7] ++ cs = ls at HSh
    clear HU9 HU10 HU11 HU12 HU13 HU131 HU132 HU14 HS2 HS3 HS4 HS5 HS6 HS7 HS8 k14 VB K0 L0
    go_loopw [121] (fun i wr => ∃ j : Nat, j ≤ 5 + k ∧ i = .int .i64 (j : Int) ∧ Hid (Sh w v2 wr AL (5 + k) cL ls)) (fun i _ => 5 + k - (intOf i).toNat)
    case atStart => exact ⟨0, Nat.zero_le _, rfl, HSh⟩
    case round =>
      obtain ⟨j, hj, rfl, HS⟩ := hrel
      have hll : ls.length = 5 + k := by simpa using HS.out.own.1
      by_cases hjk : j < 5 + k
      · have kj : (j : Int) < 5 + (k : Int) := by omega
        obtain ⟨b1, o1, hAL, _, hcl⟩ := Lies.own HS.out.own (by rintro rfl; simp at hll; omega)
        subst hAL
        obtain ⟨v, hv⟩ : ∃ v, ls[j]? = some v := ⟨_, List.getElem?_eq_getElem (by omega)⟩
        have hc1 := hcl j v hv
        have hmem := List.mem_of_getElem? hv
        obtain ⟨A9, n9, c9, rfl, hmx, hb9⟩ := HS.out.mus v hmem
        unfold maxLen at hmx
        have HM := hid hmem
        clear hcl hv hmem hb9
        go_wp2
        go_loopw [127] (fun i wr => ∃ x : Nat, x ≤ n9 ∧ i = .int .i64 (x : Int) ∧ Hid (Sh w v2 wr (some ⟨b1, o1, none⟩) (5 + k) cL ls)) (fun i _ => n9 - (intOf i).toNat)
        case atStart => exact ⟨0, Nat.zero_le _, rfl, HS⟩
        case round =>
          obtain ⟨x, hx, rfl, HS9⟩ := hrel
          by_cases hxn : x < n9
          · have kx : (x : Int) < (n9 : Int) := by omega
            obtain ⟨A8, n8, c8, e8, _, hb8⟩ := HS9.out.mus _ HM.out
            injection e8 with e81 e82 e83
            subst e81 e82 e83
            obtain ⟨g, bx, rfl, hg, hbox, hz⟩ := hb8 (by omega)
            obtain ⟨z, hz⟩ := hz x hxn
            have q1 : wr.cell? ⟨g, x, none⟩ = some (.int .u8 z) := (hbox.cell x).trans hz
            have f1 := hbox.frozen x
            have HBX := hid hbox
            clear hz hbox
            go_wp2
            go_roundw
            case rel => exact ⟨x + 1, by omega, by go_num, hid (HS9.out.store hwu hg HBX.out _ _)⟩
            case measure => simp [intOf]; omega
          · have kx : ¬ (x : Int) < (n9 : Int) := by omega
            go_wp2
            go_roundw
            case rel => exact ⟨j + 1, by omega, by go_num, HS9⟩
            case measure => simp [intOf]; omega
      · have kj : ¬ (j : Int) < 5 + (k : Int) := by omega
        have SI := hid ((HIN.out.below HS.out.bm).more HS.out.bm.size)
        have SL := slb_at hb (hid HS.out.bel)
        have HB := hid HS.out.bel
        go_wp2_with (first
          | (go_at_call 15
             (with_reducible refine (bytes_two _ Ai A ci c n n bs bs hn hn (Eq.refl bs) SI SL (by unfold maxLen; omega)).mono ?_)
             rintro e v16 ⟨rfl, k16⟩
             have K16 := bel_t HB k16.out))
        go_ret
        exact ⟨rfl, K16⟩
end Go.Proofs.Ytnodlpbmlfdijaa
