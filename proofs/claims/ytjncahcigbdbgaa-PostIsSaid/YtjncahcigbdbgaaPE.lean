import Derived.Test.YtjncahcigbdbgaaPEE
namespace Go.Proofs.Ytjncahcigbdbgaa
open Go.RowKit

theorem fitP_neg {f : PoF} {col : Nat} {l : List UInt8} {room : Int} (h : room < 0) : fitP f col l room = 0 := fitP_is (Nat.zero_le _) (Or.inl rfl) (Or.inr (by omega))
set_option maxRecDepth 100000 in
set_option maxHeartbeats 4000000 in
theorem fitp_any (w : World) {t : Tm} (ht : t.Ok) (col : Int) (A : Option Addr) (n c : Nat) (bs : List UInt8) (room : Int) {f : PoF} (hf : Hid (poF t = f)) (hb : Hid (SlB w w.heap.size A c bs)) (hn : bs.length = n) (hm : n ≤ 400000) (hri : room ≤ 9223372036854775807) :
    Calls Try.prog 13 #[.agg t.cs, .int .i64 col, .slice A n c, .int .i64 room] w fun e w' => e = .returned (.int .i64 ((fitP f (nrm col) bs room : Nat) : Int)) ∧ Hid (Below w.heap.size w w') := by
  have hs := cs_size ht.len
  have hl := ht.len
  have K0 := old26 w t
  have HN := hid hn
  have hN := nrm_le col
  obtain ⟨N, hq⟩ : ∃ N, Hid (nrm col = N) := ⟨_, hid rfl⟩
  rw [hq.out] at hN ⊢
  obtain ⟨r, hr⟩ : ∃ r, Hid (fitP f N bs room = r) := ⟨_, hid rfl⟩
  rw [hr.out]
  by_cases hr0 : room < 0
  · have h0 : r = 0 := by rw [← hr.out]; exact fitP_neg hr0
    subst h0
    go_enter Try.func13, Try.ntmps13
    go_wp2_with (first
      | (refine bx26 (by rfl) _ (by rfl) _ (by rfl) hs ?_
         intro G0))
    go_ret
    exact ⟨rfl, K0⟩
  · obtain ⟨R, rfl⟩ : ∃ R : Nat, room = (R : Int) := ⟨room.toNat, by omega⟩
    clear hr0
    have hRi : R ≤ 9223372036854775807 := by omega
    clear hri
    go_enter Try.func13, Try.ntmps13
    go_wp2_with (first
      | (refine bx26 (by rfl) _ (by rfl) _ (by rfl) hs ?_
         intro G0)
      | (refine ld26 (by rfl) _ (by rfl) _ (by rfl) t.cs G0.out hs ?_)
      | (go_at_call 18
         (with_reducible refine (at_any _ ht col hq).mono ?_)
         rintro e u1 ⟨rfl, k1⟩
         have K1 := bel_t K0 k1.out)
      | (refine snP (by rfl) _ _ (by rfl) u1 zeroP wpList_zero46 (by rfl) (by rfl) t N hl noV rfl (by rfl) ?_
         intro u2 P2 k2 z2
         have K2 := bel_t K1 k2.out
         have g1 : w.heap.size ≤ u1.heap.size := K1.out.size
         have s2 := st_new (B := w.heap.size) P2))
    obtain ⟨g, hg⟩ : ∃ g, u1.heap.size = g := ⟨_, rfl⟩
    rw [hg] at s2 z2 g1 ⊢
    clear hg k2 k1 K1 G0 K0 P2
    go_loopw [19] (fun i wr => ∃ (k m M : Nat) (A2 : Option Addr) (c2 : Nat), k ≤ n ∧ m ≤ 2 * k ∧ m ≤ R ∧ M ≤ 65535 ∧ i = .int .i64 k ∧ Hid ((bytesP f N (bs.take k)).2 = M) ∧ Hid (outN f N bs k = m) ∧ Hid (St wr w.heap.size g t M (bytesP f N (bs.take k)).1 A2 m c2) ∧ Hid (Below w.heap.size w wr)) (fun i _ => n - (intOf i).toNat)
    case atStart => exact ⟨0, 0, N, none, 0, Nat.zero_le _, Nat.zero_le _, Nat.zero_le _, hN, rfl, hid rfl, hid rfl, s2, K2⟩
    case round =>
      obtain ⟨k, m, M, A2, c2, hk, hm2, hmR, hM, rfl, HM, HO, HS, HB⟩ := hrel
      by_cases hlt : k < n
      · have L1 := slb_at hb HB
        obtain ⟨b, o2, y, rfl, hy, cy⟩ := slb_cell L1.out hn hlt
        have hat := bytesP_at (f := f) (col := N) hy
        rw [HM.out] at hat
        obtain ⟨⟨x, M2⟩, hx⟩ : ∃ z, Hid (byteP f M y = z) := ⟨_, hid rfl⟩
        rw [hx.out] at hat
        have hxl := byteP_len f M y
        have hM2 := byteP_le (f := f) (c := y) hM
        rw [hx.out] at hxl hM2
        have hxl : x.length ≤ 2 := hxl
        have hM2 : M2 ≤ 65535 := hM2
        obtain ⟨q, hxq⟩ : ∃ q, x.length = q := ⟨_, rfl⟩
        have HXQ := hid hxq
        rw [hxq] at hxl
        have HO2 : Hid (outN f N bs (k + 1) = m + q) := hid (by
          unfold outN
          rw [hat]
          show ((bytesP f N (bs.take k)).1 ++ x).length = _
          rw [List.length_append, hxq, ← HO.out]
          rfl)
        obtain ⟨xs, hxs⟩ : ∃ xs, (bytesP f N (bs.take k)).1 = xs := ⟨_, rfl⟩
        rw [hxs] at hat HS
        have HAT := hid hat
        clear hat hxs hy hxq
        have hw0 : IntKind.i64.wrap ((k : Int) + 1) = (k : Int) + 1 := by rw [IntKind.wrap_i64]; omega
        by_cases hov : R < m + q
        · have hrk : r = k := by
            rw [← hr.out]
            refine fitP_is (by rw [HN.out]; exact hk) (Or.inr ?_) (Or.inr ?_)
            · rw [HO.out]; omega
            · rw [HO2.out]; omega
          subst hrk
          have hovi : (R : Int) < ((m + q : Nat) : Int) := by omega
          go_wp2_with (first
            | (go_at_call 19
               (with_reducible refine (write_any HS g1 (by omega) hM ht y hf hx).mono ?_)
               rintro e u3 ⟨rfl, A3, m3, c3, S3, b3⟩
               have B3 : Hid (Below w.heap.size w u3) := hid (HB.out.trans b3.out)
               obtain rfl : m3 = m + q := by
                 have h1 := S3.out.len
                 have h2 := HS.out.len
                 rw [List.length_append, HXQ.out, h2] at h1
                 exact h1.symm
               have co3 := S3.out.pen.cell25 hl
               clear b3))
          go_ret
          exact ⟨rfl, B3⟩
        · have hovi : ¬ (R : Int) < ((m + q : Nat) : Int) := by omega
          go_wp2_with (first
            | (go_at_call 19
               (with_reducible refine (write_any HS g1 (by omega) hM ht y hf hx).mono ?_)
               rintro e u3 ⟨rfl, A3, m3, c3, S3, b3⟩
               have B3 : Hid (Below w.heap.size w u3) := hid (HB.out.trans b3.out)
               obtain rfl : m3 = m + q := by
                 have h1 := S3.out.len
                 have h2 := HS.out.len
                 rw [List.length_append, HXQ.out, h2] at h1
                 exact h1.symm
               have co3 := S3.out.pen.cell25 hl
               clear b3))
          go_roundw
          case rel =>
            refine ⟨k + 1, m + q, M2, A3, c3, by omega, by omega, by omega, hM2, by go_num, ?_, HO2, ?_, B3⟩
            · rw [HAT.out]; exact hid rfl
            · rw [HAT.out]; exact S3
          case measure => simp [intOf] <;> omega
      · have hkn : k = n := by omega
        have e : r = n := by
          rw [← hr.out]
          refine fitP_is (by rw [HN.out]; exact Nat.le_refl _) (Or.inr ?_) (Or.inl HN.out.symm)
          rw [← hkn, HO.out]
          omega
        subst e
        subst hkn
        go_wp2
        go_ret
        exact ⟨rfl, HB⟩
end Go.Proofs.Ytjncahcigbdbgaa
