import Derived.Test.YtnalhkagdmfhbaaPED
namespace Go.Proofs.Ytnalhkagdmfhbaa
open Go.RowKit

theorem wpList_zero46 : (zeroP).size = 25 := penC_size rfl 0
def RetB (w : World) (x : List UInt8) (e : Ending) (w' : World) : Prop := ∃ A n c M, e = .returned (.tuple #[.slice A n c, .int .i64 M]) ∧ Hid (x.length = n) ∧ Hid (SlB w' w'.heap.size A c x) ∧ Hid (Below w.heap.size w w')
set_option maxRecDepth 100000 in
set_option maxHeartbeats 4000000 in
/-- What goes out, in whatever order a return statement's operands are taken. -/
theorem bytep_weak (w : World) {t : Tm} (ht : t.Ok) (col : Int) (c : UInt8) {f : PoF} (hf : Hid (poF t = f)) {x : List UInt8} {M : Nat} (hx : Hid (byteP f (nrm col) c = (x, M))) : Calls Try.prog 8 #[.agg t.cs, .int .i64 col, .int .u8 (c.toNat : Int)] w (RetB w x) := by
  have hs := cs_size ht.len
  have hl := ht.len
  have K0 := old26 w t
  have hN := nrm_le col
  obtain ⟨N, hq⟩ : ∃ N, Hid (nrm col = N) := ⟨_, hid rfl⟩
  rw [hq.out] at hN hx
  have h1 : 1 ≤ 1 := Nat.le_refl 1
  go_enter Try.func8, Try.ntmps8
  go_wp2_with (first
    | (refine bx26 (by rfl) _ (by rfl) _ (by rfl) hs ?_
       intro G0)
    | (refine ld26 (by rfl) _ (by rfl) _ (by rfl) t.cs G0.out hs ?_)
    | (go_at_call 18
       (with_reducible refine (at_any _ ht col hq).mono ?_)
       rintro e u1 ⟨rfl, k1⟩
       have K1 := bel_t K0 k1.out)
    | (refine snP (by rfl) _ _ (by rfl) u1 zeroP wpList_zero46 (by rfl) (by rfl) t N hl (by rfl) ?_
       intro u2 P2 k2 z2
       have K2 := bel_t K1 k2.out
       have g1 : w.heap.size ≤ u1.heap.size := K1.out.size
       have cn := P2.out.cell hl
       have cn2 : u2.drew.cell? ⟨u1.heap.size, 24, none⟩ = some (.int .i64 (N : Int)) := cn))
  have P2 : Hid (Pen u2.drew u1.heap.size t N) := P2
  have K2 : Hid (Below w.heap.size w u2.drew) := hid K2.out.drew
  go_region_law (first
    | (go_simp
       go_at_call 19
       (with_reducible refine (write_any _ P2 hN ht c hf hx).mono ?_)
       rintro e u3 ⟨A, n, c2, rfl, h3, S3, P3, K3⟩
       have K4 := bel_p K2 K3 g1
       have cn3 := P3.out.cell hl))
  all_goals
    go_wp2
    go_ret2
    exact ⟨A, n, c2, _, rfl, h3, S3, K4⟩
set_option maxRecDepth 100000 in
set_option maxHeartbeats 2000000 in
theorem bytesp_any (w : World) {t : Tm} (ht : t.Ok) (col : Int) (A : Option Addr) (n c : Nat) (bs : List UInt8) {f : PoF} (hf : Hid (poF t = f)) (hb : Hid (SlB w w.heap.size A c bs)) (hn : bs.length = n) (hm : n ≤ 400000) :
    Calls Try.prog 11 #[.agg t.cs, .int .i64 col, .slice A n c] w (RetP w (bytesP f (nrm col) bs)) := by
  have hs := cs_size ht.len
  have hl := ht.len
  have K0 := old26 w t
  have HN := hid hn
  have hN := nrm_le col
  obtain ⟨N, hq⟩ : ∃ N, Hid (nrm col = N) := ⟨_, hid rfl⟩
  rw [hq.out] at hN ⊢
  go_enter Try.func11, Try.ntmps11
  go_wp2_with (first
    | (refine bx26 (by rfl) _ (by rfl) _ (by rfl) hs ?_
       intro G0)
    | (refine ld26 (by rfl) _ (by rfl) _ (by rfl) t.cs G0.out hs ?_)
    | (go_at_call 18
       (with_reducible refine (at_any _ ht col hq).mono ?_)
       rintro e u1 ⟨rfl, k1⟩
       have K1 := bel_t K0 k1.out)
    | (refine snP (by rfl) _ _ (by rfl) u1 zeroP wpList_zero46 (by rfl) (by rfl) t N hl (by rfl) ?_
       intro u2 P2 k2 z2
       have K2 := bel_t K1 k2.out
       have g1 := K1.out.size))
  obtain ⟨g, hg⟩ : ∃ g, u1.heap.size = g := ⟨_, rfl⟩
  rw [hg] at P2 z2 g1 ⊢
  clear hg k2 k1 K1 G0 K0
  go_loopw [9, 17] (fun sh i wr => ∃ (k m M : Nat) (A2 : Option Addr) (c2 : Nat), k ≤ n ∧ m ≤ 2 * k ∧ M ≤ 65535 ∧ i = .int .i64 k ∧ sh = .slice A2 m c2 ∧ Hid ((bytesP f N (bs.take k)).2 = M) ∧ Hid ((bytesP f N (bs.take k)).1.length = m) ∧ Hid (wr.ownsRow w.heap.size 5 1 (.slice A2 m c2) m (bv (bytesP f N (bs.take k)).1)) ∧ Hid (Below w.heap.size w wr) ∧ Hid (Pen wr g t M)) (fun _ i _ => n - (intOf i).toNat)
  case atStart => exact ⟨0, 0, N, none, 0, Nat.zero_le _, Nat.zero_le _, hN, rfl, rfl, hid rfl, hid rfl, hid (World.ownsRow_nil _ _ _ _), K2, P2⟩
  case round =>
    obtain ⟨k, m, M, A2, c2, hk, hm2, hM, rfl, rfl, HM, HL, HO, HB, HG⟩ := hrel
    by_cases hlt : k < n
    · have L1 := slb_at hb HB
      obtain ⟨b, o, y, rfl, hy, cy⟩ := slb_cell L1.out hn hlt
      have hat := bytesP_at (f := f) (col := N) hy
      rw [HM.out] at hat
      obtain ⟨⟨x, M2⟩, hx⟩ : ∃ z, Hid (byteP f M y = z) := ⟨_, hid rfl⟩
      rw [hx.out] at hat
      have hxl := byteP_len f M y
      have hM2 := byteP_le (f := f) (c := y) hM
      rw [hx.out] at hxl hM2
      have hxl : x.length ≤ 2 := hxl
      have hM2 : M2 ≤ 65535 := hM2
      obtain ⟨xs, hxs⟩ : ∃ xs, (bytesP f N (bs.take k)).1 = xs := ⟨_, rfl⟩
      rw [hxs] at hat HL HO
      have HAT := hid hat
      have HXL := hid hxl
      clear hat hxs hy hxl
      go_wp2_with (first
        | (go_at_call 19
           (with_reducible refine (write_any _ HG hM ht y hf hx).mono ?_)
           rintro e u3 ⟨A1, n1, c1, rfl, h1, S1, P1, k1⟩
           have hn1 : n1 ≤ 2 := by rw [← h1.out]; exact HXL.out
           have B1 := bel_p HB k1 g1
           have O1 := hid (k1.out.own HO.out (by decide))
           have hz1 := B1.out.size
           clear k1)
        | (at_builtin
           (refine app_own u3 (by rfl) (.tmp 21) (.tmp 23) rfl w.heap.size m c2 A2 xs rfl O1 hz1 A1 n1 c1 x rfl S1 h1.out (by omega) ?_)
           intro A3 c3 u4 O3 k3
           have B3 := bel_k B1 k3
           have P3 := hid (k3.out.box P1.out (by decide))))
      go_roundw
      case rel =>
        refine ⟨k + 1, m + n1, M2, A3, c3, by omega, by omega, hM2, by go_num, rfl, ?_, ?_, ?_, B3, P3⟩
        · rw [HAT.out]; exact hid rfl
        · rw [HAT.out]; exact hid (by rw [List.length_append, HL.out]; exact congrArg _ h1.out)
        · rw [HAT.out]; exact O3
      case measure => simp [intOf] <;> omega
    · have hkn : k = n := by omega
      have e : bs.take k = bs := List.take_of_length_le (by have := HN.out; omega)
      rw [e] at HM HL HO
      have hM3 := HM.out
      clear HM
      have cn := HG.out.cell hl
      have cn2 : wr.drew.cell? ⟨g, 24, none⟩ = some (.int .i64 (M : Int)) := cn
      subst hM3
      go_wp2
      go_region
      all_goals
        go_wp2
        go_ret2
        exact ⟨_, _, _, rfl, hid (HL.out : _ = m), slb_own (hid (HL.out : _ = m)) (hid (HO.out.drew)), hid HB.out.drew⟩
/-- The same, behind whatever has been made. -/
theorem bytesp_grow (u W : World) (hW : Below u.heap.size u W) {t : Tm} (ht : t.Ok) (col : Int) (A : Option Addr) (n c : Nat) (bs : List UInt8) {f : PoF} (hf : Hid (poF t = f)) (hb : Hid (SlB u u.heap.size A c bs)) (hn : Hid (bs.length = n)) (hm : n ≤ 400000) {x : List UInt8} {M : Nat} (hx : Hid (bytesP f (nrm col) bs = (x, M))) :
    Calls Try.prog 11 #[.agg t.cs, .int .i64 col, .slice A n c] W fun e w' => ∃ A2 n2 c2, e = .returned (.tuple #[.slice A2 n2 c2, .int .i64 (M : Int)]) ∧ Hid (x.length = n2) ∧ Hid (SlB w' w'.heap.size A2 c2 x) ∧ Below u.heap.size u w' ∧ Below W.heap.size W w' := by
  refine (bytesp_any W ht col A n c bs hf (slb_up hb hW) hn.out hm).mono ?_
  rw [hx.out]
  rintro e w' ⟨A2, n2, c2, rfl, h1, h2, h3⟩
  exact ⟨A2, n2, c2, rfl, h1, h2, hW.trans (h3.out.mono hW.size), h3.out⟩
end Go.Proofs.Ytnalhkagdmfhbaa
