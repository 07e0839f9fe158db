import Derived.Test.YtjncahcigbdbgaaPED
namespace Go.Proofs.Ytjncahcigbdbgaa
open Go.RowKit

theorem wpList_zero46 : (zeroP).size = 26 := penC_size rfl 0 noV
theorem st_new {w : World} {B g N : Nat} {t : Tm} (h : Hid (Pen w g t N noV)) : Hid (St w B g t N [] none 0 0) := hid ⟨rfl, h.out, World.ownsRow_nil _ _ _ _⟩
theorem st_ret {w u v : World} {g N n c : Nat} {t : Tm} {xs : List UInt8} {A : Option Addr} (h : Hid (St u w.heap.size g t N xs A n c)) (hb : Hid (Below w.heap.size w u)) (hv : v = u.drew) : RetP w (xs, N) (.returned (.tuple #[.slice A n c, .int .i64 (N : Int)])) v := by
  subst hv
  exact ⟨A, n, c, rfl, hid h.out.len, slb_own (hid h.out.len) (hid (h.out.own.drew)), hid hb.out.drew⟩
set_option maxRecDepth 100000 in
set_option maxHeartbeats 4000000 in
theorem bytep_any (w : World) {t : Tm} (ht : t.Ok) (col : Int) (c : UInt8) {f : PoF} (hf : Hid (poF t = f)) : Calls Try.prog 8 #[.agg t.cs, .int .i64 col, .int .u8 (c.toNat : Int)] w (RetP w (byteP f (nrm col) c)) := by
  have hs := cs_size ht.len
  have hl := ht.len
  have K0 := old26 w t
  have hN := nrm_le col
  obtain ⟨N, hq⟩ : ∃ N, Hid (nrm col = N) := ⟨_, hid rfl⟩
  rw [hq.out] at hN ⊢
  obtain ⟨⟨x, M⟩, hx⟩ : ∃ z, Hid (byteP f N c = z) := ⟨_, hid rfl⟩
  rw [hx.out]
  go_enter Try.func8, Try.ntmps8
  go_wp2_with (first
    | (refine bx26 (by rfl) _ (by rfl) _ (by rfl) hs ?_
       intro G0)
    | (refine ld26 (by rfl) _ (by rfl) _ (by rfl) t.cs G0.out hs ?_)
    | (go_at_call 18
       (with_reducible refine (at_any _ ht col hq).mono ?_)
       rintro e u1 ⟨rfl, k1⟩
       have K1 := bel_t K0 k1.out)
    | (refine snP (by rfl) _ _ (by rfl) u1 zeroP wpList_zero46 (by rfl) (by rfl) t N hl noV rfl (by rfl) ?_
       intro u2 P2 k2 z2
       have K2 := bel_t K1 k2.out
       have g1 : w.heap.size ≤ u1.heap.size := K1.out.size
       have s2 := st_new (B := w.heap.size) P2)
    | (go_at_call 19
       (with_reducible refine (write_any s2 g1 (Nat.zero_le _) hN ht c hf hx).mono ?_)
       rintro e u3 ⟨rfl, A, n, c2, s3, B3⟩
       have s4 := St.eq s3 (List.nil_append x)
       have K4 : Hid (Below w.heap.size w u3) := hid (K2.out.trans B3.out)
       have cn3 := s4.out.pen.cell hl
       have cn4 : u3.drew.cell? ⟨u1.heap.size, 24, none⟩ = some (.int .i64 (M : Int)) := cn3
       have co3 := s4.out.pen.cell25 hl
       have co4 : u3.drew.cell? ⟨u1.heap.size, 25, none⟩ = some (.slice A n c2) := co3))
  go_region
  all_goals
    go_wp2
    go_ret2
    exact st_ret s4 K4 rfl
theorem bytep_b (w : World) {t : Tm} (ht : t.Ok) (N : Nat) (hN : N ≤ 65535) (c : UInt8) {f : PoF} (hf : Hid (poF t = f)) {x : List UInt8} {M : Nat} (hx : Hid (byteP f N c = (x, M))) : Calls Try.prog 8 #[.agg t.cs, .int .i64 (N : Int), .int .u8 (c.toNat : Int)] w (RetP w (x, M)) := by
  have h := bytep_any w ht (N : Int) c hf
  rwa [nrm_nat hN, hx.out] at h
set_option maxRecDepth 100000 in
set_option maxHeartbeats 2000000 in
theorem bytesp_any (w : World) {t : Tm} (ht : t.Ok) (col : Int) (A : Option Addr) (n c : Nat) (bs : List UInt8) {f : PoF} (hf : Hid (poF t = f)) (hb : Hid (SlB w w.heap.size A c bs)) (hn : bs.length = n) (hm : n ≤ 400000) :
    Calls Try.prog 11 #[.agg t.cs, .int .i64 col, .slice A n c] w (RetP w (bytesP f (nrm col) bs)) := by
  have hs := cs_size ht.len
  have hl := ht.len
  have K0 := old26 w t
  have HN := hid hn
  have hN := nrm_le col
  obtain ⟨N, hq⟩ : ∃ N, Hid (nrm col = N) := ⟨_, hid rfl⟩
  rw [hq.out] at hN ⊢
  go_enter Try.func11, Try.ntmps11
  go_wp2_with (first
    | (refine bx26 (by rfl) _ (by rfl) _ (by rfl) hs ?_
       intro G0)
    | (refine ld26 (by rfl) _ (by rfl) _ (by rfl) t.cs G0.out hs ?_)
    | (go_at_call 18
       (with_reducible refine (at_any _ ht col hq).mono ?_)
       rintro e u1 ⟨rfl, k1⟩
       have K1 := bel_t K0 k1.out)
    | (refine snP (by rfl) _ _ (by rfl) u1 zeroP wpList_zero46 (by rfl) (by rfl) t N hl noV rfl (by rfl) ?_
       intro u2 P2 k2 z2
       have K2 := bel_t K1 k2.out
       have g1 : w.heap.size ≤ u1.heap.size := K1.out.size
       have s2 := st_new (B := w.heap.size) P2))
  obtain ⟨g, hg⟩ : ∃ g, u1.heap.size = g := ⟨_, rfl⟩
  rw [hg] at s2 z2 g1 ⊢
  clear hg k2 k1 K1 G0 K0 P2
  go_loopw [16] (fun i wr => ∃ (k m M : Nat) (A2 : Option Addr) (c2 : Nat), k ≤ n ∧ m ≤ 2 * k ∧ M ≤ 65535 ∧ i = .int .i64 k ∧ Hid ((bytesP f N (bs.take k)).2 = M) ∧ Hid (St wr w.heap.size g t M (bytesP f N (bs.take k)).1 A2 m c2) ∧ Hid (Below w.heap.size w wr)) (fun i _ => n - (intOf i).toNat)
  case atStart => exact ⟨0, 0, N, none, 0, Nat.zero_le _, Nat.zero_le _, hN, rfl, hid rfl, s2, K2⟩
  case round =>
    obtain ⟨k, m, M, A2, c2, hk, hm2, hM, rfl, HM, HS, HB⟩ := hrel
    by_cases hlt : k < n
    · have L1 := slb_at hb HB
      obtain ⟨b, o, y, rfl, hy, cy⟩ := slb_cell L1.out hn hlt
      have hat := bytesP_at (f := f) (col := N) hy
      rw [HM.out] at hat
      obtain ⟨⟨x, M2⟩, hx⟩ : ∃ z, Hid (byteP f M y = z) := ⟨_, hid rfl⟩
      rw [hx.out] at hat
      have hxl := byteP_len f M y
      have hM2 := byteP_le (f := f) (c := y) hM
      rw [hx.out] at hxl hM2
      have hxl : x.length ≤ 2 := hxl
      have hM2 : M2 ≤ 65535 := hM2
      obtain ⟨xs, hxs⟩ : ∃ xs, (bytesP f N (bs.take k)).1 = xs := ⟨_, rfl⟩
      rw [hxs] at hat HS
      have HAT := hid hat
      have HXL := hid hxl
      clear hat hxs hy hxl
      go_wp2_with (first
        | (go_at_call 19
           (with_reducible refine (write_any HS g1 (by omega) hM ht y hf hx).mono ?_)
           rintro e u3 ⟨rfl, A3, m3, c3, S3, b3⟩
           have B3 : Hid (Below w.heap.size w u3) := hid (HB.out.trans b3.out)
           have hm3 : m3 ≤ m + 2 := by
             have h1 := S3.out.len
             have h2 := HS.out.len
             have h3 := HXL.out
             rw [List.length_append] at h1
             omega
           clear b3))
      go_roundw
      case rel =>
        refine ⟨k + 1, m3, M2, A3, c3, by omega, by omega, hM2, by go_num, ?_, ?_, B3⟩
        · rw [HAT.out]; exact hid rfl
        · rw [HAT.out]; exact S3
      case measure => simp [intOf] <;> omega
    · have hkn : k = n := by omega
      have e : bs.take k = bs := List.take_of_length_le (by have := HN.out; omega)
      rw [e] at HM HS
      have hM3 := HM.out
      clear HM
      have cn := HS.out.pen.cell hl
      have cn2 : wr.drew.cell? ⟨g, 24, none⟩ = some (.int .i64 (M : Int)) := cn
      have co := HS.out.pen.cell25 hl
      have co2 : wr.drew.cell? ⟨g, 25, none⟩ = some (.slice A2 m c2) := co
      subst hM3
      go_wp2
      go_region
      all_goals
        go_wp2
        go_ret2
        exact st_ret HS HB rfl
/-- The same, behind whatever has been made. -/
theorem bytesp_grow (u W : World) (hW : Below u.heap.size u W) {t : Tm} (ht : t.Ok) (col : Int) (A : Option Addr) (n c : Nat) (bs : List UInt8) {f : PoF} (hf : Hid (poF t = f)) (hb : Hid (SlB u u.heap.size A c bs)) (hn : Hid (bs.length = n)) (hm : n ≤ 400000) {x : List UInt8} {M : Nat} (hx : Hid (bytesP f (nrm col) bs = (x, M))) :
    Calls Try.prog 11 #[.agg t.cs, .int .i64 col, .slice A n c] W fun e w' => ∃ A2 n2 c2, e = .returned (.tuple #[.slice A2 n2 c2, .int .i64 (M : Int)]) ∧ Hid (x.length = n2) ∧ Hid (SlB w' w'.heap.size A2 c2 x) ∧ Below u.heap.size u w' ∧ Below W.heap.size W w' := by
  refine (bytesp_any W ht col A n c bs hf (slb_up hb hW) hn.out hm).mono ?_
  rw [hx.out]
  rintro e w' ⟨A2, n2, c2, rfl, h1, h2, h3⟩
  exact ⟨A2, n2, c2, rfl, h1, h2, hW.trans (h3.out.mono hW.size), h3.out⟩
end Go.Proofs.Ytjncahcigbdbgaa
