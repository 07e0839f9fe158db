import Derived.Test.YtjncahcigbdbgaaPC
import Derived.Deep.RegionHeld3
namespace Go.Proofs.Ytjncahcigbdbgaa
open Go.RowKit

/-! Layer 12, the document's: what goes out of bytes, and how many fit. -/
theorem byter_b (w : World) {t : Tm} (ht : t.Ok) (N : Nat) (hN : N ≤ 65535) (c : UInt8) {f : PoF} (hf : Hid (poF t = f)) {x : List UInt8} {M : Nat} (hx : Hid (byteP f N c = (x, M))) : Calls Try.prog 9 #[.agg t.cs, .int .i64 (N : Int), .int .u8 (c.toNat : Int)] w (RetP w (x, M)) := by
  have h := byter_any w ht (N : Int) c hf
  rwa [nrm_nat hN, hx.out] at h
set_option maxRecDepth 100000 in
set_option maxHeartbeats 2000000 in
theorem bytesr_any (w : World) {t : Tm} (ht : t.Ok) (col : Int) (A : Option Addr) (n c : Nat) (bs : List UInt8) {f : PoF} (hf : Hid (poF t = f)) (hb : Hid (SlB w w.heap.size A c bs)) (hn : bs.length = n) (hm : n ≤ 400000) :
    Calls Try.prog 12 #[.agg t.cs, .int .i64 col, .slice A n c] w (RetP w (bytesP f (nrm col) bs)) := by
  have hs := cs_size ht.len
  have K0 := old26 w t
  have HN := hid hn
  have hN := nrm_le col
  have hcol := fun w => columnr_any w col
  obtain ⟨N, hq⟩ : ∃ N, nrm col = N := ⟨_, rfl⟩
  rw [hq] at hN hcol ⊢
  clear hq
  go_enter Try.func12, Try.ntmps12
  go_wp2_with (first
    | (refine bx26 (by rfl) _ (by rfl) _ (by rfl) hs ?_
       intro G0)
    | (go_at_call 20
       (with_reducible refine (hcol _).mono ?_)
       rintro e u0 ⟨rfl, rfl⟩))
  go_loopw [1, 8, 16] (fun cl sh i wr => ∃ (k m M : Nat) (A2 : Option Addr) (c2 : Nat), k ≤ n ∧ m ≤ 2 * k ∧ M ≤ 65535 ∧ i = .int .i64 k ∧ cl = .int .i64 M ∧ sh = .slice A2 m c2 ∧ Hid ((bytesP f N (bs.take k)).2 = M) ∧ Hid ((bytesP f N (bs.take k)).1.length = m) ∧ Hid (wr.ownsRow w.heap.size 5 1 (.slice A2 m c2) m (bv (bytesP f N (bs.take k)).1)) ∧ Hid (Below w.heap.size w wr) ∧ Hid (Box wr w.heap.size 26 t.cs)) (fun _ _ i _ => n - (intOf i).toNat)
  case atStart => exact ⟨0, 0, N, none, 0, Nat.zero_le _, Nat.zero_le _, hN, rfl, rfl, rfl, hid rfl, hid rfl, hid (World.ownsRow_nil _ _ _ _), K0, G0⟩
  case round =>
    obtain ⟨k, m, M, A2, c2, hk, hm2, hM, rfl, rfl, rfl, HM, HL, HO, HB, HG⟩ := hrel
    by_cases hlt : k < n
    · have L1 := slb_at hb HB
      obtain ⟨b, o, y, rfl, hy, cy⟩ := slb_cell L1.out hn hlt
      have hat := bytesP_at (f := f) (col := N) hy
      rw [HM.out] at hat
      obtain ⟨⟨x, M2⟩, hx⟩ : ∃ z, Hid (byteP f M y = z) := ⟨_, hid rfl⟩
      rw [hx.out] at hat
      have hxl := byteP_len f M y
      have hM2 := byteP_le (f := f) (c := y) hM
      rw [hx.out] at hxl hM2
      have hxl : x.length ≤ 2 := hxl
      have hM2 : M2 ≤ 65535 := hM2
      obtain ⟨xs, hxs⟩ : ∃ xs, (bytesP f N (bs.take k)).1 = xs := ⟨_, rfl⟩
      rw [hxs] at hat HL HO
      have HAT := hid hat
      have HXL := hid hxl
      clear hat hxs hy hxl
      go_wp2_with (first
        | (refine ld26 (by rfl) _ (by rfl) _ (by rfl) t.cs HG.out hs ?_)
        | (go_at_call 9
           (with_reducible refine (byter_b _ ht M hM y hf hx).mono ?_)
           rintro e u1 ⟨A1, n1, c1, rfl, h1, S1, k1⟩
           have hn1 : n1 ≤ 2 := by rw [← h1.out]; exact HXL.out
           have B1 := bel_t HB k1.out
           have G1 := hid (box_below HG.out k1.out)
           have O1 := hid (own_keep HO.out k1.out)
           have hz1 := B1.out.size
           clear k1)
        | (at_builtin
           (refine app_own u1 (by rfl) (.tmp 27) (.tmp 28) rfl w.heap.size m c2 A2 xs rfl O1 hz1 A1 n1 c1 x rfl S1 h1.out (by omega) ?_)
           intro A3 c3 u3 O3 k3
           have B3 := bel_k B1 k3
           have G3 := box_k G1 k3))
      go_roundw
      case rel =>
        refine ⟨k + 1, m + n1, M2, A3, c3, by omega, by omega, hM2, by go_num, rfl, rfl, ?_, ?_, ?_, B3, G3⟩
        · rw [HAT.out]; exact hid rfl
        · rw [HAT.out]; exact hid (by rw [List.length_append, HL.out]; exact congrArg _ h1.out)
        · rw [HAT.out]; exact O3
      case measure => simp [intOf] <;> omega
    · have hkn : k = n := by omega
      have e : bs.take k = bs := List.take_of_length_le (by have := HN.out; omega)
      rw [e] at HM HL HO
      have hM3 := HM.out
      clear HM
      subst hM3
      go_wp2
      go_ret2
      exact ⟨_, _, _, rfl, HL, slb_own HL HO, HB⟩
/-- The same, behind whatever has been made. -/
theorem bytesr_grow (u W : World) (hW : Below u.heap.size u W) {t : Tm} (ht : t.Ok) (col : Int) (A : Option Addr) (n c : Nat) (bs : List UInt8) {f : PoF} (hf : Hid (poF t = f)) (hb : Hid (SlB u u.heap.size A c bs)) (hn : Hid (bs.length = n)) (hm : n ≤ 400000) {x : List UInt8} {M : Nat} (hx : Hid (bytesP f (nrm col) bs = (x, M))) :
    Calls Try.prog 12 #[.agg t.cs, .int .i64 col, .slice A n c] W fun e w' => ∃ A2 n2 c2, e = .returned (.tuple #[.slice A2 n2 c2, .int .i64 (M : Int)]) ∧ Hid (x.length = n2) ∧ Hid (SlB w' w'.heap.size A2 c2 x) ∧ Below u.heap.size u w' ∧ Below W.heap.size W w' := by
  refine (bytesr_any W ht col A n c bs hf (slb_up hb hW) hn.out hm).mono ?_
  rw [hx.out]
  rintro e w' ⟨A2, n2, c2, rfl, h1, h2, h3⟩
  exact ⟨A2, n2, c2, rfl, h1, h2, hW.trans (h3.out.mono hW.size), h3.out⟩
attribute [local go_sem ↓] ex_ld26
attribute [local go_sem] isP_v blkV_v aggV_v
set_option maxRecDepth 100000 in
set_option maxHeartbeats 4000000 in
theorem fitr_any (w : World) {t : Tm} (ht : t.Ok) (col : Int) (A : Option Addr) (n c : Nat) (bs : List UInt8) (room : Int) {f : PoF} (hf : Hid (poF t = f)) (hb : Hid (SlB w w.heap.size A c bs)) (hn : bs.length = n) (hm : n ≤ 400000) :
    Calls Try.prog 14 #[.agg t.cs, .int .i64 col, .slice A n c, .int .i64 room] w fun e w' => e = .returned (.int .i64 ((fitP f (nrm col) bs room : Nat) : Int)) ∧ Hid (Below w.heap.size w w') := by
  have hs := cs_size ht.len
  have K0 := old26 w t
  have HN := hid hn
  obtain ⟨r, hr⟩ : ∃ r, Hid (fitP f (nrm col) bs room = r) := ⟨_, hid rfl⟩
  have hr2 : Hid (fitN f (nrm col) bs room n = r) := hid (by rw [← hn]; exact hr.out)
  rw [hr.out]
  go_enter Try.func14, Try.ntmps14
  go_wp2_with (first
    | (refine bx26 (by rfl) _ (by rfl) _ (by rfl) hs ?_
       intro G0))
  go_loopw [9] (fun i wr => ∃ k : Nat, k ≤ n ∧ i = .int .i64 k ∧ Hid (fitN f (nrm col) bs room k = r) ∧ Hid (Below w.heap.size w wr) ∧ Hid (Box wr w.heap.size 26 t.cs)) (fun i _ => (intOf i).toNat)
  case atStart => exact ⟨n, Nat.le_refl _, rfl, hr2, K0, G0⟩
  case round =>
    obtain ⟨k, hk, rfl, HR, HB, HG⟩ := hrel
    by_cases h0 : k = 0
    · subst h0
      have hr0 : r = 0 := HR.out.symm
      subst hr0
      go_wp2
      go_ret
      exact ⟨rfl, HB⟩
    · obtain ⟨j, rfl⟩ : ∃ j, k = j + 1 := ⟨k - 1, by omega⟩
      have L1 := slb_at hb HB
      obtain ⟨kk, hkk⟩ : ∃ kk, j + 1 = kk := ⟨_, rfl⟩
      have fa := run_front L1.out hn (show kk ≤ n by omega)
      have LA : Hid (SlB wr wr.heap.size A c (bs.take kk)) := hid (L1.out.take kk)
      have na : Hid ((bs.take kk).length = kk) := hid (by rw [List.length_take, hn]; omega)
      obtain ⟨⟨x, M⟩, hx⟩ : ∃ z, Hid (bytesP f (nrm col) (bs.take kk) = z) := ⟨_, hid rfl⟩
      have hout : Hid (outN f (nrm col) bs kk = x.length) := hid (by unfold outN; rw [hx.out])
      have hstep : Hid (r = if (x.length : Int) ≤ room then kk else fitN f (nrm col) bs room j) := hid (by
        rw [← HR.out]
        show (if (outN f (nrm col) bs (j + 1) : Int) ≤ room then j + 1 else _) = _
        rw [hkk, hout.out])
      have hkm : kk ≤ 400000 := by omega
      have e1 : ((kk : Nat) : Int) - 1 = (j : Int) := by omega
      have hpos : (0 : Int) < (kk : Int) := by omega
      rw [hkk]
      clear hout h0 HR
      have bz : ∀ W, Below wr.heap.size wr W → isB W w.heap.size = true ∧ cs26 W w.heap.size = t.cs := fun W h => ⟨isB_mk (box_below HG.out h) hs, cs26_of (box_below HG.out h)⟩
      go_wp2
      go_region_held3 (fun u => isB u w.heap.size = true ∧ cs26 u w.heap.size = t.cs) (exact bz _ (by repeat (first | exact Below.refl _ _ | exact b6 | with_reducible apply bel_dr | with_reducible apply bel_al))) ((first
        | (go_at_call 12
           (with_reducible refine (bytesr_grow wr _ ?c1 ht col A kk c (bs.take kk) hf LA na hkm hx).mono ?_)
           case c1 => repeat (first | exact Below.refl _ _ | with_reducible apply bel_dr | with_reducible apply bel_al)
           rintro e u6 ⟨A6, n6, c6, rfl, hn6, S6, b6, d6⟩)))
      all_goals
        have B6 := bel_t HB b6
        have G6 := hid (box_below HG.out b6)
        clear bz
        by_cases hroom : (n6 : Int) ≤ room
        · have hrk : r = kk := by rw [hstep.out, hn6.out, if_pos hroom]
          subst hrk
          go_wp2
          go_ret
          exact ⟨rfl, B6⟩
        · have hrj : Hid (fitN f (nrm col) bs room j = r) := hid (by rw [hstep.out, hn6.out, if_neg hroom])
          go_wp2
          go_roundw
          case rel => exact ⟨j, by omega, by go_num, hrj, B6, G6⟩
          case measure => simp [intOf] <;> omega
end Go.Proofs.Ytjncahcigbdbgaa
