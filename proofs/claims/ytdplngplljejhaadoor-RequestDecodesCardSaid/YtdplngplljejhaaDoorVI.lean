import Derived.Test.YtdplngplljejhaaDoorVC
namespace Go.Proofs.YtdplngplljejhaaDoor
open Go.RowKit

set_option maxRecDepth 100000 in
set_option maxHeartbeats 8000000 in
theorem rdec_exec (k : Rw) (w : World) (nm : ByteArray) (A : Option Addr) (c n : Nat) (bs : List UInt8) (fs : List Fd) (hb : Hid (SlB w w.heap.size A c bs)) (hn : bs.length = n) (hbl : n ≤ 100000) (hX : Hid (rowN nm Rw.all = some k)) (hR : Hid (readF k.kinds bs = (0, fs))) (hk : Hid (k = .exec)) (r : Rq) (hr : Hid (k.get fs { zeroR with kind := k.kind } = r)) (fl : Int) (hfl : Hid ((k.put r .zero).fault = fl)) :
    Calls Tryd.prog 7 #[.string nm, .slice A n c] w (DecF w r fl) := by
  have HK := hid (kat_some hX.out)
  have hkb := kind_bd k
  have B4 : Hid (Box ((w.alloc (.cells (kz 0) 28)).alloc (.cells (kz 0) 28)) w.heap.size 28 (kz 0)) := hid (box_below (Box.new w 28 _) ((Below.refl _ _).alloc (Nat.le_refl _) _))
  have B6 : Hid (Box ((w.alloc (.cells (kz 0) 28)).alloc (.cells (kz 0) 28)) (w.heap.size + 1) 28 (kz 0)) := hid (by have h := Box.new (w.alloc (.cells (kz 0) 28)) 28 (kz 0); rwa [World.size_alloc] at h)
  have K0 : Hid (Below w.heap.size w ((w.alloc (.cells (kz 0) 28)).alloc (.cells (kz 0) 28))) := hid (((Below.refl _ w).alloc (Nat.le_refl _) _).alloc (by simp) _)
  go_enter Tryd.func7, Tryd.ntmps7
  go_wp2_with (first
    | (refine st28 (by rfl) _ _ (by rfl) (w.heap.size + 1) (by rfl) (kz 0) rfl (kz_one 0) (by rfl) (kz 0) B6.out rfl ?_
       intro u1 X1 t1
       have Y1 := hid (t1.out.box B4.out (by omega))
       have K1 := hid (K0.out.trans (t1.out.below (by omega)))
       clear B4 B6 K0 t1))
  go_loopw [7] (fun i wr => ∃ (j : Nat) (K : Int), j ≤ 10 ∧ i = .int .i64 ((j + 1 : Nat) : Int) ∧ Hid (kat nm (Rw.all.take j) 0 = K) ∧ Hid (Box wr (w.heap.size + 1) 28 (kz K)) ∧ Hid (Box wr w.heap.size 28 (kz 0)) ∧ Hid (Below w.heap.size w wr)) (fun i _ => 12 - (intOf i).toNat)
  case atStart => exact ⟨0, 0, by omega, rfl, hid rfl, X1, Y1, K1⟩
  case round =>
    clear X1 Y1 K1 u1
    obtain ⟨j, K, hj, rfl, HKA, X2, Y2, K2⟩ := hrel
    by_cases hlt : j < 10
    · have hst := kat_step nm j hlt
      have hkd := kind_at j hlt
      generalize (Rw.all[j]'(by exact hlt)) = x at hst hkd
      rw [← hkd]
      have hle : x.kind ≤ 10 := by omega
      have hge : 1 ≤ x.kind := by omega
      have HS := hid hst
      have HKD := hid hkd
      clear hst hkd
      have c0 : wr.cell? ⟨w.heap.size + 1, 0, none⟩ = some (.int .i64 K) := X2.out.cell 0
      have f0 : wr.frozen? ⟨w.heap.size + 1, 0, none⟩ = false := X2.out.frozen 0
      by_cases he : x.name = nm
      · have he2 := toL_eq he
        have HS2 : Hid (kat nm (Rw.all.take (j + 1)) 0 = x.kind) := hid (by rw [HS.out, if_pos he])
        clear he
        go_wp2_with (
          go_at_call 23
          (with_reducible refine (qname_x x _).mono ?_)
          rintro e w' ⟨rfl, rfl⟩)
        go_roundw
        case rel => exact ⟨j + 1, x.kind, by omega, by (have h := HKD.out; rw [h]; go_num), HS2, hid (X2.out.store 0 _), hid ((Turn.setCell _ _ 0 _).box Y2.out (by omega)), hid (K2.out.trans ((Turn.setCell _ _ 0 _).below (by omega)))⟩
        case measure => (have h := HKD.out; rw [h]; simp only [intOf]; omega)
      · have hne := toL_ne he
        have HS2 : Hid (kat nm (Rw.all.take (j + 1)) 0 = K) := hid (by rw [HS.out, if_neg he]; exact HKA.out)
        clear he
        go_wp2_with (
          go_at_call 23
          (with_reducible refine (qname_x x _).mono ?_)
          rintro e w' ⟨rfl, rfl⟩)
        go_roundw
        case rel => exact ⟨j + 1, K, by omega, by (have h := HKD.out; rw [h]; go_num), HS2, X2, Y2, K2⟩
        case measure => (have h := HKD.out; rw [h]; simp only [intOf]; omega)
    · obtain rfl : j = 10 := by omega
      obtain rfl : K = k.kind := HKA.out.symm.trans HK.out
      rw [show ((10 + 1 : Nat) : Int) = 11 from rfl]
      have hk0 : (k.kind == 0) = false := by simp; omega
      have c0 : wr.cell? ⟨w.heap.size + 1, 0, none⟩ = some (.int .i64 k.kind) := X2.out.cell 0
      clear hlt hj HKA HK
      go_wp2_with (first
        | (refine ld28 (by rfl) _ (by rfl) (w.heap.size + 1) (by rfl) (kz k.kind) X2.out rfl ?_)
        | (go_at_call 24
           (with_reducible refine (qfields_z k _).mono ?_)
           rintro e u3 ⟨A3, c3, L, rfl, hL, F3, k3⟩
           have X3 := hid (box_below X2.out k3.out)
           have Y3 := hid (box_below Y2.out k3.out)
           have K3 := hid (K2.out.trans (k3.out.mono K2.out.size))
           clear k3 X2 Y2 K2 c0))
      obtain ⟨i3, hi3, hz3, hz31, hz32⟩ := info_parts Tryd.info3r
      have HZK := hid (zfs_kinds k)
      have hL6 : L ≤ 6 := by have h1 := kinds_len k; have h2 := hL.out; rw [← HZK.out, List.length_map] at h1; omega
      generalize zfs k = fs0 at F3 hL HZK
      have I0 : Hid (FkQ u3 u3 fs0 0 none 0) := hid ⟨Below.refl _ _, ⟨rfl, .inl ⟨rfl, rfl⟩⟩⟩
      go_loopw [38, 10] (fun i v wr => ∃ (j : Nat) (A' : Option Addr) (c' : Nat), j ≤ L ∧ i = .int .i64 j ∧ v = .slice A' j c' ∧ Hid (FkQ u3 wr fs0 j A' c')) (fun i _ _ => L - (intOf i).toNat)
      case atStart => exact ⟨0, none, 0, by omega, rfl, rfl, I0⟩
      case round =>
        clear I0
        obtain ⟨j, A', c', hj, rfl, rfl, HR⟩ := hrel
        by_cases hlt : j < L
        · have hjf : j < fs0.length := by have := hL.out; omega
          obtain ⟨fb, fo, rfl, hfb, hfc⟩ := (F3.out.below HR.out.bel) (by intro e; rw [e] at hjf; simp at hjf)
          obtain ⟨tA, tc, lA, lc, _, d0, d1, d2, d3⟩ := hfc j hjf
          clear hfc
          obtain ⟨f, HFJ⟩ : ∃ f, Hid (fs0[j] = f) := ⟨_, hid rfl⟩
          rw [HFJ.out] at d0 d1 d2 d3
          have hj0 : (j : Int) < (L : Int) := by omega
          obtain ⟨tl, HTL⟩ : ∃ tl, Hid (f.text.length = tl) := ⟨_, hid rfl⟩
          obtain ⟨ll, HLL⟩ : ∃ ll, Hid (f.list.length = ll) := ⟨_, hid rfl⟩
          rw [HTL.out] at d2
          rw [HLL.out] at d3
          go_wp2_with (
            at_builtin
            refine wpList_app _ rfl (.tmp 42) (.tmp 45) 66 rfl u3.heap.size 3 i3 _ 1 8 Tryd.underlying66 hi3 hz3 hz31 hz32 rfl ?g1 A' j c' ((fs0.take j).map (fun f => Value.int .i64 f.kind)) rfl ((HR.out.own.alloc _).alloc _) _ _ 1 1 [.int .i64 f.kind] rfl ?g2 (lies_lit_at _ _ _ _ (by simp)) (one1r _) ?g3 ?g4 ?g5 ?_
            case g1 => omega
            case g2 => rfl
            case g3 => unfold maxLen; omega
            case g4 => omega
            case g5 => have := HR.out.bel.size; simp; omega
            intro A6 c6 w6 ho6 hg6
            have HFIN := hid (FkQ.step HR.out hjf HFJ.out ho6 hg6)
            clear ho6 hg6)
          go_roundw
          case rel => exact ⟨j + 1, A6, c6, by omega, by go_num, rfl, HFIN⟩
          case measure => simp [intOf]; omega
        · obtain rfl : j = L := by omega
          have hown := HR.out.own
          have hto : (fs0.take j).map (fun f => Value.int .i64 f.kind) = k.kinds.map (Value.int .i64) := by
            rw [List.take_of_length_le (by rw [hL.out]; omega), ← HZK.out, List.map_map]; rfl
          rw [hto] at hown
          have HLI := hid (Lies.own hown)
          have HKL : Hid (k.kinds.length = j) := hid (by rw [← HZK.out, List.length_map]; exact hL.out)
          have X4 := hid (box_below X3.out HR.out.bel)
          have Y4 := hid (box_below Y3.out HR.out.bel)
          have K4 := hid (K3.out.trans (HR.out.bel.mono K3.out.size))
          have S4 := slb_at hb K4
          clear hown hto X3 Y3 K3 hlt hj hL HZK F3 HR
          have HKD : k.kind = 4 := by rw [hk.out]; rfl
          have XK := kz_kind X4 HKD
          have HRD := hid (show fs.map Fd.kind = k.kinds by have h := readF_rd k (b := bs) (by rw [hR.out]); rw [hR.out] at h; exact h.1)
          obtain ⟨f0, rfl, _⟩ := one_of (show fs.map Fd.kind = [_] from HRD.out.trans (by rw [hk.out]; rfl))
          have hro := hid (show r.Ok by rw [← hr.out]; exact get_okq k (by have h := readF_rd k (b := bs) (by rw [hR.out]); rw [hR.out] at h; exact h.1) (by have h := readF_rd k (b := bs) (by rw [hR.out]); rw [hR.out] at h; exact h.2))
          have hrk : Hid (r.kind = k.kind) := hid (by rw [← hr.out, hk.out]; rfl)
          have hrm : r.modes = [] := by rw [← hr.out, hk.out]; rfl
          have hml : r.modes.length ≤ maxLen := by rw [hrm]; exact Nat.zero_le _
          rw [HKD] at hk0
          clear HKD
          cases hfl0 : decide (fl = 0)
          all_goals
            go_wp2_with (first
              | (go_at_call 25
                 (with_reducible refine (rread_x _ A' c' j n k.kinds A c bs 0 _ HLI HKL (by omega) S4 hn hbl hR).mono ?_)
                 rintro e u5 ⟨A5, c5, cs5, L5, rfl, hL5, ho5, hf5, k5⟩
                 have Y5 := hid (box_below Y4.out k5.out)
                 have X5 := hid (box_below XK.out k5.out)
                 have K5 := hid (K4.out.trans (k5.out.mono K4.out.size))
                 have c0 : u5.cell? ⟨w.heap.size + 1, 0, none⟩ = some (.int .i64 4) := X5.out.cell 0
                 obtain rfl : L5 = 1 := by simpa using hL5.out.symm
                 obtain ⟨tA, tc, lA, lc, q, hq, o5, o9, hq2⟩ := hf5.out
                 obtain ⟨fb, fo, rfl, _, hc⟩ := Lies.own ho5.out (by rw [hq]; simp)
                 rw [hq] at hc
                 have d1 : u5.cell? ⟨fb, fo + 1, none⟩ = some (.int .u32 f0.n) := hc 1 _ rfl
                 obtain ⟨tl, htl⟩ : ∃ tl, f0.text.length = tl := ⟨_, rfl⟩
                 have d2 : u5.cell? ⟨fb, fo + 2, none⟩ = some (.slice tA tl tc) := by rw [← htl]; exact hc 2 _ rfl
                 have hcv := str_back u5 _ tA tc f0.text (Lies.own o5)
                 rw [htl] at hcv
                 have HTL := hid htl
                 clear hc hq hq2 o5 o9 htl
                 have c1 : u5.cell? ⟨w.heap.size + 1, 1, none⟩ = some (.string ⟨#[]⟩) := X5.out.cell 1
                 have q1 : u5.frozen? ⟨w.heap.size + 1, 1, none⟩ = false := X5.out.frozen 1
                 have B6 : Hid (Box (u5.setCell ⟨w.heap.size + 1, 1, none⟩ (.string ⟨f0.text.toArray⟩)) (w.heap.size + 1) 28 (r.cells none 0)) := hid (by rw [← hr.out, hk.out]; exact X5.out.store 1 _)
                 have B4 : Hid (Box (u5.setCell ⟨w.heap.size + 1, 1, none⟩ (.string ⟨f0.text.toArray⟩)) w.heap.size 28 (kz 0)) := hid ((Turn.setCell _ _ 1 _).box Y5.out (by omega))
                 have K6 : Hid (Below w.heap.size w (u5.setCell ⟨w.heap.size + 1, 1, none⟩ (.string ⟨f0.text.toArray⟩))) := hid (K5.out.trans ((Turn.setCell _ _ 1 _).below (by omega)))
                 clear k5 X4 Y4 K4 S4 XK X5 Y5 K5)
              | (refine ld28 (by rfl) _ (by rfl) (w.heap.size + 1) (by rfl) (r.cells none 0) B6.out rfl ?_)
              | (go_at_call 26
                 (with_reducible refine (fault_x k r none 0 _ fl hrk hro hml hfl).mono ?_)
                 rintro e u7 ⟨rfl, k7⟩
                 have B67 := hid (box_below B6.out k7.out)
                 have B47 := hid (box_below B4.out k7.out)
                 have K7 := hid (K6.out.trans (k7.out.mono K6.out.size))
                 have hfv : (fl == 0) = decide (fl = 0) := by rw [Bool.eq_iff_iff]; simp
                 have hfw : (fl != 0) = !decide (fl = 0) := by rw [bne, hfv]
                 rw [hfl0] at hfv hfw
                 clear k7 B6 B4 K6)
              | (refine ld28 (by rfl) _ (by rfl) (w.heap.size + 1) (by rfl) (r.cells none 0) B67.out rfl ?_)
              | (refine st28 (by rfl) _ _ (by rfl) w.heap.size (by rfl) (kz 0) rfl (kz_one 0) (by rfl) (kz 0) B47.out rfl ?_
                 intro u8 Y8 t8
                 have K8 := hid (K7.out.trans (t8.out.below (Nat.le_refl _)))
                 clear t8)
              | (refine st28 (by rfl) _ _ (by rfl) w.heap.size (by rfl) (r.cells none 0) rfl (cells_one r none 0) (by rfl) (kz 0) B47.out rfl ?_
                 intro u8 Y8 t8
                 have K8 := hid (K7.out.trans (t8.out.below (Nat.le_refl _)))
                 clear t8))
          · refine bodyPost_ret (results28 rfl _ _ _ (kz 0) rfl rfl _ rfl Y8.out) rfl ?_
            exact decF_bad (by simpa using hfl0) K8
          · refine bodyPost_ret (results28 rfl _ _ _ (r.cells none 0) rfl rfl _ rfl Y8.out) rfl ?_
            exact decF_ok (by simpa using hfl0) hrm K8

set_option maxRecDepth 100000 in
set_option maxHeartbeats 8000000 in
theorem rdec_subsystem (k : Rw) (w : World) (nm : ByteArray) (A : Option Addr) (c n : Nat) (bs : List UInt8) (fs : List Fd) (hb : Hid (SlB w w.heap.size A c bs)) (hn : bs.length = n) (hbl : n ≤ 100000) (hX : Hid (rowN nm Rw.all = some k)) (hR : Hid (readF k.kinds bs = (0, fs))) (hk : Hid (k = .subsystem)) (r : Rq) (hr : Hid (k.get fs { zeroR with kind := k.kind } = r)) (fl : Int) (hfl : Hid ((k.put r .zero).fault = fl)) :
    Calls Tryd.prog 7 #[.string nm, .slice A n c] w (DecF w r fl) := by
  have HK := hid (kat_some hX.out)
  have hkb := kind_bd k
  have B4 : Hid (Box ((w.alloc (.cells (kz 0) 28)).alloc (.cells (kz 0) 28)) w.heap.size 28 (kz 0)) := hid (box_below (Box.new w 28 _) ((Below.refl _ _).alloc (Nat.le_refl _) _))
  have B6 : Hid (Box ((w.alloc (.cells (kz 0) 28)).alloc (.cells (kz 0) 28)) (w.heap.size + 1) 28 (kz 0)) := hid (by have h := Box.new (w.alloc (.cells (kz 0) 28)) 28 (kz 0); rwa [World.size_alloc] at h)
  have K0 : Hid (Below w.heap.size w ((w.alloc (.cells (kz 0) 28)).alloc (.cells (kz 0) 28))) := hid (((Below.refl _ w).alloc (Nat.le_refl _) _).alloc (by simp) _)
  go_enter Tryd.func7, Tryd.ntmps7
  go_wp2_with (first
    | (refine st28 (by rfl) _ _ (by rfl) (w.heap.size + 1) (by rfl) (kz 0) rfl (kz_one 0) (by rfl) (kz 0) B6.out rfl ?_
       intro u1 X1 t1
       have Y1 := hid (t1.out.box B4.out (by omega))
       have K1 := hid (K0.out.trans (t1.out.below (by omega)))
       clear B4 B6 K0 t1))
  go_loopw [7] (fun i wr => ∃ (j : Nat) (K : Int), j ≤ 10 ∧ i = .int .i64 ((j + 1 : Nat) : Int) ∧ Hid (kat nm (Rw.all.take j) 0 = K) ∧ Hid (Box wr (w.heap.size + 1) 28 (kz K)) ∧ Hid (Box wr w.heap.size 28 (kz 0)) ∧ Hid (Below w.heap.size w wr)) (fun i _ => 12 - (intOf i).toNat)
  case atStart => exact ⟨0, 0, by omega, rfl, hid rfl, X1, Y1, K1⟩
  case round =>
    clear X1 Y1 K1 u1
    obtain ⟨j, K, hj, rfl, HKA, X2, Y2, K2⟩ := hrel
    by_cases hlt : j < 10
    · have hst := kat_step nm j hlt
      have hkd := kind_at j hlt
      generalize (Rw.all[j]'(by exact hlt)) = x at hst hkd
      rw [← hkd]
      have hle : x.kind ≤ 10 := by omega
      have hge : 1 ≤ x.kind := by omega
      have HS := hid hst
      have HKD := hid hkd
      clear hst hkd
      have c0 : wr.cell? ⟨w.heap.size + 1, 0, none⟩ = some (.int .i64 K) := X2.out.cell 0
      have f0 : wr.frozen? ⟨w.heap.size + 1, 0, none⟩ = false := X2.out.frozen 0
      by_cases he : x.name = nm
      · have he2 := toL_eq he
        have HS2 : Hid (kat nm (Rw.all.take (j + 1)) 0 = x.kind) := hid (by rw [HS.out, if_pos he])
        clear he
        go_wp2_with (
          go_at_call 23
          (with_reducible refine (qname_x x _).mono ?_)
          rintro e w' ⟨rfl, rfl⟩)
        go_roundw
        case rel => exact ⟨j + 1, x.kind, by omega, by (have h := HKD.out; rw [h]; go_num), HS2, hid (X2.out.store 0 _), hid ((Turn.setCell _ _ 0 _).box Y2.out (by omega)), hid (K2.out.trans ((Turn.setCell _ _ 0 _).below (by omega)))⟩
        case measure => (have h := HKD.out; rw [h]; simp only [intOf]; omega)
      · have hne := toL_ne he
        have HS2 : Hid (kat nm (Rw.all.take (j + 1)) 0 = K) := hid (by rw [HS.out, if_neg he]; exact HKA.out)
        clear he
        go_wp2_with (
          go_at_call 23
          (with_reducible refine (qname_x x _).mono ?_)
          rintro e w' ⟨rfl, rfl⟩)
        go_roundw
        case rel => exact ⟨j + 1, K, by omega, by (have h := HKD.out; rw [h]; go_num), HS2, X2, Y2, K2⟩
        case measure => (have h := HKD.out; rw [h]; simp only [intOf]; omega)
    · obtain rfl : j = 10 := by omega
      obtain rfl : K = k.kind := HKA.out.symm.trans HK.out
      rw [show ((10 + 1 : Nat) : Int) = 11 from rfl]
      have hk0 : (k.kind == 0) = false := by simp; omega
      have c0 : wr.cell? ⟨w.heap.size + 1, 0, none⟩ = some (.int .i64 k.kind) := X2.out.cell 0
      clear hlt hj HKA HK
      go_wp2_with (first
        | (refine ld28 (by rfl) _ (by rfl) (w.heap.size + 1) (by rfl) (kz k.kind) X2.out rfl ?_)
        | (go_at_call 24
           (with_reducible refine (qfields_z k _).mono ?_)
           rintro e u3 ⟨A3, c3, L, rfl, hL, F3, k3⟩
           have X3 := hid (box_below X2.out k3.out)
           have Y3 := hid (box_below Y2.out k3.out)
           have K3 := hid (K2.out.trans (k3.out.mono K2.out.size))
           clear k3 X2 Y2 K2 c0))
      obtain ⟨i3, hi3, hz3, hz31, hz32⟩ := info_parts Tryd.info3r
      have HZK := hid (zfs_kinds k)
      have hL6 : L ≤ 6 := by have h1 := kinds_len k; have h2 := hL.out; rw [← HZK.out, List.length_map] at h1; omega
      generalize zfs k = fs0 at F3 hL HZK
      have I0 : Hid (FkQ u3 u3 fs0 0 none 0) := hid ⟨Below.refl _ _, ⟨rfl, .inl ⟨rfl, rfl⟩⟩⟩
      go_loopw [38, 10] (fun i v wr => ∃ (j : Nat) (A' : Option Addr) (c' : Nat), j ≤ L ∧ i = .int .i64 j ∧ v = .slice A' j c' ∧ Hid (FkQ u3 wr fs0 j A' c')) (fun i _ _ => L - (intOf i).toNat)
      case atStart => exact ⟨0, none, 0, by omega, rfl, rfl, I0⟩
      case round =>
        clear I0
        obtain ⟨j, A', c', hj, rfl, rfl, HR⟩ := hrel
        by_cases hlt : j < L
        · have hjf : j < fs0.length := by have := hL.out; omega
          obtain ⟨fb, fo, rfl, hfb, hfc⟩ := (F3.out.below HR.out.bel) (by intro e; rw [e] at hjf; simp at hjf)
          obtain ⟨tA, tc, lA, lc, _, d0, d1, d2, d3⟩ := hfc j hjf
          clear hfc
          obtain ⟨f, HFJ⟩ : ∃ f, Hid (fs0[j] = f) := ⟨_, hid rfl⟩
          rw [HFJ.out] at d0 d1 d2 d3
          have hj0 : (j : Int) < (L : Int) := by omega
          obtain ⟨tl, HTL⟩ : ∃ tl, Hid (f.text.length = tl) := ⟨_, hid rfl⟩
          obtain ⟨ll, HLL⟩ : ∃ ll, Hid (f.list.length = ll) := ⟨_, hid rfl⟩
          rw [HTL.out] at d2
          rw [HLL.out] at d3
          go_wp2_with (
            at_builtin
            refine wpList_app _ rfl (.tmp 42) (.tmp 45) 66 rfl u3.heap.size 3 i3 _ 1 8 Tryd.underlying66 hi3 hz3 hz31 hz32 rfl ?g1 A' j c' ((fs0.take j).map (fun f => Value.int .i64 f.kind)) rfl ((HR.out.own.alloc _).alloc _) _ _ 1 1 [.int .i64 f.kind] rfl ?g2 (lies_lit_at _ _ _ _ (by simp)) (one1r _) ?g3 ?g4 ?g5 ?_
            case g1 => omega
            case g2 => rfl
            case g3 => unfold maxLen; omega
            case g4 => omega
            case g5 => have := HR.out.bel.size; simp; omega
            intro A6 c6 w6 ho6 hg6
            have HFIN := hid (FkQ.step HR.out hjf HFJ.out ho6 hg6)
            clear ho6 hg6)
          go_roundw
          case rel => exact ⟨j + 1, A6, c6, by omega, by go_num, rfl, HFIN⟩
          case measure => simp [intOf]; omega
        · obtain rfl : j = L := by omega
          have hown := HR.out.own
          have hto : (fs0.take j).map (fun f => Value.int .i64 f.kind) = k.kinds.map (Value.int .i64) := by
            rw [List.take_of_length_le (by rw [hL.out]; omega), ← HZK.out, List.map_map]; rfl
          rw [hto] at hown
          have HLI := hid (Lies.own hown)
          have HKL : Hid (k.kinds.length = j) := hid (by rw [← HZK.out, List.length_map]; exact hL.out)
          have X4 := hid (box_below X3.out HR.out.bel)
          have Y4 := hid (box_below Y3.out HR.out.bel)
          have K4 := hid (K3.out.trans (HR.out.bel.mono K3.out.size))
          have S4 := slb_at hb K4
          clear hown hto X3 Y3 K3 hlt hj hL HZK F3 HR
          have HKD : k.kind = 5 := by rw [hk.out]; rfl
          have XK := kz_kind X4 HKD
          have HRD := hid (show fs.map Fd.kind = k.kinds by have h := readF_rd k (b := bs) (by rw [hR.out]); rw [hR.out] at h; exact h.1)
          obtain ⟨f0, rfl, _⟩ := one_of (show fs.map Fd.kind = [_] from HRD.out.trans (by rw [hk.out]; rfl))
          have hro := hid (show r.Ok by rw [← hr.out]; exact get_okq k (by have h := readF_rd k (b := bs) (by rw [hR.out]); rw [hR.out] at h; exact h.1) (by have h := readF_rd k (b := bs) (by rw [hR.out]); rw [hR.out] at h; exact h.2))
          have hrk : Hid (r.kind = k.kind) := hid (by rw [← hr.out, hk.out]; rfl)
          have hrm : r.modes = [] := by rw [← hr.out, hk.out]; rfl
          have hml : r.modes.length ≤ maxLen := by rw [hrm]; exact Nat.zero_le _
          rw [HKD] at hk0
          clear HKD
          cases hfl0 : decide (fl = 0)
          all_goals
            go_wp2_with (first
              | (go_at_call 25
                 (with_reducible refine (rread_x _ A' c' j n k.kinds A c bs 0 _ HLI HKL (by omega) S4 hn hbl hR).mono ?_)
                 rintro e u5 ⟨A5, c5, cs5, L5, rfl, hL5, ho5, hf5, k5⟩
                 have Y5 := hid (box_below Y4.out k5.out)
                 have X5 := hid (box_below XK.out k5.out)
                 have K5 := hid (K4.out.trans (k5.out.mono K4.out.size))
                 have c0 : u5.cell? ⟨w.heap.size + 1, 0, none⟩ = some (.int .i64 5) := X5.out.cell 0
                 obtain rfl : L5 = 1 := by simpa using hL5.out.symm
                 obtain ⟨tA, tc, lA, lc, q, hq, o5, o9, hq2⟩ := hf5.out
                 obtain ⟨fb, fo, rfl, _, hc⟩ := Lies.own ho5.out (by rw [hq]; simp)
                 rw [hq] at hc
                 have d1 : u5.cell? ⟨fb, fo + 1, none⟩ = some (.int .u32 f0.n) := hc 1 _ rfl
                 obtain ⟨tl, htl⟩ : ∃ tl, f0.text.length = tl := ⟨_, rfl⟩
                 have d2 : u5.cell? ⟨fb, fo + 2, none⟩ = some (.slice tA tl tc) := by rw [← htl]; exact hc 2 _ rfl
                 have hcv := str_back u5 _ tA tc f0.text (Lies.own o5)
                 rw [htl] at hcv
                 have HTL := hid htl
                 clear hc hq hq2 o5 o9 htl
                 have c1 : u5.cell? ⟨w.heap.size + 1, 1, none⟩ = some (.string ⟨#[]⟩) := X5.out.cell 1
                 have q1 : u5.frozen? ⟨w.heap.size + 1, 1, none⟩ = false := X5.out.frozen 1
                 have B6 : Hid (Box (u5.setCell ⟨w.heap.size + 1, 1, none⟩ (.string ⟨f0.text.toArray⟩)) (w.heap.size + 1) 28 (r.cells none 0)) := hid (by rw [← hr.out, hk.out]; exact X5.out.store 1 _)
                 have B4 : Hid (Box (u5.setCell ⟨w.heap.size + 1, 1, none⟩ (.string ⟨f0.text.toArray⟩)) w.heap.size 28 (kz 0)) := hid ((Turn.setCell _ _ 1 _).box Y5.out (by omega))
                 have K6 : Hid (Below w.heap.size w (u5.setCell ⟨w.heap.size + 1, 1, none⟩ (.string ⟨f0.text.toArray⟩))) := hid (K5.out.trans ((Turn.setCell _ _ 1 _).below (by omega)))
                 clear k5 X4 Y4 K4 S4 XK X5 Y5 K5)
              | (refine ld28 (by rfl) _ (by rfl) (w.heap.size + 1) (by rfl) (r.cells none 0) B6.out rfl ?_)
              | (go_at_call 26
                 (with_reducible refine (fault_x k r none 0 _ fl hrk hro hml hfl).mono ?_)
                 rintro e u7 ⟨rfl, k7⟩
                 have B67 := hid (box_below B6.out k7.out)
                 have B47 := hid (box_below B4.out k7.out)
                 have K7 := hid (K6.out.trans (k7.out.mono K6.out.size))
                 have hfv : (fl == 0) = decide (fl = 0) := by rw [Bool.eq_iff_iff]; simp
                 have hfw : (fl != 0) = !decide (fl = 0) := by rw [bne, hfv]
                 rw [hfl0] at hfv hfw
                 clear k7 B6 B4 K6)
              | (refine ld28 (by rfl) _ (by rfl) (w.heap.size + 1) (by rfl) (r.cells none 0) B67.out rfl ?_)
              | (refine st28 (by rfl) _ _ (by rfl) w.heap.size (by rfl) (kz 0) rfl (kz_one 0) (by rfl) (kz 0) B47.out rfl ?_
                 intro u8 Y8 t8
                 have K8 := hid (K7.out.trans (t8.out.below (Nat.le_refl _)))
                 clear t8)
              | (refine st28 (by rfl) _ _ (by rfl) w.heap.size (by rfl) (r.cells none 0) rfl (cells_one r none 0) (by rfl) (kz 0) B47.out rfl ?_
                 intro u8 Y8 t8
                 have K8 := hid (K7.out.trans (t8.out.below (Nat.le_refl _)))
                 clear t8))
          · refine bodyPost_ret (results28 rfl _ _ _ (kz 0) rfl rfl _ rfl Y8.out) rfl ?_
            exact decF_bad (by simpa using hfl0) K8
          · refine bodyPost_ret (results28 rfl _ _ _ (r.cells none 0) rfl rfl _ rfl Y8.out) rfl ?_
            exact decF_ok (by simpa using hfl0) hrm K8

set_option maxRecDepth 100000 in
set_option maxHeartbeats 8000000 in
theorem rdec_signal (k : Rw) (w : World) (nm : ByteArray) (A : Option Addr) (c n : Nat) (bs : List UInt8) (fs : List Fd) (hb : Hid (SlB w w.heap.size A c bs)) (hn : bs.length = n) (hbl : n ≤ 100000) (hX : Hid (rowN nm Rw.all = some k)) (hR : Hid (readF k.kinds bs = (0, fs))) (hk : Hid (k = .signal)) (r : Rq) (hr : Hid (k.get fs { zeroR with kind := k.kind } = r)) (fl : Int) (hfl : Hid ((k.put r .zero).fault = fl)) :
    Calls Tryd.prog 7 #[.string nm, .slice A n c] w (DecF w r fl) := by
  have HK := hid (kat_some hX.out)
  have hkb := kind_bd k
  have B4 : Hid (Box ((w.alloc (.cells (kz 0) 28)).alloc (.cells (kz 0) 28)) w.heap.size 28 (kz 0)) := hid (box_below (Box.new w 28 _) ((Below.refl _ _).alloc (Nat.le_refl _) _))
  have B6 : Hid (Box ((w.alloc (.cells (kz 0) 28)).alloc (.cells (kz 0) 28)) (w.heap.size + 1) 28 (kz 0)) := hid (by have h := Box.new (w.alloc (.cells (kz 0) 28)) 28 (kz 0); rwa [World.size_alloc] at h)
  have K0 : Hid (Below w.heap.size w ((w.alloc (.cells (kz 0) 28)).alloc (.cells (kz 0) 28))) := hid (((Below.refl _ w).alloc (Nat.le_refl _) _).alloc (by simp) _)
  go_enter Tryd.func7, Tryd.ntmps7
  go_wp2_with (first
    | (refine st28 (by rfl) _ _ (by rfl) (w.heap.size + 1) (by rfl) (kz 0) rfl (kz_one 0) (by rfl) (kz 0) B6.out rfl ?_
       intro u1 X1 t1
       have Y1 := hid (t1.out.box B4.out (by omega))
       have K1 := hid (K0.out.trans (t1.out.below (by omega)))
       clear B4 B6 K0 t1))
  go_loopw [7] (fun i wr => ∃ (j : Nat) (K : Int), j ≤ 10 ∧ i = .int .i64 ((j + 1 : Nat) : Int) ∧ Hid (kat nm (Rw.all.take j) 0 = K) ∧ Hid (Box wr (w.heap.size + 1) 28 (kz K)) ∧ Hid (Box wr w.heap.size 28 (kz 0)) ∧ Hid (Below w.heap.size w wr)) (fun i _ => 12 - (intOf i).toNat)
  case atStart => exact ⟨0, 0, by omega, rfl, hid rfl, X1, Y1, K1⟩
  case round =>
    clear X1 Y1 K1 u1
    obtain ⟨j, K, hj, rfl, HKA, X2, Y2, K2⟩ := hrel
    by_cases hlt : j < 10
    · have hst := kat_step nm j hlt
      have hkd := kind_at j hlt
      generalize (Rw.all[j]'(by exact hlt)) = x at hst hkd
      rw [← hkd]
      have hle : x.kind ≤ 10 := by omega
      have hge : 1 ≤ x.kind := by omega
      have HS := hid hst
      have HKD := hid hkd
      clear hst hkd
      have c0 : wr.cell? ⟨w.heap.size + 1, 0, none⟩ = some (.int .i64 K) := X2.out.cell 0
      have f0 : wr.frozen? ⟨w.heap.size + 1, 0, none⟩ = false := X2.out.frozen 0
      by_cases he : x.name = nm
      · have he2 := toL_eq he
        have HS2 : Hid (kat nm (Rw.all.take (j + 1)) 0 = x.kind) := hid (by rw [HS.out, if_pos he])
        clear he
        go_wp2_with (
          go_at_call 23
          (with_reducible refine (qname_x x _).mono ?_)
          rintro e w' ⟨rfl, rfl⟩)
        go_roundw
        case rel => exact ⟨j + 1, x.kind, by omega, by (have h := HKD.out; rw [h]; go_num), HS2, hid (X2.out.store 0 _), hid ((Turn.setCell _ _ 0 _).box Y2.out (by omega)), hid (K2.out.trans ((Turn.setCell _ _ 0 _).below (by omega)))⟩
        case measure => (have h := HKD.out; rw [h]; simp only [intOf]; omega)
      · have hne := toL_ne he
        have HS2 : Hid (kat nm (Rw.all.take (j + 1)) 0 = K) := hid (by rw [HS.out, if_neg he]; exact HKA.out)
        clear he
        go_wp2_with (
          go_at_call 23
          (with_reducible refine (qname_x x _).mono ?_)
          rintro e w' ⟨rfl, rfl⟩)
        go_roundw
        case rel => exact ⟨j + 1, K, by omega, by (have h := HKD.out; rw [h]; go_num), HS2, X2, Y2, K2⟩
        case measure => (have h := HKD.out; rw [h]; simp only [intOf]; omega)
    · obtain rfl : j = 10 := by omega
      obtain rfl : K = k.kind := HKA.out.symm.trans HK.out
      rw [show ((10 + 1 : Nat) : Int) = 11 from rfl]
      have hk0 : (k.kind == 0) = false := by simp; omega
      have c0 : wr.cell? ⟨w.heap.size + 1, 0, none⟩ = some (.int .i64 k.kind) := X2.out.cell 0
      clear hlt hj HKA HK
      go_wp2_with (first
        | (refine ld28 (by rfl) _ (by rfl) (w.heap.size + 1) (by rfl) (kz k.kind) X2.out rfl ?_)
        | (go_at_call 24
           (with_reducible refine (qfields_z k _).mono ?_)
           rintro e u3 ⟨A3, c3, L, rfl, hL, F3, k3⟩
           have X3 := hid (box_below X2.out k3.out)
           have Y3 := hid (box_below Y2.out k3.out)
           have K3 := hid (K2.out.trans (k3.out.mono K2.out.size))
           clear k3 X2 Y2 K2 c0))
      obtain ⟨i3, hi3, hz3, hz31, hz32⟩ := info_parts Tryd.info3r
      have HZK := hid (zfs_kinds k)
      have hL6 : L ≤ 6 := by have h1 := kinds_len k; have h2 := hL.out; rw [← HZK.out, List.length_map] at h1; omega
      generalize zfs k = fs0 at F3 hL HZK
      have I0 : Hid (FkQ u3 u3 fs0 0 none 0) := hid ⟨Below.refl _ _, ⟨rfl, .inl ⟨rfl, rfl⟩⟩⟩
      go_loopw [38, 10] (fun i v wr => ∃ (j : Nat) (A' : Option Addr) (c' : Nat), j ≤ L ∧ i = .int .i64 j ∧ v = .slice A' j c' ∧ Hid (FkQ u3 wr fs0 j A' c')) (fun i _ _ => L - (intOf i).toNat)
      case atStart => exact ⟨0, none, 0, by omega, rfl, rfl, I0⟩
      case round =>
        clear I0
        obtain ⟨j, A', c', hj, rfl, rfl, HR⟩ := hrel
        by_cases hlt : j < L
        · have hjf : j < fs0.length := by have := hL.out; omega
          obtain ⟨fb, fo, rfl, hfb, hfc⟩ := (F3.out.below HR.out.bel) (by intro e; rw [e] at hjf; simp at hjf)
          obtain ⟨tA, tc, lA, lc, _, d0, d1, d2, d3⟩ := hfc j hjf
          clear hfc
          obtain ⟨f, HFJ⟩ : ∃ f, Hid (fs0[j] = f) := ⟨_, hid rfl⟩
          rw [HFJ.out] at d0 d1 d2 d3
          have hj0 : (j : Int) < (L : Int) := by omega
          obtain ⟨tl, HTL⟩ : ∃ tl, Hid (f.text.length = tl) := ⟨_, hid rfl⟩
          obtain ⟨ll, HLL⟩ : ∃ ll, Hid (f.list.length = ll) := ⟨_, hid rfl⟩
          rw [HTL.out] at d2
          rw [HLL.out] at d3
          go_wp2_with (
            at_builtin
            refine wpList_app _ rfl (.tmp 42) (.tmp 45) 66 rfl u3.heap.size 3 i3 _ 1 8 Tryd.underlying66 hi3 hz3 hz31 hz32 rfl ?g1 A' j c' ((fs0.take j).map (fun f => Value.int .i64 f.kind)) rfl ((HR.out.own.alloc _).alloc _) _ _ 1 1 [.int .i64 f.kind] rfl ?g2 (lies_lit_at _ _ _ _ (by simp)) (one1r _) ?g3 ?g4 ?g5 ?_
            case g1 => omega
            case g2 => rfl
            case g3 => unfold maxLen; omega
            case g4 => omega
            case g5 => have := HR.out.bel.size; simp; omega
            intro A6 c6 w6 ho6 hg6
            have HFIN := hid (FkQ.step HR.out hjf HFJ.out ho6 hg6)
            clear ho6 hg6)
          go_roundw
          case rel => exact ⟨j + 1, A6, c6, by omega, by go_num, rfl, HFIN⟩
          case measure => simp [intOf]; omega
        · obtain rfl : j = L := by omega
          have hown := HR.out.own
          have hto : (fs0.take j).map (fun f => Value.int .i64 f.kind) = k.kinds.map (Value.int .i64) := by
            rw [List.take_of_length_le (by rw [hL.out]; omega), ← HZK.out, List.map_map]; rfl
          rw [hto] at hown
          have HLI := hid (Lies.own hown)
          have HKL : Hid (k.kinds.length = j) := hid (by rw [← HZK.out, List.length_map]; exact hL.out)
          have X4 := hid (box_below X3.out HR.out.bel)
          have Y4 := hid (box_below Y3.out HR.out.bel)
          have K4 := hid (K3.out.trans (HR.out.bel.mono K3.out.size))
          have S4 := slb_at hb K4
          clear hown hto X3 Y3 K3 hlt hj hL HZK F3 HR
          have HKD : k.kind = 8 := by rw [hk.out]; rfl
          have XK := kz_kind X4 HKD
          have HRD := hid (show fs.map Fd.kind = k.kinds by have h := readF_rd k (b := bs) (by rw [hR.out]); rw [hR.out] at h; exact h.1)
          obtain ⟨f0, rfl, _⟩ := one_of (show fs.map Fd.kind = [_] from HRD.out.trans (by rw [hk.out]; rfl))
          have hro := hid (show r.Ok by rw [← hr.out]; exact get_okq k (by have h := readF_rd k (b := bs) (by rw [hR.out]); rw [hR.out] at h; exact h.1) (by have h := readF_rd k (b := bs) (by rw [hR.out]); rw [hR.out] at h; exact h.2))
          have hrk : Hid (r.kind = k.kind) := hid (by rw [← hr.out, hk.out]; rfl)
          have hrm : r.modes = [] := by rw [← hr.out, hk.out]; rfl
          have hml : r.modes.length ≤ maxLen := by rw [hrm]; exact Nat.zero_le _
          rw [HKD] at hk0
          clear HKD
          cases hfl0 : decide (fl = 0)
          all_goals
            go_wp2_with (first
              | (go_at_call 25
                 (with_reducible refine (rread_x _ A' c' j n k.kinds A c bs 0 _ HLI HKL (by omega) S4 hn hbl hR).mono ?_)
                 rintro e u5 ⟨A5, c5, cs5, L5, rfl, hL5, ho5, hf5, k5⟩
                 have Y5 := hid (box_below Y4.out k5.out)
                 have X5 := hid (box_below XK.out k5.out)
                 have K5 := hid (K4.out.trans (k5.out.mono K4.out.size))
                 have c0 : u5.cell? ⟨w.heap.size + 1, 0, none⟩ = some (.int .i64 8) := X5.out.cell 0
                 obtain rfl : L5 = 1 := by simpa using hL5.out.symm
                 obtain ⟨tA, tc, lA, lc, q, hq, o5, o9, hq2⟩ := hf5.out
                 obtain ⟨fb, fo, rfl, _, hc⟩ := Lies.own ho5.out (by rw [hq]; simp)
                 rw [hq] at hc
                 have d1 : u5.cell? ⟨fb, fo + 1, none⟩ = some (.int .u32 f0.n) := hc 1 _ rfl
                 obtain ⟨tl, htl⟩ : ∃ tl, f0.text.length = tl := ⟨_, rfl⟩
                 have d2 : u5.cell? ⟨fb, fo + 2, none⟩ = some (.slice tA tl tc) := by rw [← htl]; exact hc 2 _ rfl
                 have hcv := str_back u5 _ tA tc f0.text (Lies.own o5)
                 rw [htl] at hcv
                 have HTL := hid htl
                 clear hc hq hq2 o5 o9 htl
                 have c1 : u5.cell? ⟨w.heap.size + 1, 1, none⟩ = some (.string ⟨#[]⟩) := X5.out.cell 1
                 have q1 : u5.frozen? ⟨w.heap.size + 1, 1, none⟩ = false := X5.out.frozen 1
                 have B6 : Hid (Box (u5.setCell ⟨w.heap.size + 1, 1, none⟩ (.string ⟨f0.text.toArray⟩)) (w.heap.size + 1) 28 (r.cells none 0)) := hid (by rw [← hr.out, hk.out]; exact X5.out.store 1 _)
                 have B4 : Hid (Box (u5.setCell ⟨w.heap.size + 1, 1, none⟩ (.string ⟨f0.text.toArray⟩)) w.heap.size 28 (kz 0)) := hid ((Turn.setCell _ _ 1 _).box Y5.out (by omega))
                 have K6 : Hid (Below w.heap.size w (u5.setCell ⟨w.heap.size + 1, 1, none⟩ (.string ⟨f0.text.toArray⟩))) := hid (K5.out.trans ((Turn.setCell _ _ 1 _).below (by omega)))
                 clear k5 X4 Y4 K4 S4 XK X5 Y5 K5)
              | (refine ld28 (by rfl) _ (by rfl) (w.heap.size + 1) (by rfl) (r.cells none 0) B6.out rfl ?_)
              | (go_at_call 26
                 (with_reducible refine (fault_x k r none 0 _ fl hrk hro hml hfl).mono ?_)
                 rintro e u7 ⟨rfl, k7⟩
                 have B67 := hid (box_below B6.out k7.out)
                 have B47 := hid (box_below B4.out k7.out)
                 have K7 := hid (K6.out.trans (k7.out.mono K6.out.size))
                 have hfv : (fl == 0) = decide (fl = 0) := by rw [Bool.eq_iff_iff]; simp
                 have hfw : (fl != 0) = !decide (fl = 0) := by rw [bne, hfv]
                 rw [hfl0] at hfv hfw
                 clear k7 B6 B4 K6)
              | (refine ld28 (by rfl) _ (by rfl) (w.heap.size + 1) (by rfl) (r.cells none 0) B67.out rfl ?_)
              | (refine st28 (by rfl) _ _ (by rfl) w.heap.size (by rfl) (kz 0) rfl (kz_one 0) (by rfl) (kz 0) B47.out rfl ?_
                 intro u8 Y8 t8
                 have K8 := hid (K7.out.trans (t8.out.below (Nat.le_refl _)))
                 clear t8)
              | (refine st28 (by rfl) _ _ (by rfl) w.heap.size (by rfl) (r.cells none 0) rfl (cells_one r none 0) (by rfl) (kz 0) B47.out rfl ?_
                 intro u8 Y8 t8
                 have K8 := hid (K7.out.trans (t8.out.below (Nat.le_refl _)))
                 clear t8))
          · refine bodyPost_ret (results28 rfl _ _ _ (kz 0) rfl rfl _ rfl Y8.out) rfl ?_
            exact decF_bad (by simpa using hfl0) K8
          · refine bodyPost_ret (results28 rfl _ _ _ (r.cells none 0) rfl rfl _ rfl Y8.out) rfl ?_
            exact decF_ok (by simpa using hfl0) hrm K8

set_option maxRecDepth 100000 in
set_option maxHeartbeats 8000000 in
theorem rdec_shell (k : Rw) (w : World) (nm : ByteArray) (A : Option Addr) (c n : Nat) (bs : List UInt8) (fs : List Fd) (hb : Hid (SlB w w.heap.size A c bs)) (hn : bs.length = n) (hbl : n ≤ 100000) (hX : Hid (rowN nm Rw.all = some k)) (hR : Hid (readF k.kinds bs = (0, fs))) (hk : Hid (k = .shell)) (r : Rq) (hr : Hid (k.get fs { zeroR with kind := k.kind } = r)) (fl : Int) (hfl : Hid ((k.put r .zero).fault = fl)) :
    Calls Tryd.prog 7 #[.string nm, .slice A n c] w (DecF w r fl) := by
  have HK := hid (kat_some hX.out)
  have hkb := kind_bd k
  have B4 : Hid (Box ((w.alloc (.cells (kz 0) 28)).alloc (.cells (kz 0) 28)) w.heap.size 28 (kz 0)) := hid (box_below (Box.new w 28 _) ((Below.refl _ _).alloc (Nat.le_refl _) _))
  have B6 : Hid (Box ((w.alloc (.cells (kz 0) 28)).alloc (.cells (kz 0) 28)) (w.heap.size + 1) 28 (kz 0)) := hid (by have h := Box.new (w.alloc (.cells (kz 0) 28)) 28 (kz 0); rwa [World.size_alloc] at h)
  have K0 : Hid (Below w.heap.size w ((w.alloc (.cells (kz 0) 28)).alloc (.cells (kz 0) 28))) := hid (((Below.refl _ w).alloc (Nat.le_refl _) _).alloc (by simp) _)
  go_enter Tryd.func7, Tryd.ntmps7
  go_wp2_with (first
    | (refine st28 (by rfl) _ _ (by rfl) (w.heap.size + 1) (by rfl) (kz 0) rfl (kz_one 0) (by rfl) (kz 0) B6.out rfl ?_
       intro u1 X1 t1
       have Y1 := hid (t1.out.box B4.out (by omega))
       have K1 := hid (K0.out.trans (t1.out.below (by omega)))
       clear B4 B6 K0 t1))
  go_loopw [7] (fun i wr => ∃ (j : Nat) (K : Int), j ≤ 10 ∧ i = .int .i64 ((j + 1 : Nat) : Int) ∧ Hid (kat nm (Rw.all.take j) 0 = K) ∧ Hid (Box wr (w.heap.size + 1) 28 (kz K)) ∧ Hid (Box wr w.heap.size 28 (kz 0)) ∧ Hid (Below w.heap.size w wr)) (fun i _ => 12 - (intOf i).toNat)
  case atStart => exact ⟨0, 0, by omega, rfl, hid rfl, X1, Y1, K1⟩
  case round =>
    clear X1 Y1 K1 u1
    obtain ⟨j, K, hj, rfl, HKA, X2, Y2, K2⟩ := hrel
    by_cases hlt : j < 10
    · have hst := kat_step nm j hlt
      have hkd := kind_at j hlt
      generalize (Rw.all[j]'(by exact hlt)) = x at hst hkd
      rw [← hkd]
      have hle : x.kind ≤ 10 := by omega
      have hge : 1 ≤ x.kind := by omega
      have HS := hid hst
      have HKD := hid hkd
      clear hst hkd
      have c0 : wr.cell? ⟨w.heap.size + 1, 0, none⟩ = some (.int .i64 K) := X2.out.cell 0
      have f0 : wr.frozen? ⟨w.heap.size + 1, 0, none⟩ = false := X2.out.frozen 0
      by_cases he : x.name = nm
      · have he2 := toL_eq he
        have HS2 : Hid (kat nm (Rw.all.take (j + 1)) 0 = x.kind) := hid (by rw [HS.out, if_pos he])
        clear he
        go_wp2_with (
          go_at_call 23
          (with_reducible refine (qname_x x _).mono ?_)
          rintro e w' ⟨rfl, rfl⟩)
        go_roundw
        case rel => exact ⟨j + 1, x.kind, by omega, by (have h := HKD.out; rw [h]; go_num), HS2, hid (X2.out.store 0 _), hid ((Turn.setCell _ _ 0 _).box Y2.out (by omega)), hid (K2.out.trans ((Turn.setCell _ _ 0 _).below (by omega)))⟩
        case measure => (have h := HKD.out; rw [h]; simp only [intOf]; omega)
      · have hne := toL_ne he
        have HS2 : Hid (kat nm (Rw.all.take (j + 1)) 0 = K) := hid (by rw [HS.out, if_neg he]; exact HKA.out)
        clear he
        go_wp2_with (
          go_at_call 23
          (with_reducible refine (qname_x x _).mono ?_)
          rintro e w' ⟨rfl, rfl⟩)
        go_roundw
        case rel => exact ⟨j + 1, K, by omega, by (have h := HKD.out; rw [h]; go_num), HS2, X2, Y2, K2⟩
        case measure => (have h := HKD.out; rw [h]; simp only [intOf]; omega)
    · obtain rfl : j = 10 := by omega
      obtain rfl : K = k.kind := HKA.out.symm.trans HK.out
      rw [show ((10 + 1 : Nat) : Int) = 11 from rfl]
      have hk0 : (k.kind == 0) = false := by simp; omega
      have c0 : wr.cell? ⟨w.heap.size + 1, 0, none⟩ = some (.int .i64 k.kind) := X2.out.cell 0
      clear hlt hj HKA HK
      go_wp2_with (first
        | (refine ld28 (by rfl) _ (by rfl) (w.heap.size + 1) (by rfl) (kz k.kind) X2.out rfl ?_)
        | (go_at_call 24
           (with_reducible refine (qfields_z k _).mono ?_)
           rintro e u3 ⟨A3, c3, L, rfl, hL, F3, k3⟩
           have X3 := hid (box_below X2.out k3.out)
           have Y3 := hid (box_below Y2.out k3.out)
           have K3 := hid (K2.out.trans (k3.out.mono K2.out.size))
           clear k3 X2 Y2 K2 c0))
      obtain ⟨i3, hi3, hz3, hz31, hz32⟩ := info_parts Tryd.info3r
      have HZK := hid (zfs_kinds k)
      have hL6 : L ≤ 6 := by have h1 := kinds_len k; have h2 := hL.out; rw [← HZK.out, List.length_map] at h1; omega
      generalize zfs k = fs0 at F3 hL HZK
      have I0 : Hid (FkQ u3 u3 fs0 0 none 0) := hid ⟨Below.refl _ _, ⟨rfl, .inl ⟨rfl, rfl⟩⟩⟩
      go_loopw [38, 10] (fun i v wr => ∃ (j : Nat) (A' : Option Addr) (c' : Nat), j ≤ L ∧ i = .int .i64 j ∧ v = .slice A' j c' ∧ Hid (FkQ u3 wr fs0 j A' c')) (fun i _ _ => L - (intOf i).toNat)
      case atStart => exact ⟨0, none, 0, by omega, rfl, rfl, I0⟩
      case round =>
        clear I0
        obtain ⟨j, A', c', hj, rfl, rfl, HR⟩ := hrel
        by_cases hlt : j < L
        · have hjf : j < fs0.length := by have := hL.out; omega
          obtain ⟨fb, fo, rfl, hfb, hfc⟩ := (F3.out.below HR.out.bel) (by intro e; rw [e] at hjf; simp at hjf)
          obtain ⟨tA, tc, lA, lc, _, d0, d1, d2, d3⟩ := hfc j hjf
          clear hfc
          obtain ⟨f, HFJ⟩ : ∃ f, Hid (fs0[j] = f) := ⟨_, hid rfl⟩
          rw [HFJ.out] at d0 d1 d2 d3
          have hj0 : (j : Int) < (L : Int) := by omega
          obtain ⟨tl, HTL⟩ : ∃ tl, Hid (f.text.length = tl) := ⟨_, hid rfl⟩
          obtain ⟨ll, HLL⟩ : ∃ ll, Hid (f.list.length = ll) := ⟨_, hid rfl⟩
          rw [HTL.out] at d2
          rw [HLL.out] at d3
          go_wp2_with (
            at_builtin
            refine wpList_app _ rfl (.tmp 42) (.tmp 45) 66 rfl u3.heap.size 3 i3 _ 1 8 Tryd.underlying66 hi3 hz3 hz31 hz32 rfl ?g1 A' j c' ((fs0.take j).map (fun f => Value.int .i64 f.kind)) rfl ((HR.out.own.alloc _).alloc _) _ _ 1 1 [.int .i64 f.kind] rfl ?g2 (lies_lit_at _ _ _ _ (by simp)) (one1r _) ?g3 ?g4 ?g5 ?_
            case g1 => omega
            case g2 => rfl
            case g3 => unfold maxLen; omega
            case g4 => omega
            case g5 => have := HR.out.bel.size; simp; omega
            intro A6 c6 w6 ho6 hg6
            have HFIN := hid (FkQ.step HR.out hjf HFJ.out ho6 hg6)
            clear ho6 hg6)
          go_roundw
          case rel => exact ⟨j + 1, A6, c6, by omega, by go_num, rfl, HFIN⟩
          case measure => simp [intOf]; omega
        · obtain rfl : j = L := by omega
          have hown := HR.out.own
          have hto : (fs0.take j).map (fun f => Value.int .i64 f.kind) = k.kinds.map (Value.int .i64) := by
            rw [List.take_of_length_le (by rw [hL.out]; omega), ← HZK.out, List.map_map]; rfl
          rw [hto] at hown
          have HLI := hid (Lies.own hown)
          have HKL : Hid (k.kinds.length = j) := hid (by rw [← HZK.out, List.length_map]; exact hL.out)
          have X4 := hid (box_below X3.out HR.out.bel)
          have Y4 := hid (box_below Y3.out HR.out.bel)
          have K4 := hid (K3.out.trans (HR.out.bel.mono K3.out.size))
          have S4 := slb_at hb K4
          clear hown hto X3 Y3 K3 hlt hj hL HZK F3 HR
          have HKD : k.kind = 3 := by rw [hk.out]; rfl
          have XK := kz_kind X4 HKD
          have HRD := hid (show fs.map Fd.kind = k.kinds by have h := readF_rd k (b := bs) (by rw [hR.out]); rw [hR.out] at h; exact h.1)
          have hro := hid (show r.Ok by rw [← hr.out]; exact get_okq k (by have h := readF_rd k (b := bs) (by rw [hR.out]); rw [hR.out] at h; exact h.1) (by have h := readF_rd k (b := bs) (by rw [hR.out]); rw [hR.out] at h; exact h.2))
          have hrk : Hid (r.kind = k.kind) := hid (by rw [← hr.out, hk.out]; rfl)
          have hrm : r.modes = [] := by rw [← hr.out, hk.out]; rfl
          have hml : r.modes.length ≤ maxLen := by rw [hrm]; exact Nat.zero_le _
          rw [HKD] at hk0
          clear HKD
          cases hfl0 : decide (fl = 0)
          all_goals
            go_wp2_with (first
              | (go_at_call 25
                 (with_reducible refine (rread_x _ A' c' j n k.kinds A c bs 0 _ HLI HKL (by omega) S4 hn hbl hR).mono ?_)
                 rintro e u5 ⟨A5, c5, cs5, L5, rfl, hL5, ho5, hf5, k5⟩
                 have Y5 := hid (box_below Y4.out k5.out)
                 have X5 := hid (box_below XK.out k5.out)
                 have K5 := hid (K4.out.trans (k5.out.mono K4.out.size))
                 have c0 : u5.cell? ⟨w.heap.size + 1, 0, none⟩ = some (.int .i64 3) := X5.out.cell 0

                 have B6 : Hid (Box u5 (w.heap.size + 1) 28 (r.cells none 0)) := hid (by rw [← hr.out, hk.out]; exact X5.out)
                 have B4 : Hid (Box u5 w.heap.size 28 (kz 0)) := Y5
                 have K6 : Hid (Below w.heap.size w u5) := K5
                 clear k5 X4 Y4 K4 S4 XK X5 Y5 K5)
              | (refine ld28 (by rfl) _ (by rfl) (w.heap.size + 1) (by rfl) (r.cells none 0) B6.out rfl ?_)
              | (go_at_call 26
                 (with_reducible refine (fault_x k r none 0 _ fl hrk hro hml hfl).mono ?_)
                 rintro e u7 ⟨rfl, k7⟩
                 have B67 := hid (box_below B6.out k7.out)
                 have B47 := hid (box_below B4.out k7.out)
                 have K7 := hid (K6.out.trans (k7.out.mono K6.out.size))
                 have hfv : (fl == 0) = decide (fl = 0) := by rw [Bool.eq_iff_iff]; simp
                 have hfw : (fl != 0) = !decide (fl = 0) := by rw [bne, hfv]
                 rw [hfl0] at hfv hfw
                 clear k7 B6 B4 K6)
              | (refine ld28 (by rfl) _ (by rfl) (w.heap.size + 1) (by rfl) (r.cells none 0) B67.out rfl ?_)
              | (refine st28 (by rfl) _ _ (by rfl) w.heap.size (by rfl) (kz 0) rfl (kz_one 0) (by rfl) (kz 0) B47.out rfl ?_
                 intro u8 Y8 t8
                 have K8 := hid (K7.out.trans (t8.out.below (Nat.le_refl _)))
                 clear t8)
              | (refine st28 (by rfl) _ _ (by rfl) w.heap.size (by rfl) (r.cells none 0) rfl (cells_one r none 0) (by rfl) (kz 0) B47.out rfl ?_
                 intro u8 Y8 t8
                 have K8 := hid (K7.out.trans (t8.out.below (Nat.le_refl _)))
                 clear t8))
          · refine bodyPost_ret (results28 rfl _ _ _ (kz 0) rfl rfl _ rfl Y8.out) rfl ?_
            exact decF_bad (by simpa using hfl0) K8
          · refine bodyPost_ret (results28 rfl _ _ _ (r.cells none 0) rfl rfl _ rfl Y8.out) rfl ?_
            exact decF_ok (by simpa using hfl0) hrm K8

set_option maxRecDepth 100000 in
set_option maxHeartbeats 8000000 in
theorem rdec_xon (k : Rw) (w : World) (nm : ByteArray) (A : Option Addr) (c n : Nat) (bs : List UInt8) (fs : List Fd) (hb : Hid (SlB w w.heap.size A c bs)) (hn : bs.length = n) (hbl : n ≤ 100000) (hX : Hid (rowN nm Rw.all = some k)) (hR : Hid (readF k.kinds bs = (0, fs))) (hk : Hid (k = .xon)) (r : Rq) (hr : Hid (k.get fs { zeroR with kind := k.kind } = r)) (fl : Int) (hfl : Hid ((k.put r .zero).fault = fl)) :
    Calls Tryd.prog 7 #[.string nm, .slice A n c] w (DecF w r fl) := by
  have HK := hid (kat_some hX.out)
  have hkb := kind_bd k
  have B4 : Hid (Box ((w.alloc (.cells (kz 0) 28)).alloc (.cells (kz 0) 28)) w.heap.size 28 (kz 0)) := hid (box_below (Box.new w 28 _) ((Below.refl _ _).alloc (Nat.le_refl _) _))
  have B6 : Hid (Box ((w.alloc (.cells (kz 0) 28)).alloc (.cells (kz 0) 28)) (w.heap.size + 1) 28 (kz 0)) := hid (by have h := Box.new (w.alloc (.cells (kz 0) 28)) 28 (kz 0); rwa [World.size_alloc] at h)
  have K0 : Hid (Below w.heap.size w ((w.alloc (.cells (kz 0) 28)).alloc (.cells (kz 0) 28))) := hid (((Below.refl _ w).alloc (Nat.le_refl _) _).alloc (by simp) _)
  go_enter Tryd.func7, Tryd.ntmps7
  go_wp2_with (first
    | (refine st28 (by rfl) _ _ (by rfl) (w.heap.size + 1) (by rfl) (kz 0) rfl (kz_one 0) (by rfl) (kz 0) B6.out rfl ?_
       intro u1 X1 t1
       have Y1 := hid (t1.out.box B4.out (by omega))
       have K1 := hid (K0.out.trans (t1.out.below (by omega)))
       clear B4 B6 K0 t1))
  go_loopw [7] (fun i wr => ∃ (j : Nat) (K : Int), j ≤ 10 ∧ i = .int .i64 ((j + 1 : Nat) : Int) ∧ Hid (kat nm (Rw.all.take j) 0 = K) ∧ Hid (Box wr (w.heap.size + 1) 28 (kz K)) ∧ Hid (Box wr w.heap.size 28 (kz 0)) ∧ Hid (Below w.heap.size w wr)) (fun i _ => 12 - (intOf i).toNat)
  case atStart => exact ⟨0, 0, by omega, rfl, hid rfl, X1, Y1, K1⟩
  case round =>
    clear X1 Y1 K1 u1
    obtain ⟨j, K, hj, rfl, HKA, X2, Y2, K2⟩ := hrel
    by_cases hlt : j < 10
    · have hst := kat_step nm j hlt
      have hkd := kind_at j hlt
      generalize (Rw.all[j]'(by exact hlt)) = x at hst hkd
      rw [← hkd]
      have hle : x.kind ≤ 10 := by omega
      have hge : 1 ≤ x.kind := by omega
      have HS := hid hst
      have HKD := hid hkd
      clear hst hkd
      have c0 : wr.cell? ⟨w.heap.size + 1, 0, none⟩ = some (.int .i64 K) := X2.out.cell 0
      have f0 : wr.frozen? ⟨w.heap.size + 1, 0, none⟩ = false := X2.out.frozen 0
      by_cases he : x.name = nm
      · have he2 := toL_eq he
        have HS2 : Hid (kat nm (Rw.all.take (j + 1)) 0 = x.kind) := hid (by rw [HS.out, if_pos he])
        clear he
        go_wp2_with (
          go_at_call 23
          (with_reducible refine (qname_x x _).mono ?_)
          rintro e w' ⟨rfl, rfl⟩)
        go_roundw
        case rel => exact ⟨j + 1, x.kind, by omega, by (have h := HKD.out; rw [h]; go_num), HS2, hid (X2.out.store 0 _), hid ((Turn.setCell _ _ 0 _).box Y2.out (by omega)), hid (K2.out.trans ((Turn.setCell _ _ 0 _).below (by omega)))⟩
        case measure => (have h := HKD.out; rw [h]; simp only [intOf]; omega)
      · have hne := toL_ne he
        have HS2 : Hid (kat nm (Rw.all.take (j + 1)) 0 = K) := hid (by rw [HS.out, if_neg he]; exact HKA.out)
        clear he
        go_wp2_with (
          go_at_call 23
          (with_reducible refine (qname_x x _).mono ?_)
          rintro e w' ⟨rfl, rfl⟩)
        go_roundw
        case rel => exact ⟨j + 1, K, by omega, by (have h := HKD.out; rw [h]; go_num), HS2, X2, Y2, K2⟩
        case measure => (have h := HKD.out; rw [h]; simp only [intOf]; omega)
    · obtain rfl : j = 10 := by omega
      obtain rfl : K = k.kind := HKA.out.symm.trans HK.out
      rw [show ((10 + 1 : Nat) : Int) = 11 from rfl]
      have hk0 : (k.kind == 0) = false := by simp; omega
      have c0 : wr.cell? ⟨w.heap.size + 1, 0, none⟩ = some (.int .i64 k.kind) := X2.out.cell 0
      clear hlt hj HKA HK
      go_wp2_with (first
        | (refine ld28 (by rfl) _ (by rfl) (w.heap.size + 1) (by rfl) (kz k.kind) X2.out rfl ?_)
        | (go_at_call 24
           (with_reducible refine (qfields_z k _).mono ?_)
           rintro e u3 ⟨A3, c3, L, rfl, hL, F3, k3⟩
           have X3 := hid (box_below X2.out k3.out)
           have Y3 := hid (box_below Y2.out k3.out)
           have K3 := hid (K2.out.trans (k3.out.mono K2.out.size))
           clear k3 X2 Y2 K2 c0))
      obtain ⟨i3, hi3, hz3, hz31, hz32⟩ := info_parts Tryd.info3r
      have HZK := hid (zfs_kinds k)
      have hL6 : L ≤ 6 := by have h1 := kinds_len k; have h2 := hL.out; rw [← HZK.out, List.length_map] at h1; omega
      generalize zfs k = fs0 at F3 hL HZK
      have I0 : Hid (FkQ u3 u3 fs0 0 none 0) := hid ⟨Below.refl _ _, ⟨rfl, .inl ⟨rfl, rfl⟩⟩⟩
      go_loopw [38, 10] (fun i v wr => ∃ (j : Nat) (A' : Option Addr) (c' : Nat), j ≤ L ∧ i = .int .i64 j ∧ v = .slice A' j c' ∧ Hid (FkQ u3 wr fs0 j A' c')) (fun i _ _ => L - (intOf i).toNat)
      case atStart => exact ⟨0, none, 0, by omega, rfl, rfl, I0⟩
      case round =>
        clear I0
        obtain ⟨j, A', c', hj, rfl, rfl, HR⟩ := hrel
        by_cases hlt : j < L
        · have hjf : j < fs0.length := by have := hL.out; omega
          obtain ⟨fb, fo, rfl, hfb, hfc⟩ := (F3.out.below HR.out.bel) (by intro e; rw [e] at hjf; simp at hjf)
          obtain ⟨tA, tc, lA, lc, _, d0, d1, d2, d3⟩ := hfc j hjf
          clear hfc
          obtain ⟨f, HFJ⟩ : ∃ f, Hid (fs0[j] = f) := ⟨_, hid rfl⟩
          rw [HFJ.out] at d0 d1 d2 d3
          have hj0 : (j : Int) < (L : Int) := by omega
          obtain ⟨tl, HTL⟩ : ∃ tl, Hid (f.text.length = tl) := ⟨_, hid rfl⟩
          obtain ⟨ll, HLL⟩ : ∃ ll, Hid (f.list.length = ll) := ⟨_, hid rfl⟩
          rw [HTL.out] at d2
          rw [HLL.out] at d3
          go_wp2_with (
            at_builtin
            refine wpList_app _ rfl (.tmp 42) (.tmp 45) 66 rfl u3.heap.size 3 i3 _ 1 8 Tryd.underlying66 hi3 hz3 hz31 hz32 rfl ?g1 A' j c' ((fs0.take j).map (fun f => Value.int .i64 f.kind)) rfl ((HR.out.own.alloc _).alloc _) _ _ 1 1 [.int .i64 f.kind] rfl ?g2 (lies_lit_at _ _ _ _ (by simp)) (one1r _) ?g3 ?g4 ?g5 ?_
            case g1 => omega
            case g2 => rfl
            case g3 => unfold maxLen; omega
            case g4 => omega
            case g5 => have := HR.out.bel.size; simp; omega
            intro A6 c6 w6 ho6 hg6
            have HFIN := hid (FkQ.step HR.out hjf HFJ.out ho6 hg6)
            clear ho6 hg6)
          go_roundw
          case rel => exact ⟨j + 1, A6, c6, by omega, by go_num, rfl, HFIN⟩
          case measure => simp [intOf]; omega
        · obtain rfl : j = L := by omega
          have hown := HR.out.own
          have hto : (fs0.take j).map (fun f => Value.int .i64 f.kind) = k.kinds.map (Value.int .i64) := by
            rw [List.take_of_length_le (by rw [hL.out]; omega), ← HZK.out, List.map_map]; rfl
          rw [hto] at hown
          have HLI := hid (Lies.own hown)
          have HKL : Hid (k.kinds.length = j) := hid (by rw [← HZK.out, List.length_map]; exact hL.out)
          have X4 := hid (box_below X3.out HR.out.bel)
          have Y4 := hid (box_below Y3.out HR.out.bel)
          have K4 := hid (K3.out.trans (HR.out.bel.mono K3.out.size))
          have S4 := slb_at hb K4
          clear hown hto X3 Y3 K3 hlt hj hL HZK F3 HR
          have HKD : k.kind = 7 := by rw [hk.out]; rfl
          have XK := kz_kind X4 HKD
          have HRD := hid (show fs.map Fd.kind = k.kinds by have h := readF_rd k (b := bs) (by rw [hR.out]); rw [hR.out] at h; exact h.1)
          obtain ⟨f0, rfl, _⟩ := one_of (show fs.map Fd.kind = [_] from HRD.out.trans (by rw [hk.out]; rfl))
          have hro := hid (show r.Ok by rw [← hr.out]; exact get_okq k (by have h := readF_rd k (b := bs) (by rw [hR.out]); rw [hR.out] at h; exact h.1) (by have h := readF_rd k (b := bs) (by rw [hR.out]); rw [hR.out] at h; exact h.2))
          have hrk : Hid (r.kind = k.kind) := hid (by rw [← hr.out, hk.out]; rfl)
          have hrm : r.modes = [] := by rw [← hr.out, hk.out]; rfl
          have hml : r.modes.length ≤ maxLen := by rw [hrm]; exact Nat.zero_le _
          rw [HKD] at hk0
          clear HKD
          cases hfl0 : decide (fl = 0)
          all_goals
            go_wp2_with (first
              | (go_at_call 25
                 (with_reducible refine (rread_x _ A' c' j n k.kinds A c bs 0 _ HLI HKL (by omega) S4 hn hbl hR).mono ?_)
                 rintro e u5 ⟨A5, c5, cs5, L5, rfl, hL5, ho5, hf5, k5⟩
                 have Y5 := hid (box_below Y4.out k5.out)
                 have X5 := hid (box_below XK.out k5.out)
                 have K5 := hid (K4.out.trans (k5.out.mono K4.out.size))
                 have c0 : u5.cell? ⟨w.heap.size + 1, 0, none⟩ = some (.int .i64 7) := X5.out.cell 0
                 obtain rfl : L5 = 1 := by simpa using hL5.out.symm
                 obtain ⟨tA, tc, lA, lc, q, hq, o5, o9, hq2⟩ := hf5.out
                 obtain ⟨fb, fo, rfl, _, hc⟩ := Lies.own ho5.out (by rw [hq]; simp)
                 rw [hq] at hc
                 have d1 : u5.cell? ⟨fb, fo + 1, none⟩ = some (.int .u32 f0.n) := hc 1 _ rfl
                 obtain ⟨tl, htl⟩ : ∃ tl, f0.text.length = tl := ⟨_, rfl⟩
                 have d2 : u5.cell? ⟨fb, fo + 2, none⟩ = some (.slice tA tl tc) := by rw [← htl]; exact hc 2 _ rfl
                 have hcv := str_back u5 _ tA tc f0.text (Lies.own o5)
                 rw [htl] at hcv
                 have HTL := hid htl
                 clear hc hq hq2 o5 o9 htl
                 have c9 : u5.cell? ⟨w.heap.size + 1, 9, none⟩ = some (.bool false) := X5.out.cell 9
                 have q9 : u5.frozen? ⟨w.heap.size + 1, 9, none⟩ = false := X5.out.frozen 9
                 have B6 : Hid (Box (u5.setCell ⟨w.heap.size + 1, 9, none⟩ (.bool ((f0.n : Int) == 1))) (w.heap.size + 1) 28 (r.cells none 0)) := hid (by rw [← hr.out, hk.out, on_eq]; exact X5.out.store 9 _)
                 have B4 : Hid (Box (u5.setCell ⟨w.heap.size + 1, 9, none⟩ (.bool ((f0.n : Int) == 1))) w.heap.size 28 (kz 0)) := hid ((Turn.setCell _ _ 9 _).box Y5.out (by omega))
                 have K6 : Hid (Below w.heap.size w (u5.setCell ⟨w.heap.size + 1, 9, none⟩ (.bool ((f0.n : Int) == 1)))) := hid (K5.out.trans ((Turn.setCell _ _ 9 _).below (by omega)))
                 clear k5 X4 Y4 K4 S4 XK X5 Y5 K5)
              | (refine ld28 (by rfl) _ (by rfl) (w.heap.size + 1) (by rfl) (r.cells none 0) B6.out rfl ?_)
              | (go_at_call 26
                 (with_reducible refine (fault_x k r none 0 _ fl hrk hro hml hfl).mono ?_)
                 rintro e u7 ⟨rfl, k7⟩
                 have B67 := hid (box_below B6.out k7.out)
                 have B47 := hid (box_below B4.out k7.out)
                 have K7 := hid (K6.out.trans (k7.out.mono K6.out.size))
                 have hfv : (fl == 0) = decide (fl = 0) := by rw [Bool.eq_iff_iff]; simp
                 have hfw : (fl != 0) = !decide (fl = 0) := by rw [bne, hfv]
                 rw [hfl0] at hfv hfw
                 clear k7 B6 B4 K6)
              | (refine ld28 (by rfl) _ (by rfl) (w.heap.size + 1) (by rfl) (r.cells none 0) B67.out rfl ?_)
              | (refine st28 (by rfl) _ _ (by rfl) w.heap.size (by rfl) (kz 0) rfl (kz_one 0) (by rfl) (kz 0) B47.out rfl ?_
                 intro u8 Y8 t8
                 have K8 := hid (K7.out.trans (t8.out.below (Nat.le_refl _)))
                 clear t8)
              | (refine st28 (by rfl) _ _ (by rfl) w.heap.size (by rfl) (r.cells none 0) rfl (cells_one r none 0) (by rfl) (kz 0) B47.out rfl ?_
                 intro u8 Y8 t8
                 have K8 := hid (K7.out.trans (t8.out.below (Nat.le_refl _)))
                 clear t8))
          · refine bodyPost_ret (results28 rfl _ _ _ (kz 0) rfl rfl _ rfl Y8.out) rfl ?_
            exact decF_bad (by simpa using hfl0) K8
          · refine bodyPost_ret (results28 rfl _ _ _ (r.cells none 0) rfl rfl _ rfl Y8.out) rfl ?_
            exact decF_ok (by simpa using hfl0) hrm K8

set_option maxRecDepth 100000 in
set_option maxHeartbeats 8000000 in
theorem rdec_status (k : Rw) (w : World) (nm : ByteArray) (A : Option Addr) (c n : Nat) (bs : List UInt8) (fs : List Fd) (hb : Hid (SlB w w.heap.size A c bs)) (hn : bs.length = n) (hbl : n ≤ 100000) (hX : Hid (rowN nm Rw.all = some k)) (hR : Hid (readF k.kinds bs = (0, fs))) (hk : Hid (k = .status)) (r : Rq) (hr : Hid (k.get fs { zeroR with kind := k.kind } = r)) (fl : Int) (hfl : Hid ((k.put r .zero).fault = fl)) :
    Calls Tryd.prog 7 #[.string nm, .slice A n c] w (DecF w r fl) := by
  have HK := hid (kat_some hX.out)
  have hkb := kind_bd k
  have B4 : Hid (Box ((w.alloc (.cells (kz 0) 28)).alloc (.cells (kz 0) 28)) w.heap.size 28 (kz 0)) := hid (box_below (Box.new w 28 _) ((Below.refl _ _).alloc (Nat.le_refl _) _))
  have B6 : Hid (Box ((w.alloc (.cells (kz 0) 28)).alloc (.cells (kz 0) 28)) (w.heap.size + 1) 28 (kz 0)) := hid (by have h := Box.new (w.alloc (.cells (kz 0) 28)) 28 (kz 0); rwa [World.size_alloc] at h)
  have K0 : Hid (Below w.heap.size w ((w.alloc (.cells (kz 0) 28)).alloc (.cells (kz 0) 28))) := hid (((Below.refl _ w).alloc (Nat.le_refl _) _).alloc (by simp) _)
  go_enter Tryd.func7, Tryd.ntmps7
  go_wp2_with (first
    | (refine st28 (by rfl) _ _ (by rfl) (w.heap.size + 1) (by rfl) (kz 0) rfl (kz_one 0) (by rfl) (kz 0) B6.out rfl ?_
       intro u1 X1 t1
       have Y1 := hid (t1.out.box B4.out (by omega))
       have K1 := hid (K0.out.trans (t1.out.below (by omega)))
       clear B4 B6 K0 t1))
  go_loopw [7] (fun i wr => ∃ (j : Nat) (K : Int), j ≤ 10 ∧ i = .int .i64 ((j + 1 : Nat) : Int) ∧ Hid (kat nm (Rw.all.take j) 0 = K) ∧ Hid (Box wr (w.heap.size + 1) 28 (kz K)) ∧ Hid (Box wr w.heap.size 28 (kz 0)) ∧ Hid (Below w.heap.size w wr)) (fun i _ => 12 - (intOf i).toNat)
  case atStart => exact ⟨0, 0, by omega, rfl, hid rfl, X1, Y1, K1⟩
  case round =>
    clear X1 Y1 K1 u1
    obtain ⟨j, K, hj, rfl, HKA, X2, Y2, K2⟩ := hrel
    by_cases hlt : j < 10
    · have hst := kat_step nm j hlt
      have hkd := kind_at j hlt
      generalize (Rw.all[j]'(by exact hlt)) = x at hst hkd
      rw [← hkd]
      have hle : x.kind ≤ 10 := by omega
      have hge : 1 ≤ x.kind := by omega
      have HS := hid hst
      have HKD := hid hkd
      clear hst hkd
      have c0 : wr.cell? ⟨w.heap.size + 1, 0, none⟩ = some (.int .i64 K) := X2.out.cell 0
      have f0 : wr.frozen? ⟨w.heap.size + 1, 0, none⟩ = false := X2.out.frozen 0
      by_cases he : x.name = nm
      · have he2 := toL_eq he
        have HS2 : Hid (kat nm (Rw.all.take (j + 1)) 0 = x.kind) := hid (by rw [HS.out, if_pos he])
        clear he
        go_wp2_with (
          go_at_call 23
          (with_reducible refine (qname_x x _).mono ?_)
          rintro e w' ⟨rfl, rfl⟩)
        go_roundw
        case rel => exact ⟨j + 1, x.kind, by omega, by (have h := HKD.out; rw [h]; go_num), HS2, hid (X2.out.store 0 _), hid ((Turn.setCell _ _ 0 _).box Y2.out (by omega)), hid (K2.out.trans ((Turn.setCell _ _ 0 _).below (by omega)))⟩
        case measure => (have h := HKD.out; rw [h]; simp only [intOf]; omega)
      · have hne := toL_ne he
        have HS2 : Hid (kat nm (Rw.all.take (j + 1)) 0 = K) := hid (by rw [HS.out, if_neg he]; exact HKA.out)
        clear he
        go_wp2_with (
          go_at_call 23
          (with_reducible refine (qname_x x _).mono ?_)
          rintro e w' ⟨rfl, rfl⟩)
        go_roundw
        case rel => exact ⟨j + 1, K, by omega, by (have h := HKD.out; rw [h]; go_num), HS2, X2, Y2, K2⟩
        case measure => (have h := HKD.out; rw [h]; simp only [intOf]; omega)
    · obtain rfl : j = 10 := by omega
      obtain rfl : K = k.kind := HKA.out.symm.trans HK.out
      rw [show ((10 + 1 : Nat) : Int) = 11 from rfl]
      have hk0 : (k.kind == 0) = false := by simp; omega
      have c0 : wr.cell? ⟨w.heap.size + 1, 0, none⟩ = some (.int .i64 k.kind) := X2.out.cell 0
      clear hlt hj HKA HK
      go_wp2_with (first
        | (refine ld28 (by rfl) _ (by rfl) (w.heap.size + 1) (by rfl) (kz k.kind) X2.out rfl ?_)
        | (go_at_call 24
           (with_reducible refine (qfields_z k _).mono ?_)
           rintro e u3 ⟨A3, c3, L, rfl, hL, F3, k3⟩
           have X3 := hid (box_below X2.out k3.out)
           have Y3 := hid (box_below Y2.out k3.out)
           have K3 := hid (K2.out.trans (k3.out.mono K2.out.size))
           clear k3 X2 Y2 K2 c0))
      obtain ⟨i3, hi3, hz3, hz31, hz32⟩ := info_parts Tryd.info3r
      have HZK := hid (zfs_kinds k)
      have hL6 : L ≤ 6 := by have h1 := kinds_len k; have h2 := hL.out; rw [← HZK.out, List.length_map] at h1; omega
      generalize zfs k = fs0 at F3 hL HZK
      have I0 : Hid (FkQ u3 u3 fs0 0 none 0) := hid ⟨Below.refl _ _, ⟨rfl, .inl ⟨rfl, rfl⟩⟩⟩
      go_loopw [38, 10] (fun i v wr => ∃ (j : Nat) (A' : Option Addr) (c' : Nat), j ≤ L ∧ i = .int .i64 j ∧ v = .slice A' j c' ∧ Hid (FkQ u3 wr fs0 j A' c')) (fun i _ _ => L - (intOf i).toNat)
      case atStart => exact ⟨0, none, 0, by omega, rfl, rfl, I0⟩
      case round =>
        clear I0
        obtain ⟨j, A', c', hj, rfl, rfl, HR⟩ := hrel
        by_cases hlt : j < L
        · have hjf : j < fs0.length := by have := hL.out; omega
          obtain ⟨fb, fo, rfl, hfb, hfc⟩ := (F3.out.below HR.out.bel) (by intro e; rw [e] at hjf; simp at hjf)
          obtain ⟨tA, tc, lA, lc, _, d0, d1, d2, d3⟩ := hfc j hjf
          clear hfc
          obtain ⟨f, HFJ⟩ : ∃ f, Hid (fs0[j] = f) := ⟨_, hid rfl⟩
          rw [HFJ.out] at d0 d1 d2 d3
          have hj0 : (j : Int) < (L : Int) := by omega
          obtain ⟨tl, HTL⟩ : ∃ tl, Hid (f.text.length = tl) := ⟨_, hid rfl⟩
          obtain ⟨ll, HLL⟩ : ∃ ll, Hid (f.list.length = ll) := ⟨_, hid rfl⟩
          rw [HTL.out] at d2
          rw [HLL.out] at d3
          go_wp2_with (
            at_builtin
            refine wpList_app _ rfl (.tmp 42) (.tmp 45) 66 rfl u3.heap.size 3 i3 _ 1 8 Tryd.underlying66 hi3 hz3 hz31 hz32 rfl ?g1 A' j c' ((fs0.take j).map (fun f => Value.int .i64 f.kind)) rfl ((HR.out.own.alloc _).alloc _) _ _ 1 1 [.int .i64 f.kind] rfl ?g2 (lies_lit_at _ _ _ _ (by simp)) (one1r _) ?g3 ?g4 ?g5 ?_
            case g1 => omega
            case g2 => rfl
            case g3 => unfold maxLen; omega
            case g4 => omega
            case g5 => have := HR.out.bel.size; simp; omega
            intro A6 c6 w6 ho6 hg6
            have HFIN := hid (FkQ.step HR.out hjf HFJ.out ho6 hg6)
            clear ho6 hg6)
          go_roundw
          case rel => exact ⟨j + 1, A6, c6, by omega, by go_num, rfl, HFIN⟩
          case measure => simp [intOf]; omega
        · obtain rfl : j = L := by omega
          have hown := HR.out.own
          have hto : (fs0.take j).map (fun f => Value.int .i64 f.kind) = k.kinds.map (Value.int .i64) := by
            rw [List.take_of_length_le (by rw [hL.out]; omega), ← HZK.out, List.map_map]; rfl
          rw [hto] at hown
          have HLI := hid (Lies.own hown)
          have HKL : Hid (k.kinds.length = j) := hid (by rw [← HZK.out, List.length_map]; exact hL.out)
          have X4 := hid (box_below X3.out HR.out.bel)
          have Y4 := hid (box_below Y3.out HR.out.bel)
          have K4 := hid (K3.out.trans (HR.out.bel.mono K3.out.size))
          have S4 := slb_at hb K4
          clear hown hto X3 Y3 K3 hlt hj hL HZK F3 HR
          have HKD : k.kind = 9 := by rw [hk.out]; rfl
          have XK := kz_kind X4 HKD
          have HRD := hid (show fs.map Fd.kind = k.kinds by have h := readF_rd k (b := bs) (by rw [hR.out]); rw [hR.out] at h; exact h.1)
          obtain ⟨f0, rfl, _⟩ := one_of (show fs.map Fd.kind = [_] from HRD.out.trans (by rw [hk.out]; rfl))
          have hro := hid (show r.Ok by rw [← hr.out]; exact get_okq k (by have h := readF_rd k (b := bs) (by rw [hR.out]); rw [hR.out] at h; exact h.1) (by have h := readF_rd k (b := bs) (by rw [hR.out]); rw [hR.out] at h; exact h.2))
          have hrk : Hid (r.kind = k.kind) := hid (by rw [← hr.out, hk.out]; rfl)
          have hrm : r.modes = [] := by rw [← hr.out, hk.out]; rfl
          have hml : r.modes.length ≤ maxLen := by rw [hrm]; exact Nat.zero_le _
          rw [HKD] at hk0
          clear HKD
          cases hfl0 : decide (fl = 0)
          all_goals
            go_wp2_with (first
              | (go_at_call 25
                 (with_reducible refine (rread_x _ A' c' j n k.kinds A c bs 0 _ HLI HKL (by omega) S4 hn hbl hR).mono ?_)
                 rintro e u5 ⟨A5, c5, cs5, L5, rfl, hL5, ho5, hf5, k5⟩
                 have Y5 := hid (box_below Y4.out k5.out)
                 have X5 := hid (box_below XK.out k5.out)
                 have K5 := hid (K4.out.trans (k5.out.mono K4.out.size))
                 have c0 : u5.cell? ⟨w.heap.size + 1, 0, none⟩ = some (.int .i64 9) := X5.out.cell 0
                 obtain rfl : L5 = 1 := by simpa using hL5.out.symm
                 obtain ⟨tA, tc, lA, lc, q, hq, o5, o9, hq2⟩ := hf5.out
                 obtain ⟨fb, fo, rfl, _, hc⟩ := Lies.own ho5.out (by rw [hq]; simp)
                 rw [hq] at hc
                 have d1 : u5.cell? ⟨fb, fo + 1, none⟩ = some (.int .u32 f0.n) := hc 1 _ rfl
                 obtain ⟨tl, htl⟩ : ∃ tl, f0.text.length = tl := ⟨_, rfl⟩
                 have d2 : u5.cell? ⟨fb, fo + 2, none⟩ = some (.slice tA tl tc) := by rw [← htl]; exact hc 2 _ rfl
                 have hcv := str_back u5 _ tA tc f0.text (Lies.own o5)
                 rw [htl] at hcv
                 have HTL := hid htl
                 clear hc hq hq2 o5 o9 htl
                 have c10 : u5.cell? ⟨w.heap.size + 1, 10, none⟩ = some (.int .u32 0) := X5.out.cell 10
                 have q10 : u5.frozen? ⟨w.heap.size + 1, 10, none⟩ = false := X5.out.frozen 10
                 have B6 : Hid (Box (u5.setCell ⟨w.heap.size + 1, 10, none⟩ (.int .u32 f0.n)) (w.heap.size + 1) 28 (r.cells none 0)) := hid (by rw [← hr.out, hk.out]; exact X5.out.store 10 _)
                 have B4 : Hid (Box (u5.setCell ⟨w.heap.size + 1, 10, none⟩ (.int .u32 f0.n)) w.heap.size 28 (kz 0)) := hid ((Turn.setCell _ _ 10 _).box Y5.out (by omega))
                 have K6 : Hid (Below w.heap.size w (u5.setCell ⟨w.heap.size + 1, 10, none⟩ (.int .u32 f0.n))) := hid (K5.out.trans ((Turn.setCell _ _ 10 _).below (by omega)))
                 clear k5 X4 Y4 K4 S4 XK X5 Y5 K5)
              | (refine ld28 (by rfl) _ (by rfl) (w.heap.size + 1) (by rfl) (r.cells none 0) B6.out rfl ?_)
              | (go_at_call 26
                 (with_reducible refine (fault_x k r none 0 _ fl hrk hro hml hfl).mono ?_)
                 rintro e u7 ⟨rfl, k7⟩
                 have B67 := hid (box_below B6.out k7.out)
                 have B47 := hid (box_below B4.out k7.out)
                 have K7 := hid (K6.out.trans (k7.out.mono K6.out.size))
                 have hfv : (fl == 0) = decide (fl = 0) := by rw [Bool.eq_iff_iff]; simp
                 have hfw : (fl != 0) = !decide (fl = 0) := by rw [bne, hfv]
                 rw [hfl0] at hfv hfw
                 clear k7 B6 B4 K6)
              | (refine ld28 (by rfl) _ (by rfl) (w.heap.size + 1) (by rfl) (r.cells none 0) B67.out rfl ?_)
              | (refine st28 (by rfl) _ _ (by rfl) w.heap.size (by rfl) (kz 0) rfl (kz_one 0) (by rfl) (kz 0) B47.out rfl ?_
                 intro u8 Y8 t8
                 have K8 := hid (K7.out.trans (t8.out.below (Nat.le_refl _)))
                 clear t8)
              | (refine st28 (by rfl) _ _ (by rfl) w.heap.size (by rfl) (r.cells none 0) rfl (cells_one r none 0) (by rfl) (kz 0) B47.out rfl ?_
                 intro u8 Y8 t8
                 have K8 := hid (K7.out.trans (t8.out.below (Nat.le_refl _)))
                 clear t8))
          · refine bodyPost_ret (results28 rfl _ _ _ (kz 0) rfl rfl _ rfl Y8.out) rfl ?_
            exact decF_bad (by simpa using hfl0) K8
          · refine bodyPost_ret (results28 rfl _ _ _ (r.cells none 0) rfl rfl _ rfl Y8.out) rfl ?_
            exact decF_ok (by simpa using hfl0) hrm K8

end Go.Proofs.YtdplngplljejhaaDoor
