import Derived.Test.YtdplngplljejhaaDoorVC
namespace Go.Proofs.YtdplngplljejhaaDoor
open Go.RowKit

theorem two_of {fs : List Fd} {a b : Int} (h : fs.map Fd.kind = [a, b]) : ∃ f g, fs = [f, g] := by
  match fs, h with
  | [f, g], _ => exact ⟨f, g, rfl⟩
theorem four_of {fs : List Fd} {a b c d : Int} (h : fs.map Fd.kind = [a, b, c, d]) : ∃ f g p q, fs = [f, g, p, q] := by
  match fs, h with
  | [f, g, p, q], _ => exact ⟨f, g, p, q, rfl⟩
theorem six_of {fs : List Fd} {a b c d e i : Int} (h : fs.map Fd.kind = [a, b, c, d, e, i]) : ∃ f0 f1 f2 f3 f4 f5, fs = [f0, f1, f2, f3, f4, f5] := by
  match fs, h with
  | [f0, f1, f2, f3, f4, f5], _ => exact ⟨f0, f1, f2, f3, f4, f5, rfl⟩
/-- Bytes that are the call's own are told as text in whatever world keeps them. -/
theorem conv_k {u W : World} {B : Nat} {A : Option Addr} {n c : Nat} {tx : List UInt8} (ho : Hid (u.ownsRow B 5 1 (.slice A tx.length c) tx.length (bv tx))) (hn : tx.length = n) (hk : Kept 0 [28] u W) : (convert 22 9 (.slice A n c)).run Tryd.prog W = .ok (.string ⟨tx.toArray⟩) W := by
  subst hn
  exact str_back W _ A c tx (Lies.own (hk.own ho.out (by decide)))
theorem kept_k {a u : World} {g i : Nat} {cs : Array Value} {v : Value} (h : Kept 0 [28] a u) (hx : Box u g 28 cs) : Kept 0 [28] a (u.setCell ⟨g, i, none⟩ v) := h.store hx (Nat.zero_le _) (by simp) v
theorem kept_d {a u : World} (h : Kept 0 [28] a u) : Kept 0 [28] a u.drew := h.drew
theorem decF_own {w w' : World} {r : Rq} {fl : Int} {A : Option Addr} {c : Nat} (h : fl = 0) (ho : Hid (w'.ownsRow w.heap.size 5 1 (.slice A r.modes.length c) r.modes.length (bv r.modes))) (hb : Hid (Below w.heap.size w w')) : DecF w r fl (.returned (.tuple #[.agg (r.cells A c), .int .i64 0])) w' := by
  unfold DecF
  rw [if_pos h]
  exact ⟨A, c, rfl, ho.out, hb.out⟩

set_option maxRecDepth 100000 in
set_option maxHeartbeats 8000000 in
theorem rdec_env (k : Rw) (w : World) (nm : ByteArray) (A : Option Addr) (c n : Nat) (bs : List UInt8) (fs : List Fd) (hb : Hid (SlB w w.heap.size A c bs)) (hn : bs.length = n) (hbl : n ≤ 100000) (hX : Hid (rowN nm Rw.all = some k)) (hR : Hid (readF k.kinds bs = (0, fs))) (hk : Hid (k = .env)) (r : Rq) (hr : Hid (k.get fs { zeroR with kind := k.kind } = r)) (fl : Int) (hfl : Hid ((k.put r .zero).fault = fl)) :
    Calls Tryd.prog 7 #[.string nm, .slice A n c] w (DecF w r fl) := by
  have HK := hid (kat_some hX.out)
  have hkb := kind_bd k
  have B4 : Hid (Box ((w.alloc (.cells (kz 0) 28)).alloc (.cells (kz 0) 28)) w.heap.size 28 (kz 0)) := hid (box_below (Box.new w 28 _) ((Below.refl _ _).alloc (Nat.le_refl _) _))
  have B6 : Hid (Box ((w.alloc (.cells (kz 0) 28)).alloc (.cells (kz 0) 28)) (w.heap.size + 1) 28 (kz 0)) := hid (by have h := Box.new (w.alloc (.cells (kz 0) 28)) 28 (kz 0); rwa [World.size_alloc] at h)
  have K0 : Hid (Below w.heap.size w ((w.alloc (.cells (kz 0) 28)).alloc (.cells (kz 0) 28))) := hid (((Below.refl _ w).alloc (Nat.le_refl _) _).alloc (by simp) _)
  go_enter Tryd.func7, Tryd.ntmps7
  go_wp2_with (first
    | (refine st28 (by rfl) _ _ (by rfl) (w.heap.size + 1) (by rfl) (kz 0) rfl (kz_one 0) (by rfl) (kz 0) B6.out rfl ?_
       intro u1 X1 t1
       have Y1 := hid (t1.out.box B4.out (by omega))
       have K1 := hid (K0.out.trans (t1.out.below (by omega)))
       clear B4 B6 K0 t1))
  go_loopw [7] (fun i wr => ∃ (j : Nat) (K : Int), j ≤ 10 ∧ i = .int .i64 ((j + 1 : Nat) : Int) ∧ Hid (kat nm (Rw.all.take j) 0 = K) ∧ Hid (Box wr (w.heap.size + 1) 28 (kz K)) ∧ Hid (Box wr w.heap.size 28 (kz 0)) ∧ Hid (Below w.heap.size w wr)) (fun i _ => 12 - (intOf i).toNat)
  case atStart => exact ⟨0, 0, by omega, rfl, hid rfl, X1, Y1, K1⟩
  case round =>
    clear X1 Y1 K1 u1
    obtain ⟨j, K, hj, rfl, HKA, X2, Y2, K2⟩ := hrel
    by_cases hlt : j < 10
    · have hst := kat_step nm j hlt
      have hkd := kind_at j hlt
      generalize (Rw.all[j]'(by exact hlt)) = x at hst hkd
      rw [← hkd]
      have hle : x.kind ≤ 10 := by omega
      have hge : 1 ≤ x.kind := by omega
      have HS := hid hst
      have HKD := hid hkd
      clear hst hkd
      have c0 : wr.cell? ⟨w.heap.size + 1, 0, none⟩ = some (.int .i64 K) := X2.out.cell 0
      have f0 : wr.frozen? ⟨w.heap.size + 1, 0, none⟩ = false := X2.out.frozen 0
      by_cases he : x.name = nm
      · have he2 := toL_eq he
        have HS2 : Hid (kat nm (Rw.all.take (j + 1)) 0 = x.kind) := hid (by rw [HS.out, if_pos he])
        clear he
        go_wp2_with (
          go_at_call 23
          (with_reducible refine (qname_x x _).mono ?_)
          rintro e w' ⟨rfl, rfl⟩)
        go_roundw
        case rel => exact ⟨j + 1, x.kind, by omega, by (have h := HKD.out; rw [h]; go_num), HS2, hid (X2.out.store 0 _), hid ((Turn.setCell _ _ 0 _).box Y2.out (by omega)), hid (K2.out.trans ((Turn.setCell _ _ 0 _).below (by omega)))⟩
        case measure => (have h := HKD.out; rw [h]; simp only [intOf]; omega)
      · have hne := toL_ne he
        have HS2 : Hid (kat nm (Rw.all.take (j + 1)) 0 = K) := hid (by rw [HS.out, if_neg he]; exact HKA.out)
        clear he
        go_wp2_with (
          go_at_call 23
          (with_reducible refine (qname_x x _).mono ?_)
          rintro e w' ⟨rfl, rfl⟩)
        go_roundw
        case rel => exact ⟨j + 1, K, by omega, by (have h := HKD.out; rw [h]; go_num), HS2, X2, Y2, K2⟩
        case measure => (have h := HKD.out; rw [h]; simp only [intOf]; omega)
    · obtain rfl : j = 10 := by omega
      obtain rfl : K = k.kind := HKA.out.symm.trans HK.out
      rw [show ((10 + 1 : Nat) : Int) = 11 from rfl]
      have hk0 : (k.kind == 0) = false := by simp; omega
      have c0 : wr.cell? ⟨w.heap.size + 1, 0, none⟩ = some (.int .i64 k.kind) := X2.out.cell 0
      clear hlt hj HKA HK
      go_wp2_with (first
        | (refine ld28 (by rfl) _ (by rfl) (w.heap.size + 1) (by rfl) (kz k.kind) X2.out rfl ?_)
        | (go_at_call 24
           (with_reducible refine (qfields_z k _).mono ?_)
           rintro e u3 ⟨A3, c3, L, rfl, hL, F3, k3⟩
           have X3 := hid (box_below X2.out k3.out)
           have Y3 := hid (box_below Y2.out k3.out)
           have K3 := hid (K2.out.trans (k3.out.mono K2.out.size))
           clear k3 X2 Y2 K2 c0))
      obtain ⟨i3, hi3, hz3, hz31, hz32⟩ := info_parts Tryd.info3r
      have HZK := hid (zfs_kinds k)
      have hL6 : L ≤ 6 := by have h1 := kinds_len k; have h2 := hL.out; rw [← HZK.out, List.length_map] at h1; omega
      generalize zfs k = fs0 at F3 hL HZK
      have I0 : Hid (FkQ u3 u3 fs0 0 none 0) := hid ⟨Below.refl _ _, ⟨rfl, .inl ⟨rfl, rfl⟩⟩⟩
      go_loopw [38, 10] (fun i v wr => ∃ (j : Nat) (A' : Option Addr) (c' : Nat), j ≤ L ∧ i = .int .i64 j ∧ v = .slice A' j c' ∧ Hid (FkQ u3 wr fs0 j A' c')) (fun i _ _ => L - (intOf i).toNat)
      case atStart => exact ⟨0, none, 0, by omega, rfl, rfl, I0⟩
      case round =>
        clear I0
        obtain ⟨j, A', c', hj, rfl, rfl, HR⟩ := hrel
        by_cases hlt : j < L
        · have hjf : j < fs0.length := by have := hL.out; omega
          obtain ⟨fb, fo, rfl, hfb, hfc⟩ := (F3.out.below HR.out.bel) (by intro e; rw [e] at hjf; simp at hjf)
          obtain ⟨tA, tc, lA, lc, _, d0, d1, d2, d3⟩ := hfc j hjf
          clear hfc
          obtain ⟨f, HFJ⟩ : ∃ f, Hid (fs0[j] = f) := ⟨_, hid rfl⟩
          rw [HFJ.out] at d0 d1 d2 d3
          have hj0 : (j : Int) < (L : Int) := by omega
          obtain ⟨tl, HTL⟩ : ∃ tl, Hid (f.text.length = tl) := ⟨_, hid rfl⟩
          obtain ⟨ll, HLL⟩ : ∃ ll, Hid (f.list.length = ll) := ⟨_, hid rfl⟩
          rw [HTL.out] at d2
          rw [HLL.out] at d3
          go_wp2_with (
            at_builtin
            refine wpList_app _ rfl (.tmp 42) (.tmp 45) 66 rfl u3.heap.size 3 i3 _ 1 8 Tryd.underlying66 hi3 hz3 hz31 hz32 rfl ?g1 A' j c' ((fs0.take j).map (fun f => Value.int .i64 f.kind)) rfl ((HR.out.own.alloc _).alloc _) _ _ 1 1 [.int .i64 f.kind] rfl ?g2 (lies_lit_at _ _ _ _ (by simp)) (one1r _) ?g3 ?g4 ?g5 ?_
            case g1 => omega
            case g2 => rfl
            case g3 => unfold maxLen; omega
            case g4 => omega
            case g5 => have := HR.out.bel.size; simp; omega
            intro A6 c6 w6 ho6 hg6
            have HFIN := hid (FkQ.step HR.out hjf HFJ.out ho6 hg6)
            clear ho6 hg6)
          go_roundw
          case rel => exact ⟨j + 1, A6, c6, by omega, by go_num, rfl, HFIN⟩
          case measure => simp [intOf]; omega
        · obtain rfl : j = L := by omega
          have hown := HR.out.own
          have hto : (fs0.take j).map (fun f => Value.int .i64 f.kind) = k.kinds.map (Value.int .i64) := by
            rw [List.take_of_length_le (by rw [hL.out]; omega), ← HZK.out, List.map_map]; rfl
          rw [hto] at hown
          have HLI := hid (Lies.own hown)
          have HKL : Hid (k.kinds.length = j) := hid (by rw [← HZK.out, List.length_map]; exact hL.out)
          have X4 := hid (box_below X3.out HR.out.bel)
          have Y4 := hid (box_below Y3.out HR.out.bel)
          have K4 := hid (K3.out.trans (HR.out.bel.mono K3.out.size))
          have S4 := slb_at hb K4
          clear hown hto X3 Y3 K3 hlt hj hL HZK F3 HR
          have HKD : k.kind = 2 := by rw [hk.out]; rfl
          have XK := kz_kind X4 HKD
          have HRD := hid (show fs.map Fd.kind = k.kinds by have h := readF_rd k (b := bs) (by rw [hR.out]); rw [hR.out] at h; exact h.1)
          obtain ⟨f0, f1, rfl⟩ := two_of (show fs.map Fd.kind = [_, _] from HRD.out.trans (by rw [hk.out]; rfl))
          have hro := hid (show r.Ok by rw [← hr.out]; exact get_okq k (by have h := readF_rd k (b := bs) (by rw [hR.out]); rw [hR.out] at h; exact h.1) (by have h := readF_rd k (b := bs) (by rw [hR.out]); rw [hR.out] at h; exact h.2))
          have hrk : Hid (r.kind = k.kind) := hid (by rw [← hr.out, hk.out]; rfl)
          have hrm : r.modes = [] := by rw [← hr.out, hk.out]; rfl
          have hml : r.modes.length ≤ maxLen := by rw [hrm]; exact Nat.zero_le _
          rw [HKD] at hk0
          clear HKD
          go_wp2_with (
            go_at_call 25
            (with_reducible refine (rread_x _ A' c' j n k.kinds A c bs 0 _ HLI HKL (by omega) S4 hn hbl hR).mono ?_)
            rintro e u5 ⟨A5, c5, cs5, L5, rfl, hL5, ho5, hf5, k5⟩
            have Y5 := hid (box_below Y4.out k5.out)
            have X5 := hid (box_below XK.out k5.out)
            have K5 := hid (K4.out.trans (k5.out.mono K4.out.size))
            have c0 : u5.cell? ⟨w.heap.size + 1, 0, none⟩ = some (.int .i64 2) := X5.out.cell 0
            obtain rfl : L5 = 2 := by simpa using hL5.out.symm
            obtain ⟨a0, b0, x0, y0, q0, hq0, o0, p0, a1, b1, x1, y1, q1, hq1, o1, p1, hz⟩ := hf5.out
            obtain ⟨fb, fo, rfl, _, hc⟩ := Lies.own ho5.out (by rw [hq0]; simp)
            rw [hq0, hq1] at hc
            obtain ⟨l0, hl0⟩ : ∃ l, f0.text.length = l := ⟨_, rfl⟩
            have d2 : u5.cell? ⟨fb, fo + 2, none⟩ = some (.slice a0 l0 b0) := by rw [← hl0]; exact hc 2 _ rfl
            have O0 := hid o0
            have e0_0 : (convert 22 9 (.slice a0 l0 b0)).run Tryd.prog u5.drew = .ok (.string ⟨f0.text.toArray⟩) u5.drew := conv_k O0 hl0 (kept_d (Kept.refl _ _ _))
            obtain ⟨l1, hl1⟩ : ∃ l, f1.text.length = l := ⟨_, rfl⟩
            have d6 : u5.cell? ⟨fb, fo + 6, none⟩ = some (.slice a1 l1 b1) := by rw [← hl1]; exact hc 6 _ rfl
            have g6 : u5.cell? ⟨fb, fo + 4 + 2, none⟩ = some (.slice a1 l1 b1) := d6
            have O1 := hid o1
            have e1_0 : (convert 22 9 (.slice a1 l1 b1)).run Tryd.prog u5.drew = .ok (.string ⟨f1.text.toArray⟩) u5.drew := conv_k O1 hl1 (kept_d (Kept.refl _ _ _))
            have e1_1 : ∀ v1, (convert 22 9 (.slice a1 l1 b1)).run Tryd.prog (u5.setCell ⟨w.heap.size + 1, 1, none⟩ v1).drew = .ok (.string ⟨f1.text.toArray⟩) (u5.setCell ⟨w.heap.size + 1, 1, none⟩ v1).drew := fun v1 => conv_k O1 hl1 (kept_d (kept_k (Kept.refl _ _ _) X5.out))
            have c1 : u5.cell? ⟨w.heap.size + 1, 1, none⟩ = some (.string ⟨#[]⟩) := X5.out.cell 1
            have q1 : u5.frozen? ⟨w.heap.size + 1, 1, none⟩ = false := X5.out.frozen 1
            have c2 : u5.cell? ⟨w.heap.size + 1, 2, none⟩ = some (.string ⟨#[]⟩) := X5.out.cell 2
            have q2 : u5.frozen? ⟨w.heap.size + 1, 2, none⟩ = false := X5.out.frozen 2
            clear hc
            clear k5 X4 Y4 K4 S4 XK)
          go_region
          all_goals
            have B6 : Hid (Box ((u5.setCell ⟨w.heap.size + 1, 1, none⟩ (.string ⟨f0.text.toArray⟩)).setCell ⟨w.heap.size + 1, 2, none⟩ (.string ⟨f1.text.toArray⟩)) (w.heap.size + 1) 28 (r.cells none 0)) := hid (by rw [← hr.out, hk.out]; exact ((X5.out.store 1 _).store 2 _))
            have T6 : Kept w.heap.size [28] u5 ((u5.setCell ⟨w.heap.size + 1, 1, none⟩ (.string ⟨f0.text.toArray⟩)).setCell ⟨w.heap.size + 1, 2, none⟩ (.string ⟨f1.text.toArray⟩)) := (((Kept.refl _ _ _).store X5.out (Nat.le_succ _) (by simp) _).store (X5.out.store 1 _) (Nat.le_succ _) (by simp) _)
            have B4 : Hid (Box ((u5.setCell ⟨w.heap.size + 1, 1, none⟩ (.string ⟨f0.text.toArray⟩)).setCell ⟨w.heap.size + 1, 2, none⟩ (.string ⟨f1.text.toArray⟩)) w.heap.size 28 (kz 0)) := hid (((Turn.setCell _ _ 2 _).box ((Turn.setCell _ _ 1 _).box Y5.out (by omega)) (by omega)))
            have K6 : Hid (Below w.heap.size w ((u5.setCell ⟨w.heap.size + 1, 1, none⟩ (.string ⟨f0.text.toArray⟩)).setCell ⟨w.heap.size + 1, 2, none⟩ (.string ⟨f1.text.toArray⟩))) := hid (K5.out.trans (T6.below K5.out.size))
            clear T6 X5 Y5 K5
            generalize hW : ((u5.setCell ⟨w.heap.size + 1, 1, none⟩ (.string ⟨f0.text.toArray⟩)).setCell ⟨w.heap.size + 1, 2, none⟩ (.string ⟨f1.text.toArray⟩)) = u6 at B6 B4 K6 ⊢
            clear hW
            have B6d : Hid (Box u6.drew (w.heap.size + 1) 28 (r.cells none 0)) := B6
            have B4d : Hid (Box u6.drew w.heap.size 28 (kz 0)) := B4
            have K6d : Hid (Below w.heap.size w u6.drew) := hid K6.out.drew
            cases hfl0 : decide (fl = 0)
            all_goals
              go_wp2_with (first
                | (refine ld28 (by rfl) _ (by rfl) (w.heap.size + 1) (by rfl) (r.cells none 0) B6d.out rfl ?_)
                | (go_at_call 26
                   (with_reducible refine (fault_x k r none 0 _ fl hrk hro hml hfl).mono ?_)
                   rintro e u7 ⟨rfl, k7⟩
                   have B67 := hid (box_below B6d.out k7.out)
                   have B47 := hid (box_below B4d.out k7.out)
                   have K7 := hid (K6d.out.trans (k7.out.mono K6d.out.size))
                   have hfv : (fl == 0) = decide (fl = 0) := by rw [Bool.eq_iff_iff]; simp
                   have hfw : (fl != 0) = !decide (fl = 0) := by rw [bne, hfv]
                   rw [hfl0] at hfv hfw
                   clear k7 B6d B4d K6d)
                | (refine ld28 (by rfl) _ (by rfl) (w.heap.size + 1) (by rfl) (r.cells none 0) B67.out rfl ?_)
                | (refine st28 (by rfl) _ _ (by rfl) w.heap.size (by rfl) (kz 0) rfl (kz_one 0) (by rfl) (kz 0) B47.out rfl ?_
                   intro u8 Y8 t8
                   have K8 := hid (K7.out.trans (t8.out.below (Nat.le_refl _)))
                   clear t8)
                | (refine st28 (by rfl) _ _ (by rfl) w.heap.size (by rfl) (r.cells none 0) rfl (cells_one r none 0) (by rfl) (kz 0) B47.out rfl ?_
                   intro u8 Y8 t8
                   have K8 := hid (K7.out.trans (t8.out.below (Nat.le_refl _)))
                   clear t8))
              first
                | (refine bodyPost_ret (results28 rfl _ _ _ (kz 0) rfl rfl _ rfl Y8.out) rfl ?_
                   exact decF_bad (by simpa using hfl0) K8)
                | (refine bodyPost_ret (results28 rfl _ _ _ (r.cells none 0) rfl rfl _ rfl Y8.out) rfl ?_
                   exact decF_ok (by simpa using hfl0) hrm K8)

set_option maxRecDepth 100000 in
set_option maxHeartbeats 8000000 in
theorem rdec_change (k : Rw) (w : World) (nm : ByteArray) (A : Option Addr) (c n : Nat) (bs : List UInt8) (fs : List Fd) (hb : Hid (SlB w w.heap.size A c bs)) (hn : bs.length = n) (hbl : n ≤ 100000) (hX : Hid (rowN nm Rw.all = some k)) (hR : Hid (readF k.kinds bs = (0, fs))) (hk : Hid (k = .change)) (r : Rq) (hr : Hid (k.get fs { zeroR with kind := k.kind } = r)) (fl : Int) (hfl : Hid ((k.put r .zero).fault = fl)) :
    Calls Tryd.prog 7 #[.string nm, .slice A n c] w (DecF w r fl) := by
  have HK := hid (kat_some hX.out)
  have hkb := kind_bd k
  have B4 : Hid (Box ((w.alloc (.cells (kz 0) 28)).alloc (.cells (kz 0) 28)) w.heap.size 28 (kz 0)) := hid (box_below (Box.new w 28 _) ((Below.refl _ _).alloc (Nat.le_refl _) _))
  have B6 : Hid (Box ((w.alloc (.cells (kz 0) 28)).alloc (.cells (kz 0) 28)) (w.heap.size + 1) 28 (kz 0)) := hid (by have h := Box.new (w.alloc (.cells (kz 0) 28)) 28 (kz 0); rwa [World.size_alloc] at h)
  have K0 : Hid (Below w.heap.size w ((w.alloc (.cells (kz 0) 28)).alloc (.cells (kz 0) 28))) := hid (((Below.refl _ w).alloc (Nat.le_refl _) _).alloc (by simp) _)
  go_enter Tryd.func7, Tryd.ntmps7
  go_wp2_with (first
    | (refine st28 (by rfl) _ _ (by rfl) (w.heap.size + 1) (by rfl) (kz 0) rfl (kz_one 0) (by rfl) (kz 0) B6.out rfl ?_
       intro u1 X1 t1
       have Y1 := hid (t1.out.box B4.out (by omega))
       have K1 := hid (K0.out.trans (t1.out.below (by omega)))
       clear B4 B6 K0 t1))
  go_loopw [7] (fun i wr => ∃ (j : Nat) (K : Int), j ≤ 10 ∧ i = .int .i64 ((j + 1 : Nat) : Int) ∧ Hid (kat nm (Rw.all.take j) 0 = K) ∧ Hid (Box wr (w.heap.size + 1) 28 (kz K)) ∧ Hid (Box wr w.heap.size 28 (kz 0)) ∧ Hid (Below w.heap.size w wr)) (fun i _ => 12 - (intOf i).toNat)
  case atStart => exact ⟨0, 0, by omega, rfl, hid rfl, X1, Y1, K1⟩
  case round =>
    clear X1 Y1 K1 u1
    obtain ⟨j, K, hj, rfl, HKA, X2, Y2, K2⟩ := hrel
    by_cases hlt : j < 10
    · have hst := kat_step nm j hlt
      have hkd := kind_at j hlt
      generalize (Rw.all[j]'(by exact hlt)) = x at hst hkd
      rw [← hkd]
      have hle : x.kind ≤ 10 := by omega
      have hge : 1 ≤ x.kind := by omega
      have HS := hid hst
      have HKD := hid hkd
      clear hst hkd
      have c0 : wr.cell? ⟨w.heap.size + 1, 0, none⟩ = some (.int .i64 K) := X2.out.cell 0
      have f0 : wr.frozen? ⟨w.heap.size + 1, 0, none⟩ = false := X2.out.frozen 0
      by_cases he : x.name = nm
      · have he2 := toL_eq he
        have HS2 : Hid (kat nm (Rw.all.take (j + 1)) 0 = x.kind) := hid (by rw [HS.out, if_pos he])
        clear he
        go_wp2_with (
          go_at_call 23
          (with_reducible refine (qname_x x _).mono ?_)
          rintro e w' ⟨rfl, rfl⟩)
        go_roundw
        case rel => exact ⟨j + 1, x.kind, by omega, by (have h := HKD.out; rw [h]; go_num), HS2, hid (X2.out.store 0 _), hid ((Turn.setCell _ _ 0 _).box Y2.out (by omega)), hid (K2.out.trans ((Turn.setCell _ _ 0 _).below (by omega)))⟩
        case measure => (have h := HKD.out; rw [h]; simp only [intOf]; omega)
      · have hne := toL_ne he
        have HS2 : Hid (kat nm (Rw.all.take (j + 1)) 0 = K) := hid (by rw [HS.out, if_neg he]; exact HKA.out)
        clear he
        go_wp2_with (
          go_at_call 23
          (with_reducible refine (qname_x x _).mono ?_)
          rintro e w' ⟨rfl, rfl⟩)
        go_roundw
        case rel => exact ⟨j + 1, K, by omega, by (have h := HKD.out; rw [h]; go_num), HS2, X2, Y2, K2⟩
        case measure => (have h := HKD.out; rw [h]; simp only [intOf]; omega)
    · obtain rfl : j = 10 := by omega
      obtain rfl : K = k.kind := HKA.out.symm.trans HK.out
      rw [show ((10 + 1 : Nat) : Int) = 11 from rfl]
      have hk0 : (k.kind == 0) = false := by simp; omega
      have c0 : wr.cell? ⟨w.heap.size + 1, 0, none⟩ = some (.int .i64 k.kind) := X2.out.cell 0
      clear hlt hj HKA HK
      go_wp2_with (first
        | (refine ld28 (by rfl) _ (by rfl) (w.heap.size + 1) (by rfl) (kz k.kind) X2.out rfl ?_)
        | (go_at_call 24
           (with_reducible refine (qfields_z k _).mono ?_)
           rintro e u3 ⟨A3, c3, L, rfl, hL, F3, k3⟩
           have X3 := hid (box_below X2.out k3.out)
           have Y3 := hid (box_below Y2.out k3.out)
           have K3 := hid (K2.out.trans (k3.out.mono K2.out.size))
           clear k3 X2 Y2 K2 c0))
      obtain ⟨i3, hi3, hz3, hz31, hz32⟩ := info_parts Tryd.info3r
      have HZK := hid (zfs_kinds k)
      have hL6 : L ≤ 6 := by have h1 := kinds_len k; have h2 := hL.out; rw [← HZK.out, List.length_map] at h1; omega
      generalize zfs k = fs0 at F3 hL HZK
      have I0 : Hid (FkQ u3 u3 fs0 0 none 0) := hid ⟨Below.refl _ _, ⟨rfl, .inl ⟨rfl, rfl⟩⟩⟩
      go_loopw [38, 10] (fun i v wr => ∃ (j : Nat) (A' : Option Addr) (c' : Nat), j ≤ L ∧ i = .int .i64 j ∧ v = .slice A' j c' ∧ Hid (FkQ u3 wr fs0 j A' c')) (fun i _ _ => L - (intOf i).toNat)
      case atStart => exact ⟨0, none, 0, by omega, rfl, rfl, I0⟩
      case round =>
        clear I0
        obtain ⟨j, A', c', hj, rfl, rfl, HR⟩ := hrel
        by_cases hlt : j < L
        · have hjf : j < fs0.length := by have := hL.out; omega
          obtain ⟨fb, fo, rfl, hfb, hfc⟩ := (F3.out.below HR.out.bel) (by intro e; rw [e] at hjf; simp at hjf)
          obtain ⟨tA, tc, lA, lc, _, d0, d1, d2, d3⟩ := hfc j hjf
          clear hfc
          obtain ⟨f, HFJ⟩ : ∃ f, Hid (fs0[j] = f) := ⟨_, hid rfl⟩
          rw [HFJ.out] at d0 d1 d2 d3
          have hj0 : (j : Int) < (L : Int) := by omega
          obtain ⟨tl, HTL⟩ : ∃ tl, Hid (f.text.length = tl) := ⟨_, hid rfl⟩
          obtain ⟨ll, HLL⟩ : ∃ ll, Hid (f.list.length = ll) := ⟨_, hid rfl⟩
          rw [HTL.out] at d2
          rw [HLL.out] at d3
          go_wp2_with (
            at_builtin
            refine wpList_app _ rfl (.tmp 42) (.tmp 45) 66 rfl u3.heap.size 3 i3 _ 1 8 Tryd.underlying66 hi3 hz3 hz31 hz32 rfl ?g1 A' j c' ((fs0.take j).map (fun f => Value.int .i64 f.kind)) rfl ((HR.out.own.alloc _).alloc _) _ _ 1 1 [.int .i64 f.kind] rfl ?g2 (lies_lit_at _ _ _ _ (by simp)) (one1r _) ?g3 ?g4 ?g5 ?_
            case g1 => omega
            case g2 => rfl
            case g3 => unfold maxLen; omega
            case g4 => omega
            case g5 => have := HR.out.bel.size; simp; omega
            intro A6 c6 w6 ho6 hg6
            have HFIN := hid (FkQ.step HR.out hjf HFJ.out ho6 hg6)
            clear ho6 hg6)
          go_roundw
          case rel => exact ⟨j + 1, A6, c6, by omega, by go_num, rfl, HFIN⟩
          case measure => simp [intOf]; omega
        · obtain rfl : j = L := by omega
          have hown := HR.out.own
          have hto : (fs0.take j).map (fun f => Value.int .i64 f.kind) = k.kinds.map (Value.int .i64) := by
            rw [List.take_of_length_le (by rw [hL.out]; omega), ← HZK.out, List.map_map]; rfl
          rw [hto] at hown
          have HLI := hid (Lies.own hown)
          have HKL : Hid (k.kinds.length = j) := hid (by rw [← HZK.out, List.length_map]; exact hL.out)
          have X4 := hid (box_below X3.out HR.out.bel)
          have Y4 := hid (box_below Y3.out HR.out.bel)
          have K4 := hid (K3.out.trans (HR.out.bel.mono K3.out.size))
          have S4 := slb_at hb K4
          clear hown hto X3 Y3 K3 hlt hj hL HZK F3 HR
          have HKD : k.kind = 6 := by rw [hk.out]; rfl
          have XK := kz_kind X4 HKD
          have HRD := hid (show fs.map Fd.kind = k.kinds by have h := readF_rd k (b := bs) (by rw [hR.out]); rw [hR.out] at h; exact h.1)
          obtain ⟨f0, f1, f2, f3, rfl⟩ := four_of (show fs.map Fd.kind = [_, _, _, _] from HRD.out.trans (by rw [hk.out]; rfl))
          have hro := hid (show r.Ok by rw [← hr.out]; exact get_okq k (by have h := readF_rd k (b := bs) (by rw [hR.out]); rw [hR.out] at h; exact h.1) (by have h := readF_rd k (b := bs) (by rw [hR.out]); rw [hR.out] at h; exact h.2))
          have hrk : Hid (r.kind = k.kind) := hid (by rw [← hr.out, hk.out]; rfl)
          have hrm : r.modes = [] := by rw [← hr.out, hk.out]; rfl
          have hml : r.modes.length ≤ maxLen := by rw [hrm]; exact Nat.zero_le _
          rw [HKD] at hk0
          clear HKD
          go_wp2_with (
            go_at_call 25
            (with_reducible refine (rread_x _ A' c' j n k.kinds A c bs 0 _ HLI HKL (by omega) S4 hn hbl hR).mono ?_)
            rintro e u5 ⟨A5, c5, cs5, L5, rfl, hL5, ho5, hf5, k5⟩
            have Y5 := hid (box_below Y4.out k5.out)
            have X5 := hid (box_below XK.out k5.out)
            have K5 := hid (K4.out.trans (k5.out.mono K4.out.size))
            have c0 : u5.cell? ⟨w.heap.size + 1, 0, none⟩ = some (.int .i64 6) := X5.out.cell 0
            obtain rfl : L5 = 4 := by simpa using hL5.out.symm
            obtain ⟨a0, b0, x0, y0, q0, hq0, o0, p0, a1, b1, x1, y1, q1, hq1, o1, p1, a2, b2, x2, y2, q2, hq2, o2, p2, a3, b3, x3, y3, q3, hq3, o3, p3, hz⟩ := hf5.out
            obtain ⟨fb, fo, rfl, _, hc⟩ := Lies.own ho5.out (by rw [hq0]; simp)
            rw [hq0, hq1, hq2, hq3] at hc
            have d1 : u5.cell? ⟨fb, fo + 1, none⟩ = some (.int .u32 f0.n) := hc 1 _ rfl
            have d5 : u5.cell? ⟨fb, fo + 5, none⟩ = some (.int .u32 f1.n) := hc 5 _ rfl
            have g5 : u5.cell? ⟨fb, fo + 4 + 1, none⟩ = some (.int .u32 f1.n) := hc 5 _ rfl
            have d9 : u5.cell? ⟨fb, fo + 9, none⟩ = some (.int .u32 f2.n) := hc 9 _ rfl
            have g9 : u5.cell? ⟨fb, fo + 8 + 1, none⟩ = some (.int .u32 f2.n) := hc 9 _ rfl
            have d13 : u5.cell? ⟨fb, fo + 13, none⟩ = some (.int .u32 f3.n) := hc 13 _ rfl
            have g13 : u5.cell? ⟨fb, fo + 12 + 1, none⟩ = some (.int .u32 f3.n) := hc 13 _ rfl
            have c4 : u5.cell? ⟨w.heap.size + 1, 4, none⟩ = some (.int .u32 0) := X5.out.cell 4
            have q4 : u5.frozen? ⟨w.heap.size + 1, 4, none⟩ = false := X5.out.frozen 4
            have c5 : u5.cell? ⟨w.heap.size + 1, 5, none⟩ = some (.int .u32 0) := X5.out.cell 5
            have q5 : u5.frozen? ⟨w.heap.size + 1, 5, none⟩ = false := X5.out.frozen 5
            have c6 : u5.cell? ⟨w.heap.size + 1, 6, none⟩ = some (.int .u32 0) := X5.out.cell 6
            have q6 : u5.frozen? ⟨w.heap.size + 1, 6, none⟩ = false := X5.out.frozen 6
            have c7 : u5.cell? ⟨w.heap.size + 1, 7, none⟩ = some (.int .u32 0) := X5.out.cell 7
            have q7 : u5.frozen? ⟨w.heap.size + 1, 7, none⟩ = false := X5.out.frozen 7
            clear hc
            clear k5 X4 Y4 K4 S4 XK)
          go_region
          all_goals
            have B6 : Hid (Box ((((u5.setCell ⟨w.heap.size + 1, 4, none⟩ (.int .u32 f0.n)).setCell ⟨w.heap.size + 1, 5, none⟩ (.int .u32 f1.n)).setCell ⟨w.heap.size + 1, 6, none⟩ (.int .u32 f2.n)).setCell ⟨w.heap.size + 1, 7, none⟩ (.int .u32 f3.n)) (w.heap.size + 1) 28 (r.cells none 0)) := hid (by rw [← hr.out, hk.out]; exact ((((X5.out.store 4 _).store 5 _).store 6 _).store 7 _))
            have T6 : Kept w.heap.size [28] u5 ((((u5.setCell ⟨w.heap.size + 1, 4, none⟩ (.int .u32 f0.n)).setCell ⟨w.heap.size + 1, 5, none⟩ (.int .u32 f1.n)).setCell ⟨w.heap.size + 1, 6, none⟩ (.int .u32 f2.n)).setCell ⟨w.heap.size + 1, 7, none⟩ (.int .u32 f3.n)) := (((((Kept.refl _ _ _).store X5.out (Nat.le_succ _) (by simp) _).store (X5.out.store 4 _) (Nat.le_succ _) (by simp) _).store ((X5.out.store 4 _).store 5 _) (Nat.le_succ _) (by simp) _).store (((X5.out.store 4 _).store 5 _).store 6 _) (Nat.le_succ _) (by simp) _)
            have B4 : Hid (Box ((((u5.setCell ⟨w.heap.size + 1, 4, none⟩ (.int .u32 f0.n)).setCell ⟨w.heap.size + 1, 5, none⟩ (.int .u32 f1.n)).setCell ⟨w.heap.size + 1, 6, none⟩ (.int .u32 f2.n)).setCell ⟨w.heap.size + 1, 7, none⟩ (.int .u32 f3.n)) w.heap.size 28 (kz 0)) := hid (((Turn.setCell _ _ 7 _).box ((Turn.setCell _ _ 6 _).box ((Turn.setCell _ _ 5 _).box ((Turn.setCell _ _ 4 _).box Y5.out (by omega)) (by omega)) (by omega)) (by omega)))
            have K6 : Hid (Below w.heap.size w ((((u5.setCell ⟨w.heap.size + 1, 4, none⟩ (.int .u32 f0.n)).setCell ⟨w.heap.size + 1, 5, none⟩ (.int .u32 f1.n)).setCell ⟨w.heap.size + 1, 6, none⟩ (.int .u32 f2.n)).setCell ⟨w.heap.size + 1, 7, none⟩ (.int .u32 f3.n))) := hid (K5.out.trans (T6.below K5.out.size))
            clear T6 X5 Y5 K5
            generalize hW : ((((u5.setCell ⟨w.heap.size + 1, 4, none⟩ (.int .u32 f0.n)).setCell ⟨w.heap.size + 1, 5, none⟩ (.int .u32 f1.n)).setCell ⟨w.heap.size + 1, 6, none⟩ (.int .u32 f2.n)).setCell ⟨w.heap.size + 1, 7, none⟩ (.int .u32 f3.n)) = u6 at B6 B4 K6 ⊢
            clear hW
            have B6d : Hid (Box u6.drew (w.heap.size + 1) 28 (r.cells none 0)) := B6
            have B4d : Hid (Box u6.drew w.heap.size 28 (kz 0)) := B4
            have K6d : Hid (Below w.heap.size w u6.drew) := hid K6.out.drew
            cases hfl0 : decide (fl = 0)
            all_goals
              go_wp2_with (first
                | (refine ld28 (by rfl) _ (by rfl) (w.heap.size + 1) (by rfl) (r.cells none 0) B6d.out rfl ?_)
                | (go_at_call 26
                   (with_reducible refine (fault_x k r none 0 _ fl hrk hro hml hfl).mono ?_)
                   rintro e u7 ⟨rfl, k7⟩
                   have B67 := hid (box_below B6d.out k7.out)
                   have B47 := hid (box_below B4d.out k7.out)
                   have K7 := hid (K6d.out.trans (k7.out.mono K6d.out.size))
                   have hfv : (fl == 0) = decide (fl = 0) := by rw [Bool.eq_iff_iff]; simp
                   have hfw : (fl != 0) = !decide (fl = 0) := by rw [bne, hfv]
                   rw [hfl0] at hfv hfw
                   clear k7 B6d B4d K6d)
                | (refine ld28 (by rfl) _ (by rfl) (w.heap.size + 1) (by rfl) (r.cells none 0) B67.out rfl ?_)
                | (refine st28 (by rfl) _ _ (by rfl) w.heap.size (by rfl) (kz 0) rfl (kz_one 0) (by rfl) (kz 0) B47.out rfl ?_
                   intro u8 Y8 t8
                   have K8 := hid (K7.out.trans (t8.out.below (Nat.le_refl _)))
                   clear t8)
                | (refine st28 (by rfl) _ _ (by rfl) w.heap.size (by rfl) (r.cells none 0) rfl (cells_one r none 0) (by rfl) (kz 0) B47.out rfl ?_
                   intro u8 Y8 t8
                   have K8 := hid (K7.out.trans (t8.out.below (Nat.le_refl _)))
                   clear t8))
              first
                | (refine bodyPost_ret (results28 rfl _ _ _ (kz 0) rfl rfl _ rfl Y8.out) rfl ?_
                   exact decF_bad (by simpa using hfl0) K8)
                | (refine bodyPost_ret (results28 rfl _ _ _ (r.cells none 0) rfl rfl _ rfl Y8.out) rfl ?_
                   exact decF_ok (by simpa using hfl0) hrm K8)

set_option maxRecDepth 100000 in
set_option maxHeartbeats 8000000 in
theorem rdec_ends (k : Rw) (w : World) (nm : ByteArray) (A : Option Addr) (c n : Nat) (bs : List UInt8) (fs : List Fd) (hb : Hid (SlB w w.heap.size A c bs)) (hn : bs.length = n) (hbl : n ≤ 100000) (hX : Hid (rowN nm Rw.all = some k)) (hR : Hid (readF k.kinds bs = (0, fs))) (hk : Hid (k = .ends)) (r : Rq) (hr : Hid (k.get fs { zeroR with kind := k.kind } = r)) (fl : Int) (hfl : Hid ((k.put r .zero).fault = fl)) :
    Calls Tryd.prog 7 #[.string nm, .slice A n c] w (DecF w r fl) := by
  have HK := hid (kat_some hX.out)
  have hkb := kind_bd k
  have B4 : Hid (Box ((w.alloc (.cells (kz 0) 28)).alloc (.cells (kz 0) 28)) w.heap.size 28 (kz 0)) := hid (box_below (Box.new w 28 _) ((Below.refl _ _).alloc (Nat.le_refl _) _))
  have B6 : Hid (Box ((w.alloc (.cells (kz 0) 28)).alloc (.cells (kz 0) 28)) (w.heap.size + 1) 28 (kz 0)) := hid (by have h := Box.new (w.alloc (.cells (kz 0) 28)) 28 (kz 0); rwa [World.size_alloc] at h)
  have K0 : Hid (Below w.heap.size w ((w.alloc (.cells (kz 0) 28)).alloc (.cells (kz 0) 28))) := hid (((Below.refl _ w).alloc (Nat.le_refl _) _).alloc (by simp) _)
  go_enter Tryd.func7, Tryd.ntmps7
  go_wp2_with (first
    | (refine st28 (by rfl) _ _ (by rfl) (w.heap.size + 1) (by rfl) (kz 0) rfl (kz_one 0) (by rfl) (kz 0) B6.out rfl ?_
       intro u1 X1 t1
       have Y1 := hid (t1.out.box B4.out (by omega))
       have K1 := hid (K0.out.trans (t1.out.below (by omega)))
       clear B4 B6 K0 t1))
  go_loopw [7] (fun i wr => ∃ (j : Nat) (K : Int), j ≤ 10 ∧ i = .int .i64 ((j + 1 : Nat) : Int) ∧ Hid (kat nm (Rw.all.take j) 0 = K) ∧ Hid (Box wr (w.heap.size + 1) 28 (kz K)) ∧ Hid (Box wr w.heap.size 28 (kz 0)) ∧ Hid (Below w.heap.size w wr)) (fun i _ => 12 - (intOf i).toNat)
  case atStart => exact ⟨0, 0, by omega, rfl, hid rfl, X1, Y1, K1⟩
  case round =>
    clear X1 Y1 K1 u1
    obtain ⟨j, K, hj, rfl, HKA, X2, Y2, K2⟩ := hrel
    by_cases hlt : j < 10
    · have hst := kat_step nm j hlt
      have hkd := kind_at j hlt
      generalize (Rw.all[j]'(by exact hlt)) = x at hst hkd
      rw [← hkd]
      have hle : x.kind ≤ 10 := by omega
      have hge : 1 ≤ x.kind := by omega
      have HS := hid hst
      have HKD := hid hkd
      clear hst hkd
      have c0 : wr.cell? ⟨w.heap.size + 1, 0, none⟩ = some (.int .i64 K) := X2.out.cell 0
      have f0 : wr.frozen? ⟨w.heap.size + 1, 0, none⟩ = false := X2.out.frozen 0
      by_cases he : x.name = nm
      · have he2 := toL_eq he
        have HS2 : Hid (kat nm (Rw.all.take (j + 1)) 0 = x.kind) := hid (by rw [HS.out, if_pos he])
        clear he
        go_wp2_with (
          go_at_call 23
          (with_reducible refine (qname_x x _).mono ?_)
          rintro e w' ⟨rfl, rfl⟩)
        go_roundw
        case rel => exact ⟨j + 1, x.kind, by omega, by (have h := HKD.out; rw [h]; go_num), HS2, hid (X2.out.store 0 _), hid ((Turn.setCell _ _ 0 _).box Y2.out (by omega)), hid (K2.out.trans ((Turn.setCell _ _ 0 _).below (by omega)))⟩
        case measure => (have h := HKD.out; rw [h]; simp only [intOf]; omega)
      · have hne := toL_ne he
        have HS2 : Hid (kat nm (Rw.all.take (j + 1)) 0 = K) := hid (by rw [HS.out, if_neg he]; exact HKA.out)
        clear he
        go_wp2_with (
          go_at_call 23
          (with_reducible refine (qname_x x _).mono ?_)
          rintro e w' ⟨rfl, rfl⟩)
        go_roundw
        case rel => exact ⟨j + 1, K, by omega, by (have h := HKD.out; rw [h]; go_num), HS2, X2, Y2, K2⟩
        case measure => (have h := HKD.out; rw [h]; simp only [intOf]; omega)
    · obtain rfl : j = 10 := by omega
      obtain rfl : K = k.kind := HKA.out.symm.trans HK.out
      rw [show ((10 + 1 : Nat) : Int) = 11 from rfl]
      have hk0 : (k.kind == 0) = false := by simp; omega
      have c0 : wr.cell? ⟨w.heap.size + 1, 0, none⟩ = some (.int .i64 k.kind) := X2.out.cell 0
      clear hlt hj HKA HK
      go_wp2_with (first
        | (refine ld28 (by rfl) _ (by rfl) (w.heap.size + 1) (by rfl) (kz k.kind) X2.out rfl ?_)
        | (go_at_call 24
           (with_reducible refine (qfields_z k _).mono ?_)
           rintro e u3 ⟨A3, c3, L, rfl, hL, F3, k3⟩
           have X3 := hid (box_below X2.out k3.out)
           have Y3 := hid (box_below Y2.out k3.out)
           have K3 := hid (K2.out.trans (k3.out.mono K2.out.size))
           clear k3 X2 Y2 K2 c0))
      obtain ⟨i3, hi3, hz3, hz31, hz32⟩ := info_parts Tryd.info3r
      have HZK := hid (zfs_kinds k)
      have hL6 : L ≤ 6 := by have h1 := kinds_len k; have h2 := hL.out; rw [← HZK.out, List.length_map] at h1; omega
      generalize zfs k = fs0 at F3 hL HZK
      have I0 : Hid (FkQ u3 u3 fs0 0 none 0) := hid ⟨Below.refl _ _, ⟨rfl, .inl ⟨rfl, rfl⟩⟩⟩
      go_loopw [38, 10] (fun i v wr => ∃ (j : Nat) (A' : Option Addr) (c' : Nat), j ≤ L ∧ i = .int .i64 j ∧ v = .slice A' j c' ∧ Hid (FkQ u3 wr fs0 j A' c')) (fun i _ _ => L - (intOf i).toNat)
      case atStart => exact ⟨0, none, 0, by omega, rfl, rfl, I0⟩
      case round =>
        clear I0
        obtain ⟨j, A', c', hj, rfl, rfl, HR⟩ := hrel
        by_cases hlt : j < L
        · have hjf : j < fs0.length := by have := hL.out; omega
          obtain ⟨fb, fo, rfl, hfb, hfc⟩ := (F3.out.below HR.out.bel) (by intro e; rw [e] at hjf; simp at hjf)
          obtain ⟨tA, tc, lA, lc, _, d0, d1, d2, d3⟩ := hfc j hjf
          clear hfc
          obtain ⟨f, HFJ⟩ : ∃ f, Hid (fs0[j] = f) := ⟨_, hid rfl⟩
          rw [HFJ.out] at d0 d1 d2 d3
          have hj0 : (j : Int) < (L : Int) := by omega
          obtain ⟨tl, HTL⟩ : ∃ tl, Hid (f.text.length = tl) := ⟨_, hid rfl⟩
          obtain ⟨ll, HLL⟩ : ∃ ll, Hid (f.list.length = ll) := ⟨_, hid rfl⟩
          rw [HTL.out] at d2
          rw [HLL.out] at d3
          go_wp2_with (
            at_builtin
            refine wpList_app _ rfl (.tmp 42) (.tmp 45) 66 rfl u3.heap.size 3 i3 _ 1 8 Tryd.underlying66 hi3 hz3 hz31 hz32 rfl ?g1 A' j c' ((fs0.take j).map (fun f => Value.int .i64 f.kind)) rfl ((HR.out.own.alloc _).alloc _) _ _ 1 1 [.int .i64 f.kind] rfl ?g2 (lies_lit_at _ _ _ _ (by simp)) (one1r _) ?g3 ?g4 ?g5 ?_
            case g1 => omega
            case g2 => rfl
            case g3 => unfold maxLen; omega
            case g4 => omega
            case g5 => have := HR.out.bel.size; simp; omega
            intro A6 c6 w6 ho6 hg6
            have HFIN := hid (FkQ.step HR.out hjf HFJ.out ho6 hg6)
            clear ho6 hg6)
          go_roundw
          case rel => exact ⟨j + 1, A6, c6, by omega, by go_num, rfl, HFIN⟩
          case measure => simp [intOf]; omega
        · obtain rfl : j = L := by omega
          have hown := HR.out.own
          have hto : (fs0.take j).map (fun f => Value.int .i64 f.kind) = k.kinds.map (Value.int .i64) := by
            rw [List.take_of_length_le (by rw [hL.out]; omega), ← HZK.out, List.map_map]; rfl
          rw [hto] at hown
          have HLI := hid (Lies.own hown)
          have HKL : Hid (k.kinds.length = j) := hid (by rw [← HZK.out, List.length_map]; exact hL.out)
          have X4 := hid (box_below X3.out HR.out.bel)
          have Y4 := hid (box_below Y3.out HR.out.bel)
          have K4 := hid (K3.out.trans (HR.out.bel.mono K3.out.size))
          have S4 := slb_at hb K4
          clear hown hto X3 Y3 K3 hlt hj hL HZK F3 HR
          have HKD : k.kind = 10 := by rw [hk.out]; rfl
          have XK := kz_kind X4 HKD
          have HRD := hid (show fs.map Fd.kind = k.kinds by have h := readF_rd k (b := bs) (by rw [hR.out]); rw [hR.out] at h; exact h.1)
          obtain ⟨f0, f1, f2, f3, rfl⟩ := four_of (show fs.map Fd.kind = [_, _, _, _] from HRD.out.trans (by rw [hk.out]; rfl))
          have hro := hid (show r.Ok by rw [← hr.out]; exact get_okq k (by have h := readF_rd k (b := bs) (by rw [hR.out]); rw [hR.out] at h; exact h.1) (by have h := readF_rd k (b := bs) (by rw [hR.out]); rw [hR.out] at h; exact h.2))
          have hrk : Hid (r.kind = k.kind) := hid (by rw [← hr.out, hk.out]; rfl)
          have hrm : r.modes = [] := by rw [← hr.out, hk.out]; rfl
          have hml : r.modes.length ≤ maxLen := by rw [hrm]; exact Nat.zero_le _
          rw [HKD] at hk0
          clear HKD
          go_wp2_with (
            go_at_call 25
            (with_reducible refine (rread_x _ A' c' j n k.kinds A c bs 0 _ HLI HKL (by omega) S4 hn hbl hR).mono ?_)
            rintro e u5 ⟨A5, c5, cs5, L5, rfl, hL5, ho5, hf5, k5⟩
            have Y5 := hid (box_below Y4.out k5.out)
            have X5 := hid (box_below XK.out k5.out)
            have K5 := hid (K4.out.trans (k5.out.mono K4.out.size))
            have c0 : u5.cell? ⟨w.heap.size + 1, 0, none⟩ = some (.int .i64 10) := X5.out.cell 0
            obtain rfl : L5 = 4 := by simpa using hL5.out.symm
            obtain ⟨a0, b0, x0, y0, q0, hq0, o0, p0, a1, b1, x1, y1, q1, hq1, o1, p1, a2, b2, x2, y2, q2, hq2, o2, p2, a3, b3, x3, y3, q3, hq3, o3, p3, hz⟩ := hf5.out
            obtain ⟨fb, fo, rfl, _, hc⟩ := Lies.own ho5.out (by rw [hq0]; simp)
            rw [hq0, hq1, hq2, hq3] at hc
            obtain ⟨l0, hl0⟩ : ∃ l, f0.text.length = l := ⟨_, rfl⟩
            have d2 : u5.cell? ⟨fb, fo + 2, none⟩ = some (.slice a0 l0 b0) := by rw [← hl0]; exact hc 2 _ rfl
            have O0 := hid o0
            have e0_0 : (convert 22 9 (.slice a0 l0 b0)).run Tryd.prog u5.drew = .ok (.string ⟨f0.text.toArray⟩) u5.drew := conv_k O0 hl0 (kept_d (Kept.refl _ _ _))
            have d5 : u5.cell? ⟨fb, fo + 5, none⟩ = some (.int .u32 f1.n) := hc 5 _ rfl
            have g5 : u5.cell? ⟨fb, fo + 4 + 1, none⟩ = some (.int .u32 f1.n) := hc 5 _ rfl
            obtain ⟨l2, hl2⟩ : ∃ l, f2.text.length = l := ⟨_, rfl⟩
            have d10 : u5.cell? ⟨fb, fo + 10, none⟩ = some (.slice a2 l2 b2) := by rw [← hl2]; exact hc 10 _ rfl
            have g10 : u5.cell? ⟨fb, fo + 8 + 2, none⟩ = some (.slice a2 l2 b2) := d10
            have O2 := hid o2
            have e2_0 : (convert 22 9 (.slice a2 l2 b2)).run Tryd.prog u5.drew = .ok (.string ⟨f2.text.toArray⟩) u5.drew := conv_k O2 hl2 (kept_d (Kept.refl _ _ _))
            have e2_1 : ∀ v1, (convert 22 9 (.slice a2 l2 b2)).run Tryd.prog (u5.setCell ⟨w.heap.size + 1, 1, none⟩ v1).drew = .ok (.string ⟨f2.text.toArray⟩) (u5.setCell ⟨w.heap.size + 1, 1, none⟩ v1).drew := fun v1 => conv_k O2 hl2 (kept_d (kept_k (Kept.refl _ _ _) X5.out))
            have e2_2 : ∀ v1 v9, (convert 22 9 (.slice a2 l2 b2)).run Tryd.prog ((u5.setCell ⟨w.heap.size + 1, 1, none⟩ v1).setCell ⟨w.heap.size + 1, 9, none⟩ v9).drew = .ok (.string ⟨f2.text.toArray⟩) ((u5.setCell ⟨w.heap.size + 1, 1, none⟩ v1).setCell ⟨w.heap.size + 1, 9, none⟩ v9).drew := fun v1 v9 => conv_k O2 hl2 (kept_d (kept_k (kept_k (Kept.refl _ _ _) X5.out) (X5.out.store 1 _)))
            obtain ⟨l3, hl3⟩ : ∃ l, f3.text.length = l := ⟨_, rfl⟩
            have d14 : u5.cell? ⟨fb, fo + 14, none⟩ = some (.slice a3 l3 b3) := by rw [← hl3]; exact hc 14 _ rfl
            have g14 : u5.cell? ⟨fb, fo + 12 + 2, none⟩ = some (.slice a3 l3 b3) := d14
            have O3 := hid o3
            have e3_0 : (convert 22 9 (.slice a3 l3 b3)).run Tryd.prog u5.drew = .ok (.string ⟨f3.text.toArray⟩) u5.drew := conv_k O3 hl3 (kept_d (Kept.refl _ _ _))
            have e3_1 : ∀ v1, (convert 22 9 (.slice a3 l3 b3)).run Tryd.prog (u5.setCell ⟨w.heap.size + 1, 1, none⟩ v1).drew = .ok (.string ⟨f3.text.toArray⟩) (u5.setCell ⟨w.heap.size + 1, 1, none⟩ v1).drew := fun v1 => conv_k O3 hl3 (kept_d (kept_k (Kept.refl _ _ _) X5.out))
            have e3_2 : ∀ v1 v9, (convert 22 9 (.slice a3 l3 b3)).run Tryd.prog ((u5.setCell ⟨w.heap.size + 1, 1, none⟩ v1).setCell ⟨w.heap.size + 1, 9, none⟩ v9).drew = .ok (.string ⟨f3.text.toArray⟩) ((u5.setCell ⟨w.heap.size + 1, 1, none⟩ v1).setCell ⟨w.heap.size + 1, 9, none⟩ v9).drew := fun v1 v9 => conv_k O3 hl3 (kept_d (kept_k (kept_k (Kept.refl _ _ _) X5.out) (X5.out.store 1 _)))
            have e3_3 : ∀ v1 v9 v2, (convert 22 9 (.slice a3 l3 b3)).run Tryd.prog (((u5.setCell ⟨w.heap.size + 1, 1, none⟩ v1).setCell ⟨w.heap.size + 1, 9, none⟩ v9).setCell ⟨w.heap.size + 1, 2, none⟩ v2).drew = .ok (.string ⟨f3.text.toArray⟩) (((u5.setCell ⟨w.heap.size + 1, 1, none⟩ v1).setCell ⟨w.heap.size + 1, 9, none⟩ v9).setCell ⟨w.heap.size + 1, 2, none⟩ v2).drew := fun v1 v9 v2 => conv_k O3 hl3 (kept_d (kept_k (kept_k (kept_k (Kept.refl _ _ _) X5.out) (X5.out.store 1 _)) ((X5.out.store 1 _).store 9 _)))
            have c1 : u5.cell? ⟨w.heap.size + 1, 1, none⟩ = some (.string ⟨#[]⟩) := X5.out.cell 1
            have q1 : u5.frozen? ⟨w.heap.size + 1, 1, none⟩ = false := X5.out.frozen 1
            have c9 : u5.cell? ⟨w.heap.size + 1, 9, none⟩ = some (.bool false) := X5.out.cell 9
            have q9 : u5.frozen? ⟨w.heap.size + 1, 9, none⟩ = false := X5.out.frozen 9
            have c2 : u5.cell? ⟨w.heap.size + 1, 2, none⟩ = some (.string ⟨#[]⟩) := X5.out.cell 2
            have q2 : u5.frozen? ⟨w.heap.size + 1, 2, none⟩ = false := X5.out.frozen 2
            have c3 : u5.cell? ⟨w.heap.size + 1, 3, none⟩ = some (.string ⟨#[]⟩) := X5.out.cell 3
            have q3 : u5.frozen? ⟨w.heap.size + 1, 3, none⟩ = false := X5.out.frozen 3
            clear hc
            clear k5 X4 Y4 K4 S4 XK)
          go_region
          all_goals
           as_aux_lemma =>
            have B6 : Hid (Box ((((u5.setCell ⟨w.heap.size + 1, 1, none⟩ (.string ⟨f0.text.toArray⟩)).setCell ⟨w.heap.size + 1, 9, none⟩ (.bool ((f1.n : Int) == 1))).setCell ⟨w.heap.size + 1, 2, none⟩ (.string ⟨f2.text.toArray⟩)).setCell ⟨w.heap.size + 1, 3, none⟩ (.string ⟨f3.text.toArray⟩)) (w.heap.size + 1) 28 (r.cells none 0)) := hid (by rw [← hr.out, hk.out, on_eq]; exact ((((X5.out.store 1 _).store 9 _).store 2 _).store 3 _))
            have T6 : Kept w.heap.size [28] u5 ((((u5.setCell ⟨w.heap.size + 1, 1, none⟩ (.string ⟨f0.text.toArray⟩)).setCell ⟨w.heap.size + 1, 9, none⟩ (.bool ((f1.n : Int) == 1))).setCell ⟨w.heap.size + 1, 2, none⟩ (.string ⟨f2.text.toArray⟩)).setCell ⟨w.heap.size + 1, 3, none⟩ (.string ⟨f3.text.toArray⟩)) := (((((Kept.refl _ _ _).store X5.out (Nat.le_succ _) (by simp) _).store (X5.out.store 1 _) (Nat.le_succ _) (by simp) _).store ((X5.out.store 1 _).store 9 _) (Nat.le_succ _) (by simp) _).store (((X5.out.store 1 _).store 9 _).store 2 _) (Nat.le_succ _) (by simp) _)
            have B4 : Hid (Box ((((u5.setCell ⟨w.heap.size + 1, 1, none⟩ (.string ⟨f0.text.toArray⟩)).setCell ⟨w.heap.size + 1, 9, none⟩ (.bool ((f1.n : Int) == 1))).setCell ⟨w.heap.size + 1, 2, none⟩ (.string ⟨f2.text.toArray⟩)).setCell ⟨w.heap.size + 1, 3, none⟩ (.string ⟨f3.text.toArray⟩)) w.heap.size 28 (kz 0)) := hid (((Turn.setCell _ _ 3 _).box ((Turn.setCell _ _ 2 _).box ((Turn.setCell _ _ 9 _).box ((Turn.setCell _ _ 1 _).box Y5.out (by omega)) (by omega)) (by omega)) (by omega)))
            have K6 : Hid (Below w.heap.size w ((((u5.setCell ⟨w.heap.size + 1, 1, none⟩ (.string ⟨f0.text.toArray⟩)).setCell ⟨w.heap.size + 1, 9, none⟩ (.bool ((f1.n : Int) == 1))).setCell ⟨w.heap.size + 1, 2, none⟩ (.string ⟨f2.text.toArray⟩)).setCell ⟨w.heap.size + 1, 3, none⟩ (.string ⟨f3.text.toArray⟩))) := hid (K5.out.trans (T6.below K5.out.size))
            clear T6 X5 Y5 K5
            generalize hW : ((((u5.setCell ⟨w.heap.size + 1, 1, none⟩ (.string ⟨f0.text.toArray⟩)).setCell ⟨w.heap.size + 1, 9, none⟩ (.bool ((f1.n : Int) == 1))).setCell ⟨w.heap.size + 1, 2, none⟩ (.string ⟨f2.text.toArray⟩)).setCell ⟨w.heap.size + 1, 3, none⟩ (.string ⟨f3.text.toArray⟩)) = u6 at B6 B4 K6 ⊢
            clear hW
            have B6d : Hid (Box u6.drew (w.heap.size + 1) 28 (r.cells none 0)) := B6
            have B4d : Hid (Box u6.drew w.heap.size 28 (kz 0)) := B4
            have K6d : Hid (Below w.heap.size w u6.drew) := hid K6.out.drew
            cases hfl0 : decide (fl = 0)
            all_goals
              go_wp2_with (first
                | (refine ld28 (by rfl) _ (by rfl) (w.heap.size + 1) (by rfl) (r.cells none 0) B6d.out rfl ?_)
                | (go_at_call 26
                   (with_reducible refine (fault_x k r none 0 _ fl hrk hro hml hfl).mono ?_)
                   rintro e u7 ⟨rfl, k7⟩
                   have B67 := hid (box_below B6d.out k7.out)
                   have B47 := hid (box_below B4d.out k7.out)
                   have K7 := hid (K6d.out.trans (k7.out.mono K6d.out.size))
                   have hfv : (fl == 0) = decide (fl = 0) := by rw [Bool.eq_iff_iff]; simp
                   have hfw : (fl != 0) = !decide (fl = 0) := by rw [bne, hfv]
                   rw [hfl0] at hfv hfw
                   clear k7 B6d B4d K6d)
                | (refine ld28 (by rfl) _ (by rfl) (w.heap.size + 1) (by rfl) (r.cells none 0) B67.out rfl ?_)
                | (refine st28 (by rfl) _ _ (by rfl) w.heap.size (by rfl) (kz 0) rfl (kz_one 0) (by rfl) (kz 0) B47.out rfl ?_
                   intro u8 Y8 t8
                   have K8 := hid (K7.out.trans (t8.out.below (Nat.le_refl _)))
                   clear t8)
                | (refine st28 (by rfl) _ _ (by rfl) w.heap.size (by rfl) (r.cells none 0) rfl (cells_one r none 0) (by rfl) (kz 0) B47.out rfl ?_
                   intro u8 Y8 t8
                   have K8 := hid (K7.out.trans (t8.out.below (Nat.le_refl _)))
                   clear t8))
              first
                | (refine bodyPost_ret (results28 rfl _ _ _ (kz 0) rfl rfl _ rfl Y8.out) rfl ?_
                   exact decF_bad (by simpa using hfl0) K8)
                | (refine bodyPost_ret (results28 rfl _ _ _ (r.cells none 0) rfl rfl _ rfl Y8.out) rfl ?_
                   exact decF_ok (by simpa using hfl0) hrm K8)

theorem own_base {w : World} {b b' : Nat} {e : TypeId} {z k : Nat} {v : Value} {xs : List Value} (h : w.ownsRow b e z v k xs) (hb : b' ≤ b) : w.ownsRow b' e z v k xs := by
  obtain ⟨h1, h2 | ⟨g, cap, cur, h3, h4, h5⟩⟩ := h
  · exact ⟨h1, Or.inl h2⟩
  · exact ⟨h1, Or.inr ⟨g, cap, cur, h3, Nat.le_trans hb h4, h5⟩⟩
theorem turn_kept {g : Nat} {w w' : World} {cs : Array Value} (h : Turn g w w') (hx : Box w g 28 cs) : Kept 0 [28] w w' :=
  ⟨h.os, h.tape, h.output, Nat.le_of_eq h.size.symm, fun b _ hc => h.block b (by
    rintro rfl
    rcases hc with hc | hc
    · omega
    · exact hc _ _ _ hx (by simp))⟩
set_option maxRecDepth 100000 in
set_option maxHeartbeats 8000000 in
theorem rdec_pty (k : Rw) (w : World) (nm : ByteArray) (A : Option Addr) (c n : Nat) (bs : List UInt8) (fs : List Fd) (hb : Hid (SlB w w.heap.size A c bs)) (hn : bs.length = n) (hbl : n ≤ 100000) (hX : Hid (rowN nm Rw.all = some k)) (hR : Hid (readF k.kinds bs = (0, fs))) (hk : Hid (k = .pty)) (r : Rq) (hr : Hid (k.get fs { zeroR with kind := k.kind } = r)) (fl : Int) (hfl : Hid ((k.put r .zero).fault = fl)) :
    Calls Tryd.prog 7 #[.string nm, .slice A n c] w (DecF w r fl) := by
  have HK := hid (kat_some hX.out)
  have hkb := kind_bd k
  have B4 : Hid (Box ((w.alloc (.cells (kz 0) 28)).alloc (.cells (kz 0) 28)) w.heap.size 28 (kz 0)) := hid (box_below (Box.new w 28 _) ((Below.refl _ _).alloc (Nat.le_refl _) _))
  have B6 : Hid (Box ((w.alloc (.cells (kz 0) 28)).alloc (.cells (kz 0) 28)) (w.heap.size + 1) 28 (kz 0)) := hid (by have h := Box.new (w.alloc (.cells (kz 0) 28)) 28 (kz 0); rwa [World.size_alloc] at h)
  have K0 : Hid (Below w.heap.size w ((w.alloc (.cells (kz 0) 28)).alloc (.cells (kz 0) 28))) := hid (((Below.refl _ w).alloc (Nat.le_refl _) _).alloc (by simp) _)
  go_enter Tryd.func7, Tryd.ntmps7
  go_wp2_with (first
    | (refine st28 (by rfl) _ _ (by rfl) (w.heap.size + 1) (by rfl) (kz 0) rfl (kz_one 0) (by rfl) (kz 0) B6.out rfl ?_
       intro u1 X1 t1
       have Y1 := hid (t1.out.box B4.out (by omega))
       have K1 := hid (K0.out.trans (t1.out.below (by omega)))
       clear B4 B6 K0 t1))
  go_loopw [7] (fun i wr => ∃ (j : Nat) (K : Int), j ≤ 10 ∧ i = .int .i64 ((j + 1 : Nat) : Int) ∧ Hid (kat nm (Rw.all.take j) 0 = K) ∧ Hid (Box wr (w.heap.size + 1) 28 (kz K)) ∧ Hid (Box wr w.heap.size 28 (kz 0)) ∧ Hid (Below w.heap.size w wr)) (fun i _ => 12 - (intOf i).toNat)
  case atStart => exact ⟨0, 0, by omega, rfl, hid rfl, X1, Y1, K1⟩
  case round =>
    clear X1 Y1 K1 u1
    obtain ⟨j, K, hj, rfl, HKA, X2, Y2, K2⟩ := hrel
    by_cases hlt : j < 10
    · have hst := kat_step nm j hlt
      have hkd := kind_at j hlt
      generalize (Rw.all[j]'(by exact hlt)) = x at hst hkd
      rw [← hkd]
      have hle : x.kind ≤ 10 := by omega
      have hge : 1 ≤ x.kind := by omega
      have HS := hid hst
      have HKD := hid hkd
      clear hst hkd
      have c0 : wr.cell? ⟨w.heap.size + 1, 0, none⟩ = some (.int .i64 K) := X2.out.cell 0
      have f0 : wr.frozen? ⟨w.heap.size + 1, 0, none⟩ = false := X2.out.frozen 0
      by_cases he : x.name = nm
      · have he2 := toL_eq he
        have HS2 : Hid (kat nm (Rw.all.take (j + 1)) 0 = x.kind) := hid (by rw [HS.out, if_pos he])
        clear he
        go_wp2_with (
          go_at_call 23
          (with_reducible refine (qname_x x _).mono ?_)
          rintro e w' ⟨rfl, rfl⟩)
        go_roundw
        case rel => exact ⟨j + 1, x.kind, by omega, by (have h := HKD.out; rw [h]; go_num), HS2, hid (X2.out.store 0 _), hid ((Turn.setCell _ _ 0 _).box Y2.out (by omega)), hid (K2.out.trans ((Turn.setCell _ _ 0 _).below (by omega)))⟩
        case measure => (have h := HKD.out; rw [h]; simp only [intOf]; omega)
      · have hne := toL_ne he
        have HS2 : Hid (kat nm (Rw.all.take (j + 1)) 0 = K) := hid (by rw [HS.out, if_neg he]; exact HKA.out)
        clear he
        go_wp2_with (
          go_at_call 23
          (with_reducible refine (qname_x x _).mono ?_)
          rintro e w' ⟨rfl, rfl⟩)
        go_roundw
        case rel => exact ⟨j + 1, K, by omega, by (have h := HKD.out; rw [h]; go_num), HS2, X2, Y2, K2⟩
        case measure => (have h := HKD.out; rw [h]; simp only [intOf]; omega)
    · obtain rfl : j = 10 := by omega
      obtain rfl : K = k.kind := HKA.out.symm.trans HK.out
      rw [show ((10 + 1 : Nat) : Int) = 11 from rfl]
      have hk0 : (k.kind == 0) = false := by simp; omega
      have c0 : wr.cell? ⟨w.heap.size + 1, 0, none⟩ = some (.int .i64 k.kind) := X2.out.cell 0
      clear hlt hj HKA HK
      go_wp2_with (first
        | (refine ld28 (by rfl) _ (by rfl) (w.heap.size + 1) (by rfl) (kz k.kind) X2.out rfl ?_)
        | (go_at_call 24
           (with_reducible refine (qfields_z k _).mono ?_)
           rintro e u3 ⟨A3, c3, L, rfl, hL, F3, k3⟩
           have X3 := hid (box_below X2.out k3.out)
           have Y3 := hid (box_below Y2.out k3.out)
           have K3 := hid (K2.out.trans (k3.out.mono K2.out.size))
           clear k3 X2 Y2 K2 c0))
      obtain ⟨i3, hi3, hz3, hz31, hz32⟩ := info_parts Tryd.info3r
      have HZK := hid (zfs_kinds k)
      have hL6 : L ≤ 6 := by have h1 := kinds_len k; have h2 := hL.out; rw [← HZK.out, List.length_map] at h1; omega
      generalize zfs k = fs0 at F3 hL HZK
      have I0 : Hid (FkQ u3 u3 fs0 0 none 0) := hid ⟨Below.refl _ _, ⟨rfl, .inl ⟨rfl, rfl⟩⟩⟩
      go_loopw [38, 10] (fun i v wr => ∃ (j : Nat) (A' : Option Addr) (c' : Nat), j ≤ L ∧ i = .int .i64 j ∧ v = .slice A' j c' ∧ Hid (FkQ u3 wr fs0 j A' c')) (fun i _ _ => L - (intOf i).toNat)
      case atStart => exact ⟨0, none, 0, by omega, rfl, rfl, I0⟩
      case round =>
        clear I0
        obtain ⟨j, A', c', hj, rfl, rfl, HR⟩ := hrel
        by_cases hlt : j < L
        · have hjf : j < fs0.length := by have := hL.out; omega
          obtain ⟨fb, fo, rfl, hfb, hfc⟩ := (F3.out.below HR.out.bel) (by intro e; rw [e] at hjf; simp at hjf)
          obtain ⟨tA, tc, lA, lc, _, d0, d1, d2, d3⟩ := hfc j hjf
          clear hfc
          obtain ⟨f, HFJ⟩ : ∃ f, Hid (fs0[j] = f) := ⟨_, hid rfl⟩
          rw [HFJ.out] at d0 d1 d2 d3
          have hj0 : (j : Int) < (L : Int) := by omega
          obtain ⟨tl, HTL⟩ : ∃ tl, Hid (f.text.length = tl) := ⟨_, hid rfl⟩
          obtain ⟨ll, HLL⟩ : ∃ ll, Hid (f.list.length = ll) := ⟨_, hid rfl⟩
          rw [HTL.out] at d2
          rw [HLL.out] at d3
          go_wp2_with (
            at_builtin
            refine wpList_app _ rfl (.tmp 42) (.tmp 45) 66 rfl u3.heap.size 3 i3 _ 1 8 Tryd.underlying66 hi3 hz3 hz31 hz32 rfl ?g1 A' j c' ((fs0.take j).map (fun f => Value.int .i64 f.kind)) rfl ((HR.out.own.alloc _).alloc _) _ _ 1 1 [.int .i64 f.kind] rfl ?g2 (lies_lit_at _ _ _ _ (by simp)) (one1r _) ?g3 ?g4 ?g5 ?_
            case g1 => omega
            case g2 => rfl
            case g3 => unfold maxLen; omega
            case g4 => omega
            case g5 => have := HR.out.bel.size; simp; omega
            intro A6 c6 w6 ho6 hg6
            have HFIN := hid (FkQ.step HR.out hjf HFJ.out ho6 hg6)
            clear ho6 hg6)
          go_roundw
          case rel => exact ⟨j + 1, A6, c6, by omega, by go_num, rfl, HFIN⟩
          case measure => simp [intOf]; omega
        · obtain rfl : j = L := by omega
          have hown := HR.out.own
          have hto : (fs0.take j).map (fun f => Value.int .i64 f.kind) = k.kinds.map (Value.int .i64) := by
            rw [List.take_of_length_le (by rw [hL.out]; omega), ← HZK.out, List.map_map]; rfl
          rw [hto] at hown
          have HLI := hid (Lies.own hown)
          have HKL : Hid (k.kinds.length = j) := hid (by rw [← HZK.out, List.length_map]; exact hL.out)
          have X4 := hid (box_below X3.out HR.out.bel)
          have Y4 := hid (box_below Y3.out HR.out.bel)
          have K4 := hid (K3.out.trans (HR.out.bel.mono K3.out.size))
          have S4 := slb_at hb K4
          clear hown hto X3 Y3 K3 hlt hj hL HZK F3 HR
          have HKD : k.kind = 1 := by rw [hk.out]; rfl
          have XK := kz_kind X4 HKD
          have HRD := hid (show fs.map Fd.kind = k.kinds by have h := readF_rd k (b := bs) (by rw [hR.out]); rw [hR.out] at h; exact h.1)
          obtain ⟨f0, f1, f2, f3, f4, f5, rfl⟩ := six_of (show fs.map Fd.kind = [_, _, _, _, _, _] from HRD.out.trans (by rw [hk.out]; rfl))
          have hro := hid (show r.Ok by rw [← hr.out]; exact get_okq k (by have h := readF_rd k (b := bs) (by rw [hR.out]); rw [hR.out] at h; exact h.1) (by have h := readF_rd k (b := bs) (by rw [hR.out]); rw [hR.out] at h; exact h.2))
          have hrk : Hid (r.kind = k.kind) := hid (by rw [← hr.out, hk.out]; rfl)
          have hrm := hid (show r.modes = f5.text by rw [← hr.out, hk.out]; rfl)
          have hml : r.modes.length ≤ maxLen := by rw [hrm.out]; have h := readF_rd k (b := bs) (by rw [hR.out]); rw [hR.out] at h; have h2 := (h.2 f5 (by simp)).text; unfold maxLen; omega
          rw [HKD] at hk0
          clear HKD
          go_wp2_with (
            go_at_call 25
            (with_reducible refine (rread_x _ A' c' j n k.kinds A c bs 0 _ HLI HKL (by omega) S4 hn hbl hR).mono ?_)
            rintro e u5 ⟨A5, c5, cs5, L5, rfl, hL5, ho5, hf5, k5⟩
            have Y5 := hid (box_below Y4.out k5.out)
            have X5 := hid (box_below XK.out k5.out)
            have K5 := hid (K4.out.trans (k5.out.mono K4.out.size))
            have c0 : u5.cell? ⟨w.heap.size + 1, 0, none⟩ = some (.int .i64 1) := X5.out.cell 0
            obtain rfl : L5 = 6 := by simpa using hL5.out.symm
            obtain ⟨a0, b0, x0, y0, q0, hq0, o0, p0, a1, b1, x1, y1, q1, hq1, o1, p1, a2, b2, x2, y2, q2, hq2, o2, p2, a3, b3, x3, y3, q3, hq3, o3, p3, a4, b4, x4, y4, q4, hq4, o4, p4, a5, b5, x5, y5, q5, hq5, o5, p5, hz⟩ := hf5.out
            obtain ⟨fb, fo, rfl, _, hc⟩ := Lies.own ho5.out (by rw [hq0]; simp)
            rw [hq0, hq1, hq2, hq3, hq4, hq5] at hc
            obtain ⟨l0, hl0⟩ : ∃ l, f0.text.length = l := ⟨_, rfl⟩
            have d2 : u5.cell? ⟨fb, fo + 2, none⟩ = some (.slice a0 l0 b0) := by rw [← hl0]; exact hc 2 _ rfl
            have O0 := hid o0
            have e0_0 : (convert 22 9 (.slice a0 l0 b0)).run Tryd.prog u5.drew = .ok (.string ⟨f0.text.toArray⟩) u5.drew := conv_k O0 hl0 (kept_d (Kept.refl _ _ _))
            obtain ⟨l5, hl5⟩ : ∃ l, f5.text.length = l := ⟨_, rfl⟩
            have d22 : u5.cell? ⟨fb, fo + 22, none⟩ = some (.slice a5 l5 b5) := by rw [← hl5]; exact hc 22 _ rfl
            have g22 : u5.cell? ⟨fb, fo + 20 + 2, none⟩ = some (.slice a5 l5 b5) := d22
            have HCS := hid hq0
            have O5 := hid o5
            have HL5 := hid hl5
            have c1 : u5.cell? ⟨w.heap.size + 1, 1, none⟩ = some (.string ⟨#[]⟩) := X5.out.cell 1
            have q1 : u5.frozen? ⟨w.heap.size + 1, 1, none⟩ = false := X5.out.frozen 1
            have c8 : u5.cell? ⟨w.heap.size + 1, 8, none⟩ = some (.slice none 0 0) := X5.out.cell 8
            have q8 : u5.frozen? ⟨w.heap.size + 1, 8, none⟩ = false := X5.out.frozen 8
            clear hc
            have K4s := K4
            clear k5 X4 Y4 K4 S4 XK)
          go_region
          all_goals
            have X6 : Hid (Box (((u5.setCell ⟨w.heap.size + 1, 1, none⟩ (.string ⟨f0.text.toArray⟩)).setCell ⟨w.heap.size + 1, 8, none⟩ (.slice a5 l5 b5))).drew (w.heap.size + 1) 28 #[.int .i64 1, .string ⟨f0.text.toArray⟩, .string ⟨#[]⟩, .string ⟨#[]⟩, .int .u32 0, .int .u32 0, .int .u32 0, .int .u32 0, .slice a5 l5 b5, .bool false, .int .u32 0]) := hid (show Box _ _ _ _ from (((X5.out.store 1 _).store 8 _)))
            have T6 : Kept 0 [28] u5 (((u5.setCell ⟨w.heap.size + 1, 1, none⟩ (.string ⟨f0.text.toArray⟩)).setCell ⟨w.heap.size + 1, 8, none⟩ (.slice a5 l5 b5))).drew := Kept.drew (((Kept.refl _ _ _).store X5.out (Nat.zero_le _) (by simp) _).store (X5.out.store 1 _) (Nat.zero_le _) (by simp) _)
            have Y6 : Hid (Box (((u5.setCell ⟨w.heap.size + 1, 1, none⟩ (.string ⟨f0.text.toArray⟩)).setCell ⟨w.heap.size + 1, 8, none⟩ (.slice a5 l5 b5))).drew w.heap.size 28 (kz 0)) := hid (((Turn.setCell _ _ 8 _).box ((Turn.setCell _ _ 1 _).box Y5.out (by omega)) (by omega)))
            have K6 : Hid (Below w.heap.size w (((u5.setCell ⟨w.heap.size + 1, 1, none⟩ (.string ⟨f0.text.toArray⟩)).setCell ⟨w.heap.size + 1, 8, none⟩ (.slice a5 l5 b5))).drew) := hid (Below.drew ((K5.out.trans ((Turn.setCell _ _ 1 _).below (by omega))).trans ((Turn.setCell _ _ 8 _).below (by omega))))
            have ho6 := T6.own ho5.out (by decide)
            have O6 := hid (own_base (T6.own O5.out (by decide)) (show w.heap.size ≤ _ from Nat.le_trans K4s.out.size (Nat.le_refl _)))
            obtain ⟨fb', fo', he6, _, hc6⟩ := Lies.own ho6 (by rw [HCS.out]; simp)
            injection he6 with he6
            injection he6 with h1 h2
            subst h1 h2
            rw [HCS.out] at hc6
            rw [hq1, hq2, hq3, hq4, hq5] at hc6
            clear T6 X5 Y5 K5 ho6
            generalize hW : (((u5.setCell ⟨w.heap.size + 1, 1, none⟩ (.string ⟨f0.text.toArray⟩)).setCell ⟨w.heap.size + 1, 8, none⟩ (.slice a5 l5 b5))).drew = u6 at X6 Y6 K6 O6 hc6 ⊢
            clear hW
            have D5 : u6.cell? ⟨fb, fo + 5, none⟩ = some (.int .u32 f1.n) := hc6 5 _ rfl
            have G5 : u6.cell? ⟨fb, fo + 4 + 1, none⟩ = some (.int .u32 f1.n) := hc6 5 _ rfl
            have D9 : u6.cell? ⟨fb, fo + 9, none⟩ = some (.int .u32 f2.n) := hc6 9 _ rfl
            have G9 : u6.cell? ⟨fb, fo + 8 + 1, none⟩ = some (.int .u32 f2.n) := hc6 9 _ rfl
            have D13 : u6.cell? ⟨fb, fo + 13, none⟩ = some (.int .u32 f3.n) := hc6 13 _ rfl
            have G13 : u6.cell? ⟨fb, fo + 12 + 1, none⟩ = some (.int .u32 f3.n) := hc6 13 _ rfl
            have D17 : u6.cell? ⟨fb, fo + 17, none⟩ = some (.int .u32 f4.n) := hc6 17 _ rfl
            have G17 : u6.cell? ⟨fb, fo + 16 + 1, none⟩ = some (.int .u32 f4.n) := hc6 17 _ rfl
            have C4 : u6.cell? ⟨w.heap.size + 1, 4, none⟩ = some (.int .u32 0) := X6.out.cell 4
            have F4 : u6.frozen? ⟨w.heap.size + 1, 4, none⟩ = false := X6.out.frozen 4
            have C5 : u6.cell? ⟨w.heap.size + 1, 5, none⟩ = some (.int .u32 0) := X6.out.cell 5
            have F5 : u6.frozen? ⟨w.heap.size + 1, 5, none⟩ = false := X6.out.frozen 5
            have C6 : u6.cell? ⟨w.heap.size + 1, 6, none⟩ = some (.int .u32 0) := X6.out.cell 6
            have F6 : u6.frozen? ⟨w.heap.size + 1, 6, none⟩ = false := X6.out.frozen 6
            have C7 : u6.cell? ⟨w.heap.size + 1, 7, none⟩ = some (.int .u32 0) := X6.out.cell 7
            have F7 : u6.frozen? ⟨w.heap.size + 1, 7, none⟩ = false := X6.out.frozen 7
            have C0 : u6.cell? ⟨w.heap.size + 1, 0, none⟩ = some (.int .i64 1) := X6.out.cell 0
            clear hc6 hq0 hq1 hq2 hq3 hq4 hq5 o0 o1 o2 o3 o4 o5 p0 p1 p2 p3 p4 p5 O0 O5 e0_0 HCS hL5 ho5 hf5 c0 c1 c8 q1 q8 d2 d22 g22
            try clear u5
            go_wp2
            go_region
            all_goals
             as_aux_lemma =>
              have B6 : Hid (Box ((((u6.setCell ⟨w.heap.size + 1, 4, none⟩ (.int .u32 f1.n)).setCell ⟨w.heap.size + 1, 5, none⟩ (.int .u32 f2.n)).setCell ⟨w.heap.size + 1, 6, none⟩ (.int .u32 f3.n)).setCell ⟨w.heap.size + 1, 7, none⟩ (.int .u32 f4.n)) (w.heap.size + 1) 28 (r.cells a5 b5)) := hid (by rw [← hr.out, hk.out]; have hz := HL5.out; subst hz; exact ((((X6.out.store 4 _).store 5 _).store 6 _).store 7 _))
              have T7 : Kept 0 [28] u6 ((((u6.setCell ⟨w.heap.size + 1, 4, none⟩ (.int .u32 f1.n)).setCell ⟨w.heap.size + 1, 5, none⟩ (.int .u32 f2.n)).setCell ⟨w.heap.size + 1, 6, none⟩ (.int .u32 f3.n)).setCell ⟨w.heap.size + 1, 7, none⟩ (.int .u32 f4.n)) := (((((Kept.refl _ _ _).store X6.out (Nat.zero_le _) (by simp) _).store (X6.out.store 4 _) (Nat.zero_le _) (by simp) _).store ((X6.out.store 4 _).store 5 _) (Nat.zero_le _) (by simp) _).store (((X6.out.store 4 _).store 5 _).store 6 _) (Nat.zero_le _) (by simp) _)
              have B4 : Hid (Box ((((u6.setCell ⟨w.heap.size + 1, 4, none⟩ (.int .u32 f1.n)).setCell ⟨w.heap.size + 1, 5, none⟩ (.int .u32 f2.n)).setCell ⟨w.heap.size + 1, 6, none⟩ (.int .u32 f3.n)).setCell ⟨w.heap.size + 1, 7, none⟩ (.int .u32 f4.n)) w.heap.size 28 (kz 0)) := hid (((Turn.setCell _ _ 7 _).box ((Turn.setCell _ _ 6 _).box ((Turn.setCell _ _ 5 _).box ((Turn.setCell _ _ 4 _).box Y6.out (by omega)) (by omega)) (by omega)) (by omega)))
              have K7 : Hid (Below w.heap.size w ((((u6.setCell ⟨w.heap.size + 1, 4, none⟩ (.int .u32 f1.n)).setCell ⟨w.heap.size + 1, 5, none⟩ (.int .u32 f2.n)).setCell ⟨w.heap.size + 1, 6, none⟩ (.int .u32 f3.n)).setCell ⟨w.heap.size + 1, 7, none⟩ (.int .u32 f4.n))) := hid ((((K6.out.trans ((Turn.setCell _ _ 4 _).below (by omega))).trans ((Turn.setCell _ _ 5 _).below (by omega))).trans ((Turn.setCell _ _ 6 _).below (by omega))).trans ((Turn.setCell _ _ 7 _).below (by omega)))
              have O7 := hid (T7.own O6.out (by decide))
              rw [← hrm.out] at O7
              clear T7 X6 Y6 K6 O6
              generalize hW : ((((u6.setCell ⟨w.heap.size + 1, 4, none⟩ (.int .u32 f1.n)).setCell ⟨w.heap.size + 1, 5, none⟩ (.int .u32 f2.n)).setCell ⟨w.heap.size + 1, 6, none⟩ (.int .u32 f3.n)).setCell ⟨w.heap.size + 1, 7, none⟩ (.int .u32 f4.n)) = u7 at B6 B4 K7 O7 ⊢
              clear hW
              have B6d : Hid (Box u7.drew (w.heap.size + 1) 28 (r.cells a5 b5)) := B6
              have B4d : Hid (Box u7.drew w.heap.size 28 (kz 0)) := B4
              have K7d : Hid (Below w.heap.size w u7.drew) := hid K7.out.drew
              have O7d : Hid (u7.drew.ownsRow w.heap.size 5 1 (.slice a5 r.modes.length b5) r.modes.length (bv r.modes)) := O7
              clear B6 B4 K7 O7
              cases hfl0 : decide (fl = 0)
              all_goals
                go_wp2_with (first
                  | (refine ld28 (by rfl) _ (by rfl) (w.heap.size + 1) (by rfl) (r.cells a5 b5) B6d.out rfl ?_)
                  | (go_at_call 26
                     (with_reducible refine (fault_x k r a5 b5 _ fl hrk hro hml hfl).mono ?_)
                     rintro e u8 ⟨rfl, k8⟩
                     have B68 := hid (box_below B6d.out k8.out)
                     have B48 := hid (box_below B4d.out k8.out)
                     have O8 := hid (own_keep O7d.out k8.out)
                     have K8 := hid (K7d.out.trans (k8.out.mono K7d.out.size))
                     have hfv : (fl == 0) = decide (fl = 0) := by rw [Bool.eq_iff_iff]; simp
                     have hfw : (fl != 0) = !decide (fl = 0) := by rw [bne, hfv]
                     rw [hfl0] at hfv hfw
                     clear k8 B6d B4d K7d O7d)
                  | (refine ld28 (by rfl) _ (by rfl) (w.heap.size + 1) (by rfl) (r.cells a5 b5) B68.out rfl ?_)
                  | (refine st28 (by rfl) _ _ (by rfl) w.heap.size (by rfl) (kz 0) rfl (kz_one 0) (by rfl) (kz 0) B48.out rfl ?_
                     intro u9 Y9 t9
                     have K9 := hid (K8.out.trans (t9.out.below (Nat.le_refl _)))
                     have O9 := hid ((turn_kept t9.out B48.out).own O8.out (by decide))
                     clear t9)
                  | (refine st28 (by rfl) _ _ (by rfl) w.heap.size (by rfl) (r.cells a5 b5) rfl (cells_one r a5 b5) (by rfl) (kz 0) B48.out rfl ?_
                     intro u9 Y9 t9
                     have K9 := hid (K8.out.trans (t9.out.below (Nat.le_refl _)))
                     have O9 := hid ((turn_kept t9.out B48.out).own O8.out (by decide))
                     clear t9))
                first
                  | (refine bodyPost_ret (results28 rfl _ _ _ (kz 0) rfl rfl _ rfl Y9.out) rfl ?_
                     exact decF_bad (by simpa using hfl0) K9)
                  | (refine bodyPost_ret (results28 rfl _ _ _ (r.cells a5 b5) rfl rfl _ rfl Y9.out) rfl ?_
                     exact decF_own (by simpa using hfl0) O9 K9)

end Go.Proofs.YtdplngplljejhaaDoor
