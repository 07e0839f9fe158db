import Derived.Test.YteeienmigoebmaaGreatDoorPRW
namespace Go.Proofs.YteeienmigoebmaaGreatDoor
namespace L19
open Go.RowKit L18

/-! Layer 19: ProgramWork, the walk. -/
theorem most_eq : most = 1073741824 := by decide
theorem min_i {a b : Nat} (e : b = min a most) : min (a : Int) 1073741824 = b := by
  rw [most_eq] at e
  rw [Int.min_def]
  rw [Nat.min_def] at e
  split <;> split at e <;> omega
section
variable {w : World}
set_option maxRecDepth 100000 in
set_option maxHeartbeats 8000000 in
theorem work_walk (H : Hid (TabX w)) (A : Option Addr) (n c : Nat) (X : List PgX) (hl : Hid (PgM w w.heap.size A c X)) (hn : Hid (X.length = n)) (hm : Hid (FitX X)) (d : Nat) (hd : d < 256) : Calls Tryz.prog 5 #[.slice A n c, .int .u8 d] w fun e w' => e = .returned (.bool true) ∧ Hid (Below w.heap.size w w') := by
  obtain ⟨g, hg⟩ : ∃ z, Hid (greatP (prL X) = z) := ⟨_, hid rfl⟩
  obtain ⟨e0, he⟩ : ∃ z, Hid (checkP (prL X) = z) := ⟨_, hid rfl⟩
  have hmf : ∀ (fn : Fn) (first cap : Array Value) (w : World), (Instr.makeFunc fn first cap).run Tryz.prog w = .ok (.func fn first cap) w := fun _ _ _ _ => rfl
  have K0 : Hid (Below w.heap.size w (w.alloc (.cells #[.slice A n c] 22))) := hid ((Below.refl _ w).alloc (Nat.le_refl _) _)
  have G0 := hid (Box.new w 22 #[.slice A n c])
  go_enter Tryz.func5, Tryz.ntmps5
  go_upto_region 1 with fail
  generalize hu : w.alloc (.cells #[.slice A n c] 22) = u at K0 G0 ⊢
  have L0 := pg_up hl K0.out
  have H0 := TabX.below H K0.out
  clear hu
  by_cases hg1 : g = true
  · subst hg1
    go_wp2_with (first
      | (go_at_call 6
         (with_reducible refine (alive_any H0).mono ?_)
         rintro e w1 ⟨rfl, B1⟩
         have L1 := pg_up L0 B1.out
         have cA : w1.cell? ⟨w.heap.size, 0, none⟩ = some (.slice A n c) := (box_below G0.out B1.out).cell 0)
      | (go_at_call 7
         (with_reducible refine (ref_any _ A n c X L1 hn.out hm).mono ?_)
         rintro e w2 ⟨A2, c2, Y, rfl, Q2, P2, C2⟩
         have B2 := bel_t B1 C2.out
         obtain ⟨L2, N2⟩ := own_m P2)
      | (go_at_call 8
         (with_reducible refine (great_any _ A2 n c2 Y L2 N2.out (hid (fit_of Q2.out hm.out)) (via greatP Q2 hg)).mono ?_)
         rintro e w3 ⟨rfl, C3⟩
         have B3 := bel_t B2 C3.out))
    go_ret
    exact ⟨rfl, bel_t K0 B3.out⟩
  have hg0 : g = false := by simpa using hg1
  subst hg0
  clear hg1
  have SX : Hid (SmallX X) := hid (small_great rfl hg.out)
  by_cases hf : ¬ e0 = 0
  · go_wp2_with (first
      | (go_at_call 6
         (with_reducible refine (alive_any H0).mono ?_)
         rintro e w1 ⟨rfl, B1⟩
         have L1 := pg_up L0 B1.out
         have cA : w1.cell? ⟨w.heap.size, 0, none⟩ = some (.slice A n c) := (box_below G0.out B1.out).cell 0)
      | (go_at_call 7
         (with_reducible refine (ref_any _ A n c X L1 hn.out hm).mono ?_)
         rintro e w2 ⟨A2, c2, Y, rfl, Q2, P2, C2⟩
         have B2 := bel_t B1 C2.out
         have L1' := pg_up L1 C2.out
         obtain ⟨L2, N2⟩ := own_m P2)
      | (go_at_call 8
         (with_reducible refine (great_any _ A2 n c2 Y L2 N2.out (hid (fit_of Q2.out hm.out)) (via greatP Q2 hg)).mono ?_)
         rintro e w3 ⟨rfl, C3⟩
         have B3 := bel_t B2 C3.out
         have L3 := pg_up L1' C3.out
         have cB : w3.cell? ⟨w.heap.size, 0, none⟩ = some (.slice A n c) := (box_below G0.out B3.out).cell 0)
      | (go_at_call 9
         (with_reducible refine (to_any _ A n c X L3 hn.out hm).mono ?_)
         rintro e w4 ⟨A4, c4, Z, rfl, Q4, P4, C4⟩
         have B4 := bel_t B3 C4.out
         obtain ⟨L4, N4⟩ := own_m P4
         have H4 := TabX.below H0 B4.out
         have SZ : Hid (SmallX Z) := hid (small_eq Q4.out SX.out))
      | (go_at_call 15
         (with_reducible refine (check_any H4 L4 N4 SZ (via checkP Q4 he)).mono ?_)
         rintro e w5 ⟨rfl, C5⟩
         have B5 := bel_t B4 C5.out))
    go_ret
    exact ⟨rfl, bel_t K0 B5.out⟩
  have hf0 : e0 = 0 := by simpa using hf
  subst hf0
  clear hf
  go_upto_region 6 with (first
      | (go_at_call 6
         (with_reducible refine (alive_any H0).mono ?_)
         rintro e w1 ⟨rfl, B1⟩
         have L1 := pg_up L0 B1.out
         have cA : w1.cell? ⟨w.heap.size, 0, none⟩ = some (.slice A n c) := (box_below G0.out B1.out).cell 0)
      | (go_at_call 7
         (with_reducible refine (ref_any _ A n c X L1 hn.out hm).mono ?_)
         rintro e w2 ⟨A2, c2, Y, rfl, Q2, P2, C2⟩
         have B2 := bel_t B1 C2.out
         have L1' := pg_up L1 C2.out
         obtain ⟨L2, N2⟩ := own_m P2)
      | (go_at_call 8
         (with_reducible refine (great_any _ A2 n c2 Y L2 N2.out (hid (fit_of Q2.out hm.out)) (via greatP Q2 hg)).mono ?_)
         rintro e w3 ⟨rfl, C3⟩
         have B3 := bel_t B2 C3.out
         have L3 := pg_up L1' C3.out
         have cB : w3.cell? ⟨w.heap.size, 0, none⟩ = some (.slice A n c) := (box_below G0.out B3.out).cell 0)
      | (go_at_call 9
         (first
          | ((with_reducible refine (to_any _ A n c X L3 hn.out hm).mono ?_)
             rintro e w4 ⟨A4, c4, Z, rfl, Q4, P4, C4⟩
             have B4 := bel_t B3 C4.out
             have L3' := pg_up L3 C4.out
             obtain ⟨L4, N4⟩ := own_m P4
             have H4 := TabX.below H0 B4.out
             have SZ : Hid (SmallX Z) := hid (small_eq Q4.out SX.out))
          | ((with_reducible refine (to_any _ A n c X L5 hn.out hm).mono ?_)
             rintro e w6 ⟨A6, c6, V, rfl, Q6, P6, C6⟩
             have B6 := bel_t B5 C6.out
             have L6 := pg_up L5 C6.out)))
      | (go_at_call 15
         (with_reducible refine (check_any H4 L4 N4 SZ (via checkP Q4 he)).mono ?_)
         rintro e w5 ⟨rfl, C5⟩
         have B5 := bel_t B4 C5.out
         have L5 := pg_up L3' C5.out
         have cC : w5.cell? ⟨w.heap.size, 0, none⟩ = some (.slice A n c) := (box_below G0.out B5.out).cell 0))
  have hlen := check_scan he.out
  have hn1 : 1 ≤ n ∧ n ≤ 32 := by
    have := hn.out
    rw [prL_len] at hlen
    omega
  have hn0 : ¬ (n : Int) = 0 := by omega
  obtain ⟨i, hi⟩ : ∃ z, d % n = z := ⟨_, rfl⟩
  have hin : i < n := by rw [← hi]; exact Nat.mod_lt _ (by omega)
  have hrem : Int.tmod (d : Int) (n : Int) = (i : Int) := by rw [← hi]; exact (Int.ofNat_tmod d n).symm
  have hw1 : IntKind.i64.wrap (d : Int) = d := IntWalk.i64_in _ (by omega)
  have hw2 : IntKind.i64.wrap (i : Int) = i := IntWalk.i64_in _ (by omega)
  clear hlen hi
  go_upto_region 7 with fail
  have k7 : Below w6.heap.size w6 (w6.alloc (.cells #[.int .i64 i] 3)) := (Below.refl _ w6).alloc (Nat.le_refl _) _
  have Gi := hid (Box.new w6 3 #[.int .i64 i])
  generalize w6.alloc (.cells #[.int .i64 i] 3) = u7 at k7 Gi ⊢
  have B7 := bel_t B6 k7
  have L7 := pg_up L6 k7
  have P7 : Hid (PgN u7 w5.heap.size 43 46 A6 n c6 V) := hid (P6.out.up k7)
  obtain ⟨M7, N7⟩ := own_m P7
  have Gl : Hid (Box u7 w.heap.size 22 #[.slice A n c]) := hid (box_below G0.out B7.out)
  have H7 := TabX.below H0 B7.out
  have Z7 := bel_t K0 B7.out
  have SV : Hid (SmallX V) := hid (small_eq Q6.out SX.out)
  generalize w6.heap.size = gi at Gi ⊢
  have NV := N7
  clear k7 B6 P6 L6 C6 B5 C5 L5 B4 C4 L4 N4 P4 L3 L3' B3 C3 B2 C2 L1 L1' B1 cA cB cC L2 N2 P2 H4 SZ
  obtain ⟨b, o, x, hA, hr, c0, c1, _⟩ := M7.out.at (k := i) (by rw [N7.out]; exact hin)
  subst hA
  have hx : (prL X)[i]? = some x.1 := by rw [← Q6.out]; simp [prL, hr]
  obtain ⟨⟨nm, ops⟩, oA, oc⟩ := x
  simp only at c0 c1 hx
  obtain ⟨q, hq⟩ : ∃ z, Hid (ops.length = z) := ⟨_, hid rfl⟩
  rw [hq.out] at c1
  have HX := hid hx
  clear hr hx c0
  have ci : u7.cell? ⟨gi, 0, none⟩ = some (.int .i64 i) := Gi.out.cell 0
  have hin2 : (i : Int) < n := by omega
  by_cases hq64 : 64 ≤ q
  · have t1 : (q : Int) ≥ 64 := by omega
    go_wp2
    go_ret
    exact ⟨rfl, Z7⟩
  have t1 : ¬ (q : Int) ≥ 64 := by omega
  have hlt : ops.length < 64 := by rw [hq.out]; omega
  have HLT := hid hlt
  obtain ⟨v0, hv0⟩ : ∃ z, Hid (workP (prL X) i = z) := ⟨_, hid rfl⟩
  have hiX : i < (prL X).length := by rw [prL_len, hn.out]; exact hin
  have hm0 : v0 ≤ 1073741824 := by
    have h := work_most he.out hiX
    rw [hv0.out, most_eq] at h
    exact h
  obtain ⟨v1, hv1⟩ : ∃ z, Hid (workP (frontP (prL X) i (16, 0, 0, [])) i = z) := ⟨_, hid rfl⟩
  have e1 := work_copy he.out HX.out hlt
  have hv2 : Hid (workP (frontP (prL X) i (1, 7, 0, [])) i = 1) := hid (work_exit he.out HX.out hlt)
  rw [hv0.out, hv1.out] at e1
  have hmin : min ((v0 : Int) + 1) 1073741824 = v1 := min_i (a := v0 + 1) e1
  clear hlt e1 hiX
  go_upto_region 11 with (first
    | (go_at_call 16
       (with_reducible refine (work_any H7 M7 N7 SV (i := (i : Int)) (v := v0) (via (fun l => workP l i) Q6 hv0)).mono ?_)
       rintro e w8 ⟨rfl, C8⟩
       have L8 := pg_up L7 C8.out
       have H8 := TabX.below H7 C8.out
       have Z8 := bel_t Z7 C8.out
       have Gl8 : Hid (Box w8 w.heap.size 22 #[.slice A n c]) := hid (box_below Gl.out C8.out)
       have Gi8 : Hid (Box w8 gi 3 #[.int .i64 i]) := hid (box_below Gi.out C8.out)
       have M8 := pg_up M7 C8.out))
  have hw3 : IntKind.i64.wrap ((v0 : Int) + 1) = (v0 : Int) + 1 := IntWalk.i64_in _ (by omega)
  go_upto_region 13 with (first
    | (go_at_call 17
       (first
        | ((with_reducible refine (front_any H8 Gl8 Gi8 L8 hn hm hin he 16 0 hv1).mono ?_)
           rintro e w9 ⟨rfl, C9⟩
           have L9 := pg_up L8 C9.out
           have H9 := TabX.below H8 C9.out
           have Z9 := bel_t Z8 C9.out
           have Gl9 : Hid (Box w9 w.heap.size 22 #[.slice A n c]) := hid (box_below Gl8.out C9.out)
           have Gi9 : Hid (Box w9 gi 3 #[.int .i64 i]) := hid (box_below Gi8.out C9.out)
           have M9 := pg_up M8 C9.out)
        | ((with_reducible refine (front_any H9 Gl9 Gi9 L9 hn hm hin he 1 7 hv2).mono ?_)
           rintro e wA ⟨rfl, CA⟩
           have LA := pg_up L9 CA.out
           have HA := TabX.below H9 CA.out
           have ZA := bel_t Z9 CA.out
           have GlA : Hid (Box wA w.heap.size 22 #[.slice A n c]) := hid (box_below Gl9.out CA.out)
           have GiA : Hid (Box wA gi 3 #[.int .i64 i]) := hid (box_below Gi9.out CA.out)
           have ciA : wA.cell? ⟨gi, 0, none⟩ = some (.int .i64 i) := GiA.out.cell 0
           have MA := pg_up M9 CA.out))))
  have hw4 : IntKind.i64.wrap ((i : Int) + 1) = (i : Int) + 1 := IntWalk.i64_in _ (by omega)
  clear hmin C8 C9 CA L8 L9 H8 H9 Z8 Z9 Gl8 Gl9 Gi8 Gi9 M8 M9 L7 H7 M7 N7 Z7 B7 ci t1 c1 hv1 hv2 Gl Gi P7 hw1 hrem
  go_wp2
  have t8 : (0 : Int) ≤ v0 := by omega
  have t9 : (v0 : Int) ≤ 1073741824 := by omega
  have hiA : i + 1 ≤ n := by omega
  go_loopw [9] (fun j wr => ∃ (k : Nat), i + 1 ≤ k ∧ k ≤ n ∧ j = .int .i64 k ∧ Hid (Below wA.heap.size wA wr)) (fun j _ => n - (intOf j).toNat)
  case atStart => exact ⟨i + 1, Nat.le_refl _, hiA, by go_num, hid (Below.refl _ _)⟩
  case round =>
    obtain ⟨k, hik, hkn, rfl, HB⟩ := hrel
    by_cases hlt : k < n
    · have LB := pg_up LA HB.out
      have H1 := TabX.below HA HB.out
      have MB := pg_up MA HB.out
      have GlB : Hid (Box wr w.heap.size 22 #[.slice A n c]) := hid (box_below GlA.out HB.out)
      have GiB : Hid (Box wr gi 3 #[.int .i64 i]) := hid (box_below GiA.out HB.out)
      have hkX : k < (prL X).length := by rw [prL_len, hn.out]; exact hlt
      obtain ⟨vk, hvk⟩ : ∃ z, Hid (workP (prL X) k = z) := ⟨_, hid rfl⟩
      have hmk : vk ≤ 1073741824 := by
        have h := work_most he.out hkX
        rw [hvk.out, most_eq] at h
        exact h
      obtain ⟨vf, hvf⟩ : ∃ z, Hid (workP (frontP (prL X) i (5, (k : Int), 0, [])) i = z) := ⟨_, hid rfl⟩
      obtain ⟨ve, hve⟩ : ∃ z, Hid (workP (frontP (prL X) i (6, (k : Int), 0, [])) i = z) := ⟨_, hid rfl⟩
      have e1 := work_fork he.out HX.out HLT.out hik hkX
      have e2 := work_exec he.out HX.out HLT.out hik hkX
      rw [hv0.out, hvk.out, hvf.out] at e1
      rw [hvk.out, hve.out] at e2
      have hm1 : min ((v0 : Int) + 1 + vk) 1073741824 = vf := min_i (a := v0 + 1 + vk) e1
      have hm2 : min (1 + (vk : Int)) 1073741824 = ve := min_i (a := 1 + vk) e2
      have hw5 : IntKind.i64.wrap ((v0 : Int) + 1 + vk) = (v0 : Int) + 1 + vk := IntWalk.i64_in _ (by omega)
      have hw6 : IntKind.i64.wrap (1 + (vk : Int)) = 1 + (vk : Int) := IntWalk.i64_in _ (by omega)
      have hw7 : IntKind.i64.wrap ((k : Int) + 1) = (k : Int) + 1 := IntWalk.i64_in _ (by omega)
      have hij : (k : Int) < n := by omega
      clear e1 e2 hkX
      go_wp2_with (first
        | (go_at_call 16
           (with_reducible refine (work_any H1 MB NV SV (i := (k : Int)) (v := vk) (via (fun l => workP l k) Q6 hvk)).mono ?_)
           rintro e x1 ⟨rfl, E1⟩
           have L1 := pg_up LB E1.out
           have T1 := TabX.below H1 E1.out
           have B1 := bel_t HB E1.out
           have Gl1 : Hid (Box x1 w.heap.size 22 #[.slice A n c]) := hid (box_below GlB.out E1.out)
           have Gi1 : Hid (Box x1 gi 3 #[.int .i64 i]) := hid (box_below GiB.out E1.out))
        | (go_at_call 17
           (first
            | ((with_reducible refine (front_any T1 Gl1 Gi1 L1 hn hm hin he 5 (k : Int) hvf).mono ?_)
               rintro e x2 ⟨rfl, E2⟩
               have L2 := pg_up L1 E2.out
               have T2 := TabX.below T1 E2.out
               have B2 := bel_t B1 E2.out
               have Gl2 : Hid (Box x2 w.heap.size 22 #[.slice A n c]) := hid (box_below Gl1.out E2.out)
               have Gi2 : Hid (Box x2 gi 3 #[.int .i64 i]) := hid (box_below Gi1.out E2.out))
            | ((with_reducible refine (front_any T2 Gl2 Gi2 L2 hn hm hin he 6 (k : Int) hve).mono ?_)
               rintro e x3 ⟨rfl, E3⟩
               have B3 := bel_t B2 E3.out))))
      go_roundw
      case rel => exact ⟨k + 1, by omega, by omega, by go_num, B3⟩
      case measure => simp [intOf] <;> omega
    · have hij : ¬ (k : Int) < n := by omega
      go_wp2
      go_ret
      exact ⟨rfl, bel_t ZA HB.out⟩
end
end L19
end Go.Proofs.YteeienmigoebmaaGreatDoor
