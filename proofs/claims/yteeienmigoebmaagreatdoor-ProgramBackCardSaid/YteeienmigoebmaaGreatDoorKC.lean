import Derived.Test.YteeienmigoebmaaGreatDoorKB
import Derived.Test.YteeienmigoebmaaGreatDoorPSD
namespace Go.Proofs.YteeienmigoebmaaGreatDoor
namespace L19
open Go.RowKit L18

/-! Layer 19, the program's side: right. -/
theorem right_is (k : Nat) (a b i all : Int) (t : List UInt8) (h1 : 1 ≤ k) (h2 : k ≤ 16) : rightO ((k : Int), a, b, t) i all = (onlyB k a b t.isEmpty && kindB (k : Int) a b t.length i all) := by
  unfold rightO onlyB
  have e1 : decide ((1 : Int) ≤ (k : Int)) = true := decide_eq_true (by omega)
  have e2 : decide ((k : Int) ≤ 16) = true := decide_eq_true (by omega)
  simp only [e1, e2, Int.toNat_natCast, Bool.true_and]
theorem right_out {o : OpV} {i all : Int} (h : ¬ (1 ≤ o.1 ∧ o.1 ≤ 16)) : rightO o i all = false := by
  unfold rightO
  by_cases h1 : 1 ≤ o.1
  · have e2 : decide (o.1 ≤ 16) = false := decide_eq_false (fun h2 => h ⟨h1, h2⟩)
    simp [e2]
  · simp [h1]
theorem row_c4 (k : Nat) : (rowA k)[4]? = some (.func (.func (onN k)) (arA k) #[]) := rfl
theorem row_c5 (k : Nat) : (rowA k)[5]? = some (.func (.func (myN k)) #[] #[]) := rfl
theorem row_c2 (k : Nat) : (rowA k)[2]? = some (.func (.func (rdN k)) (arA k) #[]) := rfl
theorem row_c3 (k : Nat) : (rowA k)[3]? = some (.func (.func (wrN k)) (arA k) #[]) := rfl
theorem bel_3 {u w w' : World} (h : Hid (Below u.heap.size u w)) (k : Hid (Below w.heap.size w w')) : Hid (Below u.heap.size u w') := hid (h.out.trans (k.out.mono h.out.size))
theorem set_up {u w w' : World} {g : Nat} {cs : Array Value} (h : Hid (Below u.heap.size u w)) (hw : Hid (w' = w.setRow g cs)) (hg : u.heap.size ≤ g) : Hid (Below u.heap.size u w') := by
  rw [hw.out]
  exact hid (h.out.trans ⟨rfl, rfl, rfl, Nat.le_of_eq (size_setRow _ _ _).symm, fun b hb => setRow_other _ _ b _ (by omega)⟩)
set_option maxRecDepth 100000 in
set_option maxHeartbeats 4000000 in
theorem right_yes {w : World} (H : Hid (TabW w)) {j : Nat} (h1 : 1 ≤ j) (h2 : j ≤ 16) {k a b i all : Int} {s : ByteArray} {e0 r1 r2 : Bool} (hk : Hid (k = (j : Int))) (he : Hid (s.toList.isEmpty = e0)) (hr1 : Hid (onlyB j a b e0 = r1)) (hr2 : Hid (kindB (j : Int) a b s.size i all = r2)) :
    Calls Tryz.prog 56 #[.agg rowsA, .agg #[.int .i64 k, .int .i64 a, .int .i64 b, .string s, .int .i64 i, .int .i64 all]] w fun e w' => e = .returned (.bool (r1 && r2)) ∧ Hid (Below w.heap.size w w') := by
  obtain ⟨R, hR⟩ : ∃ z, rowA j = z := ⟨_, rfl⟩
  obtain ⟨f1, hf1⟩ : ∃ z, onN j = z := ⟨_, rfl⟩
  obtain ⟨f2, hf2⟩ : ∃ z, myN j = z := ⟨_, rfl⟩
  obtain ⟨A, hA⟩ : ∃ z, arA j = z := ⟨_, rfl⟩
  have c4 := row_c4 j
  have c5 := row_c5 j
  have HS : Hid ((Tryz.prog.info? 61).map (·.size) = some (rowA j).size) := hid (row_sz j)
  have HO : Hid ((rowA j).all (·.oneCell') = true) := hid (row_one j)
  have HZ : Hid (zrow.size = (rowA j).size) := hid rfl
  rw [hR] at c4 c5 HS HO HZ
  rw [hf1, hA] at c4
  rw [hf2] at c5
  have hcf1 := on_call h2 hf1
  have hcf2 := my_call h1 h2 hf2
  have HF := hid (fun W => of_yes W h1 h2 hk.out hR)
  have HP1 := hid (fun W => on_any W h2 (kd := k) he hr1 hf1 hA)
  have HP2 : Hid (∀ W, Hid (TabW W) → _) := hid (fun W (HT : Hid (TabW W)) => may_any HT h1 h2 (kd := k) hr2 hf2)
  clear hR hf1 hf2 hA
  go_enter Tryz.func56, Tryz.ntmps56
  go_upto_region 1 with (first
    | (refine bxG rows_sz (by rfl) _ (by rfl) (by rfl) ?_
       intro w1 X1 hw1))
  obtain ⟨u, hu⟩ : ∃ z, z = w1.alloc (.cells #[.int .i64 k, .int .i64 a, .int .i64 b, .string s, .int .i64 i, .int .i64 all] 93) := ⟨_, rfl⟩
  have K1 : Hid (Below w.heap.size w w1) := hid (by rw [hw1.out]; exact (Below.refl _ w).alloc (Nat.le_refl _) _)
  have K2 : Hid (Below w1.heap.size w1 u) := hid (by rw [hu]; exact (Below.refl _ w1).alloc (Nat.le_refl _) _)
  have X2 : Hid (Box u w1.heap.size 93 #[.int .i64 k, .int .i64 a, .int .i64 b, .string s, .int .i64 i, .int .i64 all]) := hid (by rw [hu]; exact Box.new w1 _ _)
  have X3 : Hid (Box u w.heap.size 63 rowsA) := hid (box_below X1.out K2.out)
  have K3 := bel_3 K1 K2
  obtain ⟨gb, hgb⟩ : ∃ z, w.heap.size = z := ⟨_, rfl⟩
  obtain ⟨g, hg⟩ : ∃ z, w1.heap.size = z := ⟨_, rfl⟩
  rw [← hu]
  rw [hg] at X2
  rw [hgb] at X3
  simp only [hg]
  simp only [hgb]
  have hH := TabW.below H K3.out
  clear hu X1 K1 K2 hw1
  have bz : ∀ W, Below u.heap.size u W → W.cell? ⟨g, 0, none⟩ = some (.int .i64 k) ∧ W.cell? ⟨g, 1, none⟩ = some (.int .i64 a) ∧ W.cell? ⟨g, 2, none⟩ = some (.int .i64 b) ∧ W.cell? ⟨g, 3, none⟩ = some (.string s) ∧ W.cell? ⟨g, 4, none⟩ = some (.int .i64 i) ∧ W.cell? ⟨g, 5, none⟩ = some (.int .i64 all) := fun W h => ⟨(box_below X2.out h).cell 0, (box_below X2.out h).cell 1, (box_below X2.out h).cell 2, (box_below X2.out h).cell 3, (box_below X2.out h).cell 4, (box_below X2.out h).cell 5⟩
  obtain ⟨z0, z1, z2, z3, z4, z5⟩ := bz u (Below.refl _ _)
  have hbu : gb ≤ u.heap.size := by rw [← hgb]; exact K3.out.size
  go_upto_region 2 with (first
    | (refine ldG Tryz.underlying63 rfl rows_sz (by rfl) _ (by rfl) _ (by rfl) 63 X3 ?_)
    | (go_at_call 47
       (with_reducible refine (HF.out _).mono ?_)
       rintro e w2 ⟨rfl, C2⟩
       have X5 : Hid (Box (w2.alloc (.cells #[.int .i64 0, .string ⟨#[]⟩, .nilFunc, .nilFunc, .nilFunc, .nilFunc] 61)) w2.heap.size 61 zrow) := hid (Box.new w2 _ _)
       have K5 : Hid (Below u.heap.size u (w2.alloc (.cells #[.int .i64 0, .string ⟨#[]⟩, .nilFunc, .nilFunc, .nilFunc, .nilFunc] 61))) := hid (C2.out.alloc C2.out.size _))
    | (refine stG HS.out HO.out (by rfl) _ _ (by rfl) _ (by rfl) (by rfl) 61 zrow X5 HZ.out ?_
       intro w8 X8 hw8
       have y4 : w8.cell? ⟨w2.heap.size, 4, none⟩ = some (.func (.func f1) A #[]) := (X8.out.cell 4).trans c4
       have y5 : w8.cell? ⟨w2.heap.size, 5, none⟩ = some (.func (.func f2) #[] #[]) := (X8.out.cell 5).trans c5
       have K8 := set_up K5 hw8 C2.out.size))
  obtain ⟨z0, z1, z2, z3, z4, z5⟩ := bz w8 K8.out
  have hg8 : w2.heap.size < w8.heap.size := X8.out.lt
  have H8 := TabW.below H (bel_3 (hgb ▸ K3 : Hid (Below w.heap.size w u)) K8).out
  cases r1
  · go_wp2_with (first
      | (refine (HP1.out _).mono ?_
         rintro e w9 ⟨rfl, C9⟩))
    go_ret
    exact ⟨rfl, bel_3 (bel_3 K3 K8) C9⟩
  · go_wp2_with (first
      | (refine (HP1.out _).mono ?_
         rintro e w9 ⟨rfl, C9⟩
         have K9 := bel_3 K8 C9
         have H9 := TabW.below H8 C9.out
         obtain ⟨z0, z1, z2, z3, z4, z5⟩ := bz w9 K9.out
         have y5 := (C9.out.cell (p := ⟨w2.heap.size, 5, none⟩) hg8).trans y5)
      | (refine (HP2.out _ H9).mono ?_
         rintro e w10 ⟨rfl, C10⟩))
    go_ret
    exact ⟨by simp, bel_3 (bel_3 K3 K9) C10⟩
set_option maxRecDepth 100000 in
set_option maxHeartbeats 4000000 in
theorem right_no (w : World) {k a b i all : Int} {s : ByteArray} (hk : Hid (¬ (1 ≤ k ∧ k ≤ 16))) :
    Calls Tryz.prog 56 #[.agg rowsA, .agg #[.int .i64 k, .int .i64 a, .int .i64 b, .string s, .int .i64 i, .int .i64 all]] w fun e w' => e = .returned (.bool false) ∧ Hid (Below w.heap.size w w') := by
  have HF := hid (fun W => of_no W hk.out)
  have HS : Hid ((Tryz.prog.info? 61).map (·.size) = some zrow.size) := hid (row_sz 1)
  have B2 : ∀ W : World, Hid (Below w.heap.size w W) → ∀ o, Hid (Below w.heap.size w (W.alloc o)) := fun W h o => hid (h.out.alloc h.out.size o)
  go_enter Tryz.func56, Tryz.ntmps56
  go_upto_region 1 with (first
    | (refine bxG rows_sz (by rfl) _ (by rfl) (by rfl) ?_
       intro w1 X1 hw1))
  have K1 : Hid (Below w.heap.size w w1) := hid (by rw [hw1.out]; exact (Below.refl _ w).alloc (Nat.le_refl _) _)
  have X3 : ∀ o, Hid (Box (w1.alloc o) w.heap.size 63 rowsA) := fun o => hid (box_below X1.out (bel_w w1 o).out)
  have K3 := B2 w1 K1
  clear hw1
  go_wp2_with (first
    | (refine ldG Tryz.underlying63 rfl rows_sz (by rfl) _ (by rfl) _ (by rfl) 63 (X3 _) ?_)
    | (go_at_call 47
       (with_reducible refine (HF.out _).mono ?_)
       rintro e w2 ⟨rfl, C2⟩
       have X5 : Hid (Box (w2.alloc (.cells #[.int .i64 0, .string ⟨#[]⟩, .nilFunc, .nilFunc, .nilFunc, .nilFunc] 61)) w2.heap.size 61 zrow) := hid (Box.new w2 _ _)
       have K5 := B2 w2 (bel_3 (K3 _) C2) (.cells #[.int .i64 0, .string ⟨#[]⟩, .nilFunc, .nilFunc, .nilFunc, .nilFunc] 61))
    | (refine stG HS.out zrow_one (by rfl) _ _ (by rfl) _ (by rfl) (by rfl) 61 zrow X5 rfl ?_
       intro w8 X8 hw8
       have K8 := set_up K5 hw8 (bel_3 (K3 _) C2).out.size))
  go_ret
  exact ⟨rfl, K8⟩
theorem right_any {w : World} (H : Hid (TabW w)) {o : OpV} {i all : Int} {r : Bool} (hr : Hid (rightO o i all = r)) :
    Calls Tryz.prog 56 #[.agg rowsA, .agg #[.int .i64 o.1, .int .i64 o.2.1, .int .i64 o.2.2.1, .string (bs o.2.2.2), .int .i64 i, .int .i64 all]] w fun e w' => e = .returned (.bool r) ∧ Hid (Below w.heap.size w w') := by
  obtain ⟨k, a, b, t⟩ := o
  by_cases hk : 1 ≤ k ∧ k ≤ 16
  · obtain ⟨j, rfl⟩ := Int.eq_ofNat_of_zero_le (show 0 ≤ k by omega)
    have h1 : 1 ≤ j := by omega
    have h2 : j ≤ 16 := by omega
    have e : r = (onlyB j a b t.isEmpty && kindB (j : Int) a b (bs t).size i all) := by rw [← hr.out, right_is j a b i all t h1 h2, bs_size]
    rw [e]
    exact right_yes H h1 h2 (hid rfl) (hid (bs_emp t)) (hid rfl) (hid rfl)
  · have e : r = false := hr.out.symm.trans (right_out hk)
    rw [e]
    exact right_no w (hid hk)
end L19
end Go.Proofs.YteeienmigoebmaaGreatDoor
namespace Go.Proofs.YteeienmigoebmaaGreatDoor
namespace L19
open Go.RowKit L18

/-! Layer 19, the program's side: names; what is wrong with a program. -/
set_option maxRecDepth 100000 in
set_option maxHeartbeats 4000000 in
theorem nameRight_any (w : World) {s : List UInt8} {r : Bool} (hr : Hid (namedB s = r)) : Calls Tryz.prog 55 #[.string (bs s)] w fun e w' => e = .returned (.bool r) ∧ w' = w := by
  have hs := bs_size s
  go_enter Tryz.func55, Tryz.ntmps55
  by_cases h1 : s.length < 1
  · have h2 : ((bs s).size : Int) < 1 := by omega
    have h5 : r = false := by rw [← hr.out]; unfold namedB; simp [show ¬ 1 ≤ s.length by omega]
    subst h5
    go_wp2
    go_ret
    exact ⟨rfl, rfl⟩
  by_cases h3 : 64 < s.length
  · have h2 : ¬ ((bs s).size : Int) < 1 := by omega
    have h4 : ((bs s).size : Int) > 64 := by omega
    have h5 : r = false := by rw [← hr.out]; unfold namedB; simp [show ¬ s.length ≤ 64 by omega]
    subst h5
    go_wp2
    go_ret
    exact ⟨rfl, rfl⟩
  have h2 : ¬ ((bs s).size : Int) < 1 := by omega
  have h4 : ¬ ((bs s).size : Int) > 64 := by omega
  have HR : Hid (s.all nameC = r) := hid (by have := hr.out; unfold namedB at this; simpa [show 1 ≤ s.length by omega, show s.length ≤ 64 by omega] using this)
  obtain ⟨n, hn⟩ : ∃ n, s.length = n := ⟨_, rfl⟩
  rw [hn] at h1 h3 hs
  have hsz : ((bs s).size : Int) = n := by omega
  clear hr h2 h4
  have h2 : ¬ (n : Int) < 1 := by omega
  have h4 : ¬ (n : Int) > 64 := by omega
  go_wp2
  go_loopw [15] (fun i wr => ∃ k : Nat, k ≤ n ∧ i = .int .i64 k ∧ wr = w ∧ Hid ((s.drop k).all nameC = r)) (fun i _ => n - (intOf i).toNat)
  case atStart => exact ⟨0, Nat.zero_le _, rfl, rfl, HR⟩
  case round =>
    obtain ⟨k, hk, rfl, rfl, HK⟩ := hrel
    by_cases hlt : k < n
    · have hi : (k : Int) < n := by omega
      obtain ⟨c, hc⟩ : ∃ c, s[k]? = some c := ⟨_, List.getElem?_eq_getElem (by omega)⟩
      have hx : (bs s)[k]? = some c := by rw [bs_at, hc]
      have hx2 : ∀ h : k < (bs s).size, (bs s)[k]'h = c := fun h => by
        rw [getElem?_pos (bs s) k h] at hx
        exact Option.some.inj hx
      have hd : s.drop k = c :: s.drop (k + 1) := by
        obtain ⟨h1, h2⟩ := List.getElem?_eq_some_iff.1 hc
        rw [List.drop_eq_getElem_cons h1, h2]
      have HK2 : Hid ((nameC c && (s.drop (k + 1)).all nameC) = r) := hid (by
        have := HK.out
        rw [hd, List.all_cons] at this
        exact this)
      rw [nameC_i] at HK2
      clear hd hc HK
      have hw7 : IntKind.i64.wrap ((k : Int) + 1) = (k : Int) + 1 := IntWalk.i64_in _ (by omega)
      obtain ⟨z, hz⟩ : ∃ z : Int, (c.toNat : Int) = z := ⟨_, rfl⟩
      rw [hz] at HK2
      obtain h | h | h | h | h : z < 48 ∨ (48 ≤ z ∧ z ≤ 57) ∨ (57 < z ∧ z < 97) ∨ (97 ≤ z ∧ z ≤ 122) ∨ 122 < z := by omega
      · have t97 : z < 97 := by omega
        have t122 : ¬ 122 < z := by omega
        have t48 : z < 48 := by omega
        have t57 : ¬ 57 < z := by omega
        have h5 : r = false := by
          rw [← HK2.out, show ((decide (97 ≤ z) && decide (z ≤ 122)) || (decide (48 ≤ z) && decide (z ≤ 57))) = false by simp; omega]
          rfl
        subst h5
        go_wp2
        go_ret
        exact ⟨rfl, rfl⟩
      · have t97 : z < 97 := by omega
        have t122 : ¬ 122 < z := by omega
        have t48 : ¬ z < 48 := by omega
        have t57 : ¬ 57 < z := by omega
        have HK3 : Hid ((s.drop (k + 1)).all nameC = r) := hid (by have := HK2.out; rw [show ((decide (97 ≤ z) && decide (z ≤ 122)) || (decide (48 ≤ z) && decide (z ≤ 57))) = true by simp; omega] at this; simpa using this)
        go_wp2
        go_roundw
        case rel => exact ⟨k + 1, by omega, by go_num, by trivial, HK3⟩
        case measure => simp [intOf] <;> omega
      · have t97 : z < 97 := by omega
        have t122 : ¬ 122 < z := by omega
        have t48 : ¬ z < 48 := by omega
        have t57 : 57 < z := by omega
        have h5 : r = false := by
          rw [← HK2.out, show ((decide (97 ≤ z) && decide (z ≤ 122)) || (decide (48 ≤ z) && decide (z ≤ 57))) = false by simp; omega]
          rfl
        subst h5
        go_wp2
        go_ret
        exact ⟨rfl, rfl⟩
      · have t97 : ¬ z < 97 := by omega
        have t122 : ¬ 122 < z := by omega
        have t48 : ¬ z < 48 := by omega
        have t57 : 57 < z := by omega
        have HK3 : Hid ((s.drop (k + 1)).all nameC = r) := hid (by have := HK2.out; rw [show ((decide (97 ≤ z) && decide (z ≤ 122)) || (decide (48 ≤ z) && decide (z ≤ 57))) = true by simp; omega] at this; simpa using this)
        go_wp2
        go_roundw
        case rel => exact ⟨k + 1, by omega, by go_num, by trivial, HK3⟩
        case measure => simp [intOf] <;> omega
      · have t97 : ¬ z < 97 := by omega
        have t122 : 122 < z := by omega
        have t48 : ¬ z < 48 := by omega
        have t57 : 57 < z := by omega
        have h5 : r = false := by
          rw [← HK2.out, show ((decide (97 ≤ z) && decide (z ≤ 122)) || (decide (48 ≤ z) && decide (z ≤ 57))) = false by simp; omega]
          rfl
        subst h5
        go_wp2
        go_ret
        exact ⟨rfl, rfl⟩
    · have hi : ¬ (k : Int) < n := by omega
      have h5 : r = true := by
        rw [← HK.out, List.drop_of_length_le (by omega)]
        rfl
      subst h5
      go_wp2
      go_ret
      exact ⟨rfl, rfl⟩
end L19
end Go.Proofs.YteeienmigoebmaaGreatDoor
namespace Go.Proofs.YteeienmigoebmaaGreatDoor
namespace L19
open Go.RowKit L18

/-! Layer 19, the program's side: what is wrong with a program. -/
set_option maxRecDepth 100000 in
set_option maxHeartbeats 4000000 in
theorem prog_any {w : World} (H : Hid (TabW w)) {nm : List UInt8} {ops : List OpV} {oA : Option Addr} {q oc : Nat} (hS : Hid (OpsM w w.heap.size oA oc ops)) (hq : Hid (ops.length = q)) {i all er : Int} (he : Hid (progE i all (nm, ops) = er)) :
    Calls Tryz.prog 28 #[.agg rowsA, .agg #[.string (bs nm), .slice oA q oc], .int .i64 i, .int .i64 all] w fun e w' => e = .returned (.int .i64 er) ∧ Hid (Below w.heap.size w w') := by
  have hee := he.out
  clear he
  unfold progE at hee
  simp only at hee
  obtain ⟨r0, hr0⟩ : ∃ z, Hid (namedB nm = z) := ⟨_, hid rfl⟩
  rw [hr0.out, hq.out] at hee
  go_enter Tryz.func28, Tryz.ntmps28
  go_upto_region 1 with (first
    | (refine bxG rows_sz (by rfl) _ (by rfl) (by rfl) ?_
       intro w1 X1 hw1))
  obtain ⟨u, hu⟩ : ∃ z, z = w1.alloc (.cells #[.string (bs nm), .slice oA q oc] 43) := ⟨_, rfl⟩
  have K1 : Hid (Below w.heap.size w w1) := hid (by rw [hw1.out]; exact (Below.refl _ w).alloc (Nat.le_refl _) _)
  have K2 : Hid (Below w1.heap.size w1 u) := hid (by rw [hu]; exact (Below.refl _ w1).alloc (Nat.le_refl _) _)
  have X2 : Hid (Box u w1.heap.size 43 #[.string (bs nm), .slice oA q oc]) := hid (by rw [hu]; exact Box.new w1 _ _)
  have X3 : Hid (Box u w.heap.size 63 rowsA) := hid (box_below X1.out K2.out)
  have K3 := bel_3 K1 K2
  have H3 := TabW.below H K3.out
  have S3 := ops_up hS K3.out
  obtain ⟨gb, hgb⟩ : ∃ z, w.heap.size = z := ⟨_, rfl⟩
  obtain ⟨g, hg⟩ : ∃ z, w1.heap.size = z := ⟨_, rfl⟩
  rw [← hu]
  rw [hg] at X2
  rw [hgb] at X3
  simp only [hg]
  simp only [hgb]
  clear hu X1 K1 K2 hw1
  have z0 := X2.out.cell 0
  have z1 := X2.out.cell 1
  cases r0
  · rw [if_pos rfl] at hee
    subst hee
    go_wp2_with (first
      | (go_at_call 55
         (with_reducible refine (nameRight_any _ hr0).mono ?_)
         rintro e w2 ⟨rfl, rfl⟩))
    go_ret
    exact ⟨rfl, hgb ▸ K3⟩
  rw [if_neg (by decide)] at hee
  by_cases h64 : 64 < q
  · rw [if_pos h64] at hee
    subst hee
    have h64i : (64 : Int) < q := by omega
    go_wp2_with (first
      | (go_at_call 55
         (with_reducible refine (nameRight_any _ hr0).mono ?_)
         rintro e w2 ⟨rfl, rfl⟩))
    go_ret
    exact ⟨rfl, hgb ▸ K3⟩
  rw [if_neg h64] at hee
  have h64i : ¬ (64 : Int) < q := by omega
  obtain ⟨r1, hr1⟩ : ∃ z, Hid (ops.all (fun o => rightO o i all) = z) := ⟨_, hid rfl⟩
  rw [hr1.out] at hee
  have HE := hid hee
  clear hee
  go_wp2_with (first
    | (go_at_call 55
       (with_reducible refine (nameRight_any _ hr0).mono ?_)
       rintro e w2 ⟨rfl, hw2⟩
       obtain rfl := hw2.symm))
  go_loopw [22] (fun j wr => ∃ k : Nat, k ≤ q ∧ j = .int .i64 (k : Int) ∧ Hid ((ops.drop k).all (fun o => rightO o i all) = r1) ∧ Hid (Below u.heap.size u wr)) (fun j _ => q - (intOf j).toNat)
  case atStart => exact ⟨0, by omega, rfl, hid (by simpa using hr1.out), hid (Below.refl _ _)⟩
  case round =>
    obtain ⟨k, hk, rfl, HR, HB⟩ := hrel
    by_cases hlt : k < q
    · have hi : (k : Int) < q := by omega
      have hi0 : (0 : Int) ≤ k := by omega
      have HLw := ops_up S3 HB.out
      obtain ⟨b, o, x, hA, hr, d0, d1, d2, d3⟩ := HLw.out.at (k := k) (by rw [hq.out]; exact hlt)
      subst hA
      have hdrop : ops.drop k = x :: ops.drop (k + 1) := by
        obtain ⟨h1, h2⟩ := List.getElem?_eq_some_iff.1 hr
        rw [List.drop_eq_getElem_cons h1, h2]
      have HR2 : Hid ((rightO x i all && (ops.drop (k + 1)).all (fun o => rightO o i all)) = r1) := hid (by
        have := HR.out
        rw [hdrop, List.all_cons] at this
        exact this)
      obtain ⟨rx, hrx⟩ : ∃ z, Hid (rightO x i all = z) := ⟨_, hid rfl⟩
      rw [hrx.out] at HR2
      have Hw := TabW.below H3 HB.out
      have X4 := hid (box_below X3.out HB.out)
      have K4 : ∀ ob, Hid (Below u.heap.size u (wr.alloc ob)) := fun ob => hid (HB.out.alloc HB.out.size ob)
      have X5 : ∀ ob, Hid (Box (wr.alloc ob) gb 63 rowsA) := fun ob => hid (box_below X4.out (bel_w wr ob).out)
      have HwA : ∀ ob, Hid (TabW (wr.alloc ob)) := fun ob => TabW.below Hw (bel_w wr ob).out
      clear hdrop hr HR
      cases rx
      · have HF : Hid (r1 = false) := hid (by rw [← HR2.out]; rfl)
        go_wp2_with (first
          | (refine ldG Tryz.underlying63 rfl rows_sz (by rfl) _ (by rfl) _ (by rfl) 63 (X5 _) ?_)
          | (go_at_call 56
             (with_reducible refine (right_any (HwA _) hrx).mono ?_)
             rintro e w5 ⟨rfl, C5⟩))
        go_ret
        refine ⟨?_, hgb ▸ bel_3 K3 (bel_3 (K4 _) C5)⟩
        rw [← HE.out, HF.out]
        rfl
      · have HR3 : Hid ((ops.drop (k + 1)).all (fun o => rightO o i all) = r1) := hid (by simpa using HR2.out)
        go_wp2_with (first
          | (refine ldG Tryz.underlying63 rfl rows_sz (by rfl) _ (by rfl) _ (by rfl) 63 (X5 _) ?_)
          | (go_at_call 56
             (with_reducible refine (right_any (HwA _) hrx).mono ?_)
             rintro e w5 ⟨rfl, C5⟩))
        go_roundw
        case rel => exact ⟨k + 1, by omega, by go_num, HR3, bel_3 (K4 _) C5⟩
        case measure => simp [intOf] <;> omega
    · obtain rfl : k = q := by omega
      have hi : ¬ (k : Int) < k := by omega
      have HF : Hid (r1 = true) := hid (by rw [← HR.out, List.drop_of_length_le (by rw [hq.out]; exact Nat.le_refl _)]; rfl)
      go_wp2
      go_ret
      refine ⟨?_, hgb ▸ bel_3 K3 HB⟩
      rw [← HE.out, HF.out]
      rfl
end L19
end Go.Proofs.YteeienmigoebmaaGreatDoor
namespace Go.Proofs.YteeienmigoebmaaGreatDoor
namespace L19
open Go.RowKit L18

/-! Layer 19, the program's side: a name's program; what is wrong with programs. -/
set_option maxRecDepth 100000 in
set_option maxHeartbeats 2000000 in
theorem findp_any (w : World) (A : Option Addr) (n c : Nat) (X : List PgX) (hl : Hid (PgM w w.heap.size A c X)) (hn : X.length = n) (s : List UInt8) {i : Int} {r : Bool} (hr : Hid (findP (prL X) s 0 = (i, r))) :
    Calls Tryz.prog 29 #[.slice A n c, .string (bs s)] w fun e w' => e = .returned (.tuple #[.int .i64 i, .bool r]) ∧ Hid (Below w.heap.size w w') := by
  have HN := hid hn
  have hcap : n ≤ maxLen := by rw [← hn]; exact Nat.le_trans hl.out.len hl.out.cap
  unfold maxLen at hcap
  go_enter Tryz.func29, Tryz.ntmps29
  go_wp2
  go_loopw [10] (fun j wr => ∃ k : Nat, k ≤ n ∧ j = .int .i64 k ∧ Hid (Below w.heap.size w wr) ∧ Hid (findP ((prL X).drop k) s k = (i, r))) (fun j _ => n - (intOf j).toNat)
  case atStart => exact ⟨0, Nat.zero_le _, rfl, hid (Below.refl _ _), hr⟩
  case round =>
    obtain ⟨k, hk, rfl, HB, HF⟩ := hrel
    by_cases hlt : k < n
    · have hi2 : (k : Int) < n := by omega
      obtain ⟨b, o, x, hA, hx, c0, c1, _⟩ := (pg_up hl HB.out).out.at (k := k) (by rw [hn]; exact hlt)
      subst hA
      have hd : (prL X).drop k = x.1 :: (prL X).drop (k + 1) := by
        have h0 : (prL X)[k]? = some x.1 := by simp [prL, hx]
        obtain ⟨h1, h2⟩ := List.getElem?_eq_some_iff.1 h0
        rw [List.drop_eq_getElem_cons h1, h2]
      have HF2 : Hid ((if x.1.1 = s then ((k : Int), true) else findP ((prL X).drop (k + 1)) s (k + 1)) = (i, r)) := hid (by
        have := HF.out
        rw [hd] at this
        exact this)
      obtain ⟨⟨nm, ops⟩, oA, oc⟩ := x
      simp only at c0 c1 HF2
      have BZ := fun ob => bel_al (o := ob) HB
      have hw7 : IntKind.i64.wrap ((k : Int) + 1) = (k : Int) + 1 := IntWalk.i64_in _ (by omega)
      clear hd hx HF
      by_cases hs : nm = s
      · have t1 : ((bs nm).toList == (bs s).toList) = true := by rw [str_eqb]; simp [hs]
        have h5 : (k : Int) = i ∧ true = r := by
          have := HF2.out
          rw [if_pos hs] at this
          injection this with h1 h2
          exact ⟨h1, h2⟩
        obtain ⟨rfl, rfl⟩ := h5
        clear hs HF2
        go_wp2
        go_ret2
        exact ⟨rfl, BZ _⟩
      · have t1 : ((bs nm).toList == (bs s).toList) = false := by rw [str_eqb]; simp [hs]
        have HF3 : Hid (findP ((prL X).drop (k + 1)) s (k + 1) = (i, r)) := hid (by rw [← HF2.out, if_neg hs])
        clear hs HF2
        go_wp2
        go_roundw
        case rel => exact ⟨k + 1, by omega, by go_num, BZ _, HF3⟩
        case measure => simp [intOf] <;> omega
    · have hi2 : ¬ (k : Int) < n := by omega
      have h5 : 0 = i ∧ false = r := by
        have := HF.out
        rw [List.drop_of_length_le (by rw [prL_len, HN.out]; omega)] at this
        injection this with h1 h2
        exact ⟨h1, h2⟩
      obtain ⟨rfl, rfl⟩ := h5
      go_wp2
      go_ret2
      exact ⟨rfl, HB⟩
set_option maxRecDepth 100000 in
set_option maxHeartbeats 4000000 in
theorem check_one {w : World} (H : Hid (TabW w)) {A : Option Addr} {n c : Nat} {X : List PgX} (hl : Hid (PgM w w.heap.size A c X)) (HN : Hid (X.length = n)) {e0 : Int} (he : Hid (checkP (prL X) = e0)) :
    Calls Tryz.prog 15 #[.slice A n c] w fun e w' => e = .returned (.int .i64 e0) ∧ Hid (Below w.heap.size w w') := by
  have HL : Hid ((prL X).length = n) := hid (by rw [prL_len]; exact HN.out)
  have hcc := he.out
  clear he
  unfold checkP at hcc
  rw [HL.out] at hcc
  have hcap : n ≤ maxLen := by rw [← HN.out]; exact Nat.le_trans hl.out.len hl.out.cap
  unfold maxLen at hcap
  go_enter Tryz.func15, Tryz.ntmps15
  by_cases h1 : n < 1
  · have h5 : e0 = 5 := by rw [← hcc, if_pos (.inl h1)]
    subst h5
    have h2 : (n : Int) < 1 := by omega
    go_wp2
    go_ret
    exact ⟨rfl, hid (Below.refl _ _)⟩
  by_cases h3 : 32 < n
  · have h5 : e0 = 5 := by rw [← hcc, if_pos (.inr h3)]
    subst h5
    have h2 : ¬ (n : Int) < 1 := by omega
    have h4 : (n : Int) > 32 := by omega
    go_wp2
    go_ret
    exact ⟨rfl, hid (Below.refl _ _)⟩
  rw [if_neg (by omega)] at hcc
  have h2 : ¬ (n : Int) < 1 := by omega
  have h4 : ¬ (n : Int) > 32 := by omega
  obtain ⟨e1, hs1⟩ : ∃ z, Hid (scanE n 0 (prL X) = z) := ⟨_, hid rfl⟩
  rw [hs1.out] at hcc
  have HC := hid hcc
  clear hcc
  go_wp2_with (first
    | (go_at_call 18
       (with_reducible refine (allRows_any _).mono ?_)
       rintro e w1 ⟨rfl, C1⟩)
    | (refine stG rows_sz rows_one (by rfl) _ _ (by rfl) _ (by rfl) (by rfl) 63 Tryz.zeroCells63 (hid (Box.new w1 _ _)) (by kernel_rfl) ?_
       intro w2 X2 hw2
       have K2 := set_up (hid (C1.out.alloc C1.out.size _)) hw2 C1.out.size))
  obtain ⟨g, hg⟩ : ∃ z, w1.heap.size = z := ⟨_, rfl⟩
  rw [hg] at X2
  simp only [hg]
  have H2 := TabW.below H K2.out
  clear hw2 C1 hg
  go_loopw [22] (fun j wr => ∃ k : Nat, k ≤ n ∧ j = .int .i64 (k : Int) ∧ Hid (Below w2.heap.size w2 wr) ∧ Hid (scanE n k ((prL X).drop k) = e1)) (fun j _ => n - (intOf j).toNat)
  case atStart => exact ⟨0, Nat.zero_le _, rfl, hid (Below.refl _ _), hs1⟩
  case round =>
    obtain ⟨k, hk, rfl, HB2, HS⟩ := hrel
    have HB := bel_3 K2 HB2
    by_cases hlt : k < n
    · have hi2 : (k : Int) < n := by omega
      have L1 := pg_up hl HB.out
      obtain ⟨b, o, x, hA, hx, c0, c1, hS⟩ := L1.out.at (k := k) (by rw [HN.out]; exact hlt)
      subst hA
      have hd : (prL X).drop k = x.1 :: (prL X).drop (k + 1) := by
        have h0 : (prL X)[k]? = some x.1 := by simp [prL, hx]
        obtain ⟨h1, h2⟩ := List.getElem?_eq_some_iff.1 h0
        rw [List.drop_eq_getElem_cons h1, h2]
      obtain ⟨⟨nm, ops⟩, oA, oc⟩ := x
      simp only at c0 c1 hS
      obtain ⟨q, hq⟩ : ∃ z, Hid (ops.length = z) := ⟨_, hid rfl⟩
      rw [hq.out] at c1
      have S1 := hid hS
      obtain ⟨ep, hep⟩ : ∃ z, Hid (progE k n (nm, ops) = z) := ⟨_, hid rfl⟩
      have HS2 : Hid ((if ep ≠ 0 then ep else scanE n (k + 1) ((prL X).drop (k + 1))) = e1) := hid (by
        have := HS.out
        rw [hd, scanE] at this
        simp only [hep.out] at this
        exact this)
      have hw7 : IntKind.i64.wrap ((k : Int) + 1) = (k : Int) + 1 := IntWalk.i64_in _ (by omega)
      have X4 := hid (box_below X2.out HB2.out)
      have K4 : ∀ ob, Hid (Below w2.heap.size w2 (wr.alloc ob)) := fun ob => hid (HB2.out.alloc HB2.out.size ob)
      have X5 : ∀ ob, Hid (Box (wr.alloc ob) g 63 rowsA) := fun ob => hid (box_below X4.out (bel_w wr ob).out)
      have Hw : ∀ ob, Hid (TabW (wr.alloc ob)) := fun ob => TabW.below H2 (K4 ob).out
      have S5 : ∀ ob, Hid (OpsM (wr.alloc ob) (wr.alloc ob).heap.size oA oc ops) := fun ob => ops_up S1 (bel_w wr ob).out
      clear hd hx hS HS
      by_cases h0 : ep = 0
      · have HS3 : Hid (scanE n (k + 1) ((prL X).drop (k + 1)) = e1) := hid (by have := HS2.out; simpa [h0] using this)
        rw [h0] at hep
        clear h0 HS2
        go_wp2_with (first
          | (refine ldG Tryz.underlying63 rfl rows_sz (by rfl) _ (by rfl) _ (by rfl) 63 (X5 _) ?_)
          | (go_at_call 28
             (with_reducible refine (prog_any (Hw _) (S5 _) hq hep).mono ?_)
             rintro e w5 ⟨rfl, C5⟩))
        go_roundw
        case rel => exact ⟨k + 1, by omega, by go_num, bel_3 (K4 _) C5, HS3⟩
        case measure => simp [intOf] <;> omega
      · have h6 : e1 = ep := by rw [← HS2.out, if_pos h0]
        have h7 : e0 = ep := by
          rw [← HC.out, h6, if_pos h0]
        have tb : (ep != 0) = true := by simp [h0]
        subst h7
        clear HS2 HC h6 h0
        go_wp2_with (first
          | (refine ldG Tryz.underlying63 rfl rows_sz (by rfl) _ (by rfl) _ (by rfl) 63 (X5 _) ?_)
          | (go_at_call 28
             (with_reducible refine (prog_any (Hw _) (S5 _) hq hep).mono ?_)
             rintro e w5 ⟨rfl, C5⟩))
        go_ret
        exact ⟨rfl, bel_3 K2 (bel_3 (K4 _) C5)⟩
    · have hi2 : ¬ (k : Int) < n := by omega
      have h6 : e1 = 0 := by
        rw [← HS.out, List.drop_of_length_le (by rw [HL.out]; omega)]
        rfl
      subst h6
      have HC2 : Hid ((if namesN (prL X) = false then (4 : Int) else 0) = e0) := hid (by have := HC.out; simpa using this)
      clear HS HC
      have L1 := pg_up hl HB.out
      go_wp2
      go_loopw [39] (fun j wq => ∃ m : Nat, m ≤ n ∧ j = .int .i64 m ∧ Hid (Below wr.heap.size wr wq) ∧ Hid (∀ j p, j < m → (prL X)[j]? = some p → (findP (prL X) p.1 0).1 = (j : Int))) (fun j _ => n - (intOf j).toNat)
      case atStart => exact ⟨0, Nat.zero_le _, rfl, hid (Below.refl _ _), hid (fun j p h => by omega)⟩
      case round =>
        obtain ⟨m, hm, rfl, HBm, HF⟩ := hrel
        by_cases hmn : m < n
        · have hij : (m : Int) < n := by omega
          have L2 := pg_up L1 HBm.out
          obtain ⟨b9, o9, x, hA9, hx, f0, f1, _⟩ := L2.out.at (k := m) (by rw [HN.out]; exact hmn)
          have hxm : (prL X)[m]? = some x.1 := by simp [prL, hx]
          have HX := hid hxm
          subst hA9
          obtain ⟨⟨nm, ops⟩, oA, oc⟩ := x
          simp only at f0 f1 HX
          obtain ⟨fi, fr, hf⟩ : ∃ a b, Hid (findP (prL X) nm 0 = (a, b)) := ⟨_, _, hid rfl⟩
          have hw8 : IntKind.i64.wrap ((m : Int) + 1) = (m : Int) + 1 := IntWalk.i64_in _ (by omega)
          have B8 := fun ob => bel_al (o := ob) HBm
          have k1 := fun ob => (Below.refl _ wr).alloc (Nat.le_refl _) ob
          clear hx hxm
          by_cases hfm : fi = (m : Int)
          · subst hfm
            have HF2 : Hid (∀ j p, j < m + 1 → (prL X)[j]? = some p → (findP (prL X) p.1 0).1 = (j : Int)) := hid (fun j p hj hp => by
              by_cases hjm : j = m
              · subst hjm
                rw [HX.out] at hp
                obtain rfl := Option.some.inj hp
                rw [hf.out]
              · exact HF.out j p (by omega) hp)
            go_wp2_with (first
              | (go_at_call 29
                 (with_reducible refine (findp_any _ _ n c X (pg_up L2 (k1 _)) HN.out nm hf).mono ?_)
                 rintro e w6 ⟨rfl, C6⟩
                 have B6 := bel_t (B8 _) C6.out))
            go_roundw
            case rel => exact ⟨m + 1, by omega, by go_num, B6, HF2⟩
            case measure => simp [intOf] <;> omega
          · have h5 : e0 = 4 := by
              rw [← HC2.out, if_pos (names_not HX.out (by rw [hf.out]; exact hfm))]
            subst h5
            go_wp2_with (first
              | (go_at_call 29
                 (with_reducible refine (findp_any _ _ n c X (pg_up L2 (k1 _)) HN.out nm hf).mono ?_)
                 rintro e w6 ⟨rfl, C6⟩
                 have B6 := bel_t (B8 _) C6.out))
            go_ret
            exact ⟨rfl, bel_t HB B6.out⟩
        · have hij : ¬ (m : Int) < n := by omega
          have h5 : e0 = 0 := by
            rw [← HC2.out, names_of (fun j p hp => HF.out j p (by
              have := (List.getElem?_eq_some_iff.1 hp).1
              rw [HL.out] at this
              omega) hp)]
            simp
          subst h5
          go_wp2
          go_ret
          exact ⟨rfl, bel_t HB HBm.out⟩
end L19
end Go.Proofs.YteeienmigoebmaaGreatDoor
