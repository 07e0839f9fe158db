import Derived.Test.YteeienmigoebmaaGreatDoorKC
namespace Go.Proofs.YteeienmigoebmaaGreatDoor
namespace L19
open Go.RowKit L18

/-! Layer 19, the program's side: work. -/
theorem most_is : most = 1073741824 := rfl
set_option maxRecDepth 100000 in
set_option maxHeartbeats 1000000 in
theorem more_any (w : World) {a b v : Nat} (ha : a ≤ 1073741824) (hb : b ≤ 1073741824) (hv : Hid (min (a + b) 1073741824 = v)) : Calls Tryz.prog 57 #[.int .i64 (a : Int), .int .i64 (b : Int)] w fun e w' => e = .returned (.int .i64 (v : Int)) ∧ w' = w := by
  have e1 : IntKind.i64.wrap (1073741824 - (a : Int)) = 1073741824 - (a : Int) := IntWalk.i64_in _ (by omega)
  by_cases h : b ≤ 1073741824 - a
  · have hm : (if 1073741824 - (a : Int) < (b : Int) then 1073741824 - (a : Int) else (b : Int)) = (b : Int) := if_neg (by omega)
    have h2 : ¬ 1073741824 - (a : Int) < (b : Int) := by omega
    have e2 : IntKind.i64.wrap ((a : Int) + (b : Int)) = (v : Int) := by rw [IntWalk.i64_in _ (by omega), ← hv.out]; omega
    clear hv
    go_enter Tryz.func57, Tryz.ntmps57
    go_wp2
    go_ret
    simp
  · have h2 : 1073741824 - (a : Int) < (b : Int) := by omega
    have e2 : IntKind.i64.wrap ((a : Int) + (1073741824 - (a : Int))) = (v : Int) := by rw [IntWalk.i64_in _ (by omega), ← hv.out]; omega
    clear hv
    go_enter Tryz.func57, Tryz.ntmps57
    go_wp2
    go_ret
    simp
theorem more_1 (w : World) {a v : Nat} (ha : a ≤ 1073741824) (hv : Hid (min (a + 1) 1073741824 = v)) : Calls Tryz.prog 57 #[.int .i64 (a : Int), .int .i64 1] w fun e w' => e = .returned (.int .i64 (v : Int)) ∧ w' = w := more_any w (b := 1) ha (by omega) hv
theorem min_two (m z M : Nat) : min (min (m + 1) M + z) M = min (m + 1 + z) M := by omega
theorem cells_arr (L : List Int) (hL : L.length = 32) : (Tryz.prog.info? 86).map (·.size) = some (arr L).size := by rw [arr_size hL]; exact Tryz.size32R
theorem arr_c {L : List Int} {j : Nat} {z : Int} (h : L[j]? = some z) : (arr L)[j]? = some (.int .i64 z) := by
  simp [arr, iv, h]
set_option maxRecDepth 100000 in
set_option maxHeartbeats 4000000 in
theorem workOf_any {w : World} {ops : List OpV} {oA : Option Addr} {q oc : Nat} (hS : Hid (OpsM w w.heap.size oA oc ops)) (hq : Hid (ops.length = q)) (hq2 : q ≤ 1000) {L : List Int} (hL : Hid (L.length = 32)) (W : Int → Nat)
    (hW : Hid (∀ o ∈ ops, (o.1 = 5 ∨ o.1 = 6) → ∃ j : Nat, j < 32 ∧ o.2.1 = (j : Int) ∧ L[j]? = some (W o.2.1 : Int) ∧ W o.2.1 ≤ 1073741824)) {v : Nat} (hv : Hid (opsW W 0 ops = v)) :
    Calls Tryz.prog 30 #[.slice oA q oc, .agg (arr L)] w fun e w' => e = .returned (.int .i64 (v : Int)) ∧ Hid (Below w.heap.size w w') := by
  go_enter Tryz.func30, Tryz.ntmps30
  go_upto_region 1 with (first
    | (refine bxG (cells_arr L hL.out) (by rfl) _ (by rfl) (by rfl) ?_
       intro u X1 hu))
  have K1 : Hid (Below w.heap.size w u) := hid (by rw [hu.out]; exact (Below.refl _ w).alloc (Nat.le_refl _) _)
  have S1 := ops_up hS K1.out
  obtain ⟨g, hg⟩ : ∃ z, w.heap.size = z := ⟨_, rfl⟩
  rw [hg] at X1
  simp only [hg]
  clear hu
  go_wp2
  go_loopw [5, 10] (fun nv i wr => ∃ k m : Nat, k ≤ q ∧ m ≤ 1073741824 ∧ nv = .int .i64 (m : Int) ∧ i = .int .i64 (k : Int) ∧ Hid (opsW W m (ops.drop k) = v) ∧ Hid (Below u.heap.size u wr)) (fun _ i _ => q - (intOf i).toNat)
  case atStart => exact ⟨0, 0, by omega, by omega, rfl, rfl, hid (by simpa using hv.out), hid (Below.refl _ _)⟩
  case round =>
    obtain ⟨k, m, hk, hm, rfl, rfl, HV, HB⟩ := hrel
    by_cases hlt : k < q
    · have hi : (k : Int) < q := by omega
      have hi0 : (0 : Int) ≤ k := by omega
      obtain ⟨b, o, x, hA, hr, d0, d1, d2, d3⟩ := (ops_up S1 HB.out).out.at (k := k) (by rw [hq.out]; exact hlt)
      subst hA
      have hdrop : ops.drop k = x :: ops.drop (k + 1) := by
        obtain ⟨h1, h2⟩ := List.getElem?_eq_some_iff.1 hr
        rw [List.drop_eq_getElem_cons h1, h2]
      have hWx := hW.out x (List.mem_of_getElem? hr)
      obtain ⟨kd, a, bb, t⟩ := x
      simp only at d0 d1 d2 d3 hWx
      have HV2 := HV.out
      rw [hdrop, opsW] at HV2
      simp only [most_is] at HV2
      have B8 : ∀ ob, Hid (Below u.heap.size u (wr.alloc ob)) := fun ob => hid (HB.out.alloc HB.out.size ob)
      obtain ⟨m1, hm1⟩ : ∃ z, Hid (min (m + 1) 1073741824 = z) := ⟨_, hid rfl⟩
      have hm1l : m1 ≤ 1073741824 := by rw [← hm1.out]; omega
      clear hdrop hr HV
      by_cases h5 : kd = 5
      · subst h5
        obtain ⟨j, hj, rfl, hLj, hWj⟩ := hWx (.inl rfl)
        obtain ⟨z, hz⟩ : ∃ z, W (j : Int) = z := ⟨_, rfl⟩
        rw [hz] at hLj hWj
        obtain ⟨m2, hm2⟩ : ∃ y, Hid (min (m1 + z) 1073741824 = y) := ⟨_, hid rfl⟩
        have hm2l : m2 ≤ 1073741824 := by rw [← hm2.out]; omega
        have HV3 : Hid (opsW W m2 (ops.drop (k + 1)) = v) := hid (by
          rw [if_neg (by decide)] at HV2
          rw [← HV2, ← hm2.out, ← hm1.out, min_two]
          simp only [extraW, true_or, if_true, hz])
        have y0 : ∀ ob, (wr.alloc ob).cell? ⟨g, j, none⟩ = some (.int .i64 (z : Int)) := fun ob => ((box_below X1.out (B8 ob).out).cell j).trans (arr_c hLj)
        have hj2 : (j : Int) < 32 := by omega
        have hj3 : (0 : Int) ≤ j := by omega
        clear HV2 hWx hz hLj
        go_wp2_with (first
          | (go_at_call 57
             (with_reducible refine (more_1 _ hm hm1).mono ?_)
             rintro e v1 ⟨rfl, hv1⟩
             obtain rfl := hv1.symm)
          | (go_at_call 57
             (with_reducible refine (more_any _ hm1l hWj hm2).mono ?_)
             rintro e v1 ⟨rfl, hv1⟩
             obtain rfl := hv1.symm))
        go_roundw
        case rel => exact ⟨k + 1, m2, by omega, hm2l, rfl, by go_num, HV3, B8 _⟩
        case measure => simp [intOf] <;> omega
      have t5 : (kd == 5) = false := by simp [h5]
      by_cases h6 : kd = 6
      · subst h6
        obtain ⟨j, hj, rfl, hLj, hWj⟩ := hWx (.inr rfl)
        obtain ⟨z, hz⟩ : ∃ z, W (j : Int) = z := ⟨_, rfl⟩
        rw [hz] at hLj hWj
        have HV3 : Hid (min (m1 + z) 1073741824 = v) := hid (by
          rw [if_pos (.inr rfl)] at HV2
          rw [← HV2, ← hm1.out, min_two]
          simp only [extraW, or_true, if_true, hz])
        have y0 : ∀ ob, (wr.alloc ob).cell? ⟨g, j, none⟩ = some (.int .i64 (z : Int)) := fun ob => ((box_below X1.out (B8 ob).out).cell j).trans (arr_c hLj)
        have hj2 : (j : Int) < 32 := by omega
        have hj3 : (0 : Int) ≤ j := by omega
        clear HV2 hWx hz hLj h5
        go_wp2_with (first
          | (go_at_call 57
             (with_reducible refine (more_1 _ hm hm1).mono ?_)
             rintro e v1 ⟨rfl, hv1⟩
             obtain rfl := hv1.symm)
          | (go_at_call 57
             (with_reducible refine (more_any _ hm1l hWj HV3).mono ?_)
             rintro e v1 ⟨rfl, hv1⟩
             obtain rfl := hv1.symm))
        go_ret
        exact ⟨rfl, hg ▸ bel_3 K1 (B8 _)⟩
      have t6 : (kd == 6) = false := by simp [h6]
      have hex : extraW W (kd, a, bb, t) = 0 := by simp [extraW, h5, h6]
      rw [hex, Nat.add_zero] at HV2
      by_cases h1 : kd = 1
      · subst h1
        have HV3 : Hid (min (m + 1) 1073741824 = v) := hid (by
          rw [if_pos (.inl rfl)] at HV2
          exact HV2)
        clear HV2 hWx hex h5 h6
        go_wp2_with (first
          | (go_at_call 57
             (with_reducible refine (more_1 _ hm HV3).mono ?_)
             rintro e v1 ⟨rfl, hv1⟩
             obtain rfl := hv1.symm))
        go_ret
        exact ⟨rfl, hg ▸ bel_3 K1 (B8 _)⟩
      · have t1 : (kd == 1) = false := by simp [h1]
        have HV3 : Hid (opsW W m1 (ops.drop (k + 1)) = v) := hid (by
          rw [if_neg (by rintro (h | h); exact h1 h; exact h6 h)] at HV2
          rw [← hm1.out]
          exact HV2)
        clear HV2 hWx hex h5 h6 h1
        go_wp2_with (first
          | (go_at_call 57
             (with_reducible refine (more_1 _ hm hm1).mono ?_)
             rintro e v1 ⟨rfl, hv1⟩
             obtain rfl := hv1.symm))
        go_roundw
        case rel => exact ⟨k + 1, m1, by omega, hm1l, rfl, by go_num, HV3, B8 _⟩
        case measure => simp [intOf] <;> omega
    · obtain rfl : k = q := by omega
      have hi : ¬ (k : Int) < k := by omega
      have hmv : m = v := by
        have := HV.out
        rw [List.drop_of_length_le (by rw [hq.out]; exact Nat.le_refl _)] at this
        exact this
      subst hmv
      go_wp2
      go_ret
      exact ⟨rfl, hg ▸ bel_3 K1 HB⟩
end L19
end Go.Proofs.YteeienmigoebmaaGreatDoor
namespace Go.Proofs.YteeienmigoebmaaGreatDoor
namespace L19
open Go.RowKit L18

/-! Layer 19, the program's side: Work. -/
/-- What is known of the later programs' work. -/
def WkL (l : List ProgV) (n a : Nat) (L : List Int) : Prop := L.length = 32 ∧ ∀ j, a ≤ j → j < n → L[j]? = some ((wOf l (j : Int) : Nat) : Int)
theorem wk_set {l : List ProgV} {n a : Nat} {L : List Int} (h : WkL l n (a + 1) L) (ha : a < 32) {v : Nat} (hv : wOf l (a : Int) = v) : WkL l n a (L.set a (v : Int)) := by
  refine ⟨by rw [List.length_set]; exact h.1, fun j h1 h2 => ?_⟩
  by_cases e : a = j
  · subst e
    rw [List.getElem?_set_self (by rw [h.1]; exact ha), hv]
  · rw [List.getElem?_set_ne e]
    exact h.2 j (by omega) h2
theorem wk_ops {l : List ProgV} (h : checkP l = 0) {a : Nat} {p : ProgV} (hp : l[a]? = some p) {L : List Int} (hk : WkL l l.length (a + 1) L) : ∀ o ∈ p.2, (o.1 = 5 ∨ o.1 = 6) → ∃ j : Nat, j < 32 ∧ o.2.1 = (j : Int) ∧ L[j]? = some ((wOf l o.2.1 : Nat) : Int) ∧ wOf l o.2.1 ≤ 1073741824 := by
  intro o ho hk2
  have h1 := right_later ((check_at h hp).2.2 o ho) hk2
  have h2 := (check_scan h).2.1
  obtain ⟨j, hj⟩ := Int.eq_ofNat_of_zero_le (show 0 ≤ o.2.1 by omega)
  have hjl : j < l.length := by omega
  refine ⟨j, by omega, hj, ?_, ?_⟩
  · rw [hj]
    exact hk.2 j (by omega) hjl
  · rw [hj, (work_at h (List.getElem?_eq_getElem hjl)).2]
    exact work_most h hjl
theorem wk_v {l : List ProgV} (h : checkP l = 0) {a : Nat} {p : ProgV} (hp : l[a]? = some p) : opsW (fun z => wOf l z) 0 p.2 = wOf l (a : Int) := by
  rw [opsW_sum _ _ _ (Nat.zero_le _), Nat.zero_add]
  obtain ⟨h1, h2⟩ := work_at h hp
  rw [h2, h1]
def isI (w : World) : Value → Bool
  | .pointer (some ⟨g, 0, none⟩) => match w.heap[g]? with
    | some (.cells cs t fr) => decide (t = 86) && decide (fr = (0, 0)) && decide (cs.size = 32)
    | _ => false
  | _ => false
def csI (w : World) : Value → Array Value
  | .pointer (some ⟨g, 0, none⟩) => match w.heap[g]? with
    | some (.cells cs _ _) => cs
    | _ => #[]
  | _ => #[]
theorem isI_box {w : World} {v : Value} (h : isI w v = true) : ∃ g, v = .pointer (some ⟨g, 0, none⟩) ∧ Box w g 86 (csI w v) ∧ (csI w v).size = 32 := by
  unfold isI at h
  split at h
  · rename_i g
    refine ⟨g, rfl, ?_⟩
    split at h
    · rename_i cs t fr he
      simp only [Bool.and_eq_true, decide_eq_true_eq] at h
      obtain ⟨⟨rfl, rfl⟩, h3⟩ := h
      unfold csI Box
      simp [he, h3]
    · cases h
  · cases h
theorem isI_of {w : World} {g : Nat} {L : List Int} (h : Box w g 86 (arr L)) (hl : L.length = 32) : isI w (.pointer (some ⟨g, 0, none⟩)) = true ∧ csI w (.pointer (some ⟨g, 0, none⟩)) = arr L := by
  unfold Box at h
  unfold isI csI
  simp only [h]
  simp [arr_size hl]
theorem wp_ldI {dst : Option Tmp} {x : Operand} {ty : TypeId} {pos : String} {after : Array Edge} {gd : Option (Nat × Bool)} {a : Act} {w : World} {K : Act → World → Prop} {Q : Exit → Act → World → Prop} (h : isI w (a.eval x) = true) :
    Oper.wp Tryz.prog { dst, op := .load 86 x, type := ty, pos, after, guard := gd } a w K Q = K (a.put dst (.agg (csI w (a.eval x)))) w := by
  obtain ⟨g, hx, hb, hs⟩ := isI_box h
  generalize csI w (a.eval x) = cs at *
  unfold Oper.wp execOp
  simp only [hx, Instr.loadAt, Instr.sureAddr, Sem.run_bind, Sem.run_pure, Result.andThen_ok, run_loadVar_row (P := Tryz.prog) w g 86 86 _ (0, 0) _ hb Tryz.underlying86 rfl (by rw [hs]; exact Tryz.size32R)]
  rfl
attribute [local go_sem ↓] wp_ldI
set_option maxRecDepth 100000 in
set_option maxHeartbeats 4000000 in
theorem work_one {w : World} (H : Hid (TabW w)) {A : Option Addr} {n c : Nat} {X : List PgX} (hl : Hid (PgM w w.heap.size A c X)) (hn : Hid (X.length = n)) {i : Int} {v : Nat} (he : Hid (workP (prL X) i = v)) :
    Calls Tryz.prog 16 #[.slice A n c, .int .i64 i] w fun e w' => e = .returned (.int .i64 (v : Int)) ∧ Hid (Below w.heap.size w w') := by
  obtain ⟨e0, he0⟩ : ∃ z, Hid (checkP (prL X) = z) := ⟨_, hid rfl⟩
  have HL : Hid ((prL X).length = n) := hid (by rw [prL_len]; exact hn.out)
  have hcap : n ≤ maxLen := by rw [← hn.out]; exact Nat.le_trans hl.out.len hl.out.cap
  unfold maxLen at hcap
  by_cases h0 : ¬ e0 = 0
  · have h5 : v = 0 := by rw [← he.out]; unfold workP; rw [he0.out, if_pos (.inl h0)]
    subst h5
    have t0 : (e0 != 0) = true := by simp [h0]
    clear h0 he
    go_enter Tryz.func16, Tryz.ntmps16
    go_wp2_with (first
      | (go_at_call 15
         (with_reducible refine (check_one H hl hn he0).mono ?_)
         rintro e w1 ⟨rfl, C1⟩))
    go_ret
    exact ⟨rfl, C1⟩
  have h0' : e0 = 0 := by omega
  subst h0'
  have hck := he0.out
  clear h0
  by_cases h1 : i < 0
  · have h5 : v = 0 := by rw [← he.out]; unfold workP; rw [if_pos (.inr (.inl h1))]
    subst h5
    clear he
    go_enter Tryz.func16, Tryz.ntmps16
    go_wp2_with (first
      | (go_at_call 15
         (with_reducible refine (check_one H hl hn he0).mono ?_)
         rintro e w1 ⟨rfl, C1⟩))
    go_ret
    exact ⟨rfl, C1⟩
  obtain ⟨m, rfl⟩ := Int.eq_ofNat_of_zero_le (show 0 ≤ i by omega)
  by_cases h2 : n ≤ m
  · have h5 : v = 0 := by rw [← he.out]; unfold workP; rw [HL.out, if_pos (.inr (.inr (by omega)))]
    subst h5
    have h2i : (n : Int) ≤ m := by omega
    clear he
    go_enter Tryz.func16, Tryz.ntmps16
    go_wp2_with (first
      | (go_at_call 15
         (with_reducible refine (check_one H hl hn he0).mono ?_)
         rintro e w1 ⟨rfl, C1⟩))
    go_ret
    exact ⟨rfl, C1⟩
  have h2i : ¬ (n : Int) ≤ m := by omega
  have hmn : m < n := by omega
  have HV : Hid (wOf (prL X) (m : Int) = v) := hid (by
    rw [← he.out]
    exact (work_at hck (List.getElem?_eq_getElem (by rw [HL.out]; exact hmn))).2)
  have hck2 := (check_scan hck).2.1
  rw [HL.out] at hck2
  have e1 : IntKind.i64.wrap ((n : Int) - 1) = (n : Int) - 1 := IntWalk.i64_in _ (by omega)
  clear he h1
  go_enter Tryz.func16, Tryz.ntmps16
  go_upto_region 4 with (first
    | (go_at_call 15
       (with_reducible refine (check_one H hl hn he0).mono ?_)
       rintro e w1 ⟨rfl, C1⟩))
  obtain ⟨u, hu⟩ : ∃ z, z = w1.alloc (.cells (arr zero32) 86) := ⟨_, rfl⟩
  have XR : Hid (Box u w1.heap.size 86 (arr zero32)) := hid (by rw [hu]; exact Box.new w1 _ _)
  have KR : Hid (Below w.heap.size w u) := hid (by rw [hu]; exact C1.out.alloc C1.out.size _)
  have hgw : w.heap.size ≤ w1.heap.size := C1.out.size
  rw [zero_arr] at hu
  rw [← hu]
  clear hu
  obtain ⟨g, hg⟩ : ∃ z, w1.heap.size = z := ⟨_, rfl⟩
  rw [hg] at XR hgw
  simp only [hg]
  clear hg C1
  go_wp2
  go_loopw [6] (fun j wr => ∃ (a : Nat) (L : List Int), m ≤ a ∧ a ≤ n ∧ j = .int .i64 ((a : Int) - 1) ∧ Hid (WkL (prL X) n a L) ∧ Hid (Box wr g 86 (arr L)) ∧ Hid (Below w.heap.size w wr)) (fun j _ => (intOf j + 1 - m).toNat)
  case atStart => exact ⟨n, zero32, by omega, by omega, rfl, hid ⟨rfl, fun j h1 h2 => absurd h2 (by omega)⟩, XR, KR⟩
  case round =>
    obtain ⟨a, L, ham, han, rfl, HW, XB, HB⟩ := hrel
    by_cases hlt : m < a
    · obtain ⟨a, rfl⟩ : ∃ z, a = z + 1 := ⟨a - 1, by omega⟩
      have e2 : ((a + 1 : Nat) : Int) - 1 = (a : Int) := by omega
      simp only [e2]
      have hi : (m : Int) ≤ a := by omega
      have hi0 : (0 : Int) ≤ a := by omega
      have hin : (a : Int) < n := by omega
      have hi32 : (a : Int) < 32 := by omega
      have e3 : IntKind.i64.wrap ((a : Int) - 1) = (a : Int) - 1 := IntWalk.i64_in _ (by omega)
      have L1 := pg_up hl HB.out
      obtain ⟨b, o, x, hA, hx, c0, c1, hS⟩ := L1.out.at (k := a) (by rw [hn.out]; omega)
      subst hA
      have hp : (prL X)[a]? = some x.1 := by simp [prL, hx]
      have HWO := hid (wk_ops hck hp (L := L) (by rw [HL.out]; exact HW.out))
      have HVO := hid (wk_v hck hp)
      have hq64 := (check_at hck hp).2.1
      have HL32 : Hid (L.length = 32) := hid HW.out.1
      obtain ⟨⟨nm, ops⟩, oA, oc⟩ := x
      simp only at c0 c1 hS HWO HVO hq64
      obtain ⟨q, hq⟩ : ∃ z, Hid (ops.length = z) := ⟨_, hid rfl⟩
      rw [hq.out] at c1 hq64
      obtain ⟨vv, hvv⟩ : ∃ z, Hid (wOf (prL X) (a : Int) = z) := ⟨_, hid rfl⟩
      rw [hvv.out] at HVO
      have HW2 := hid (wk_set HW.out (by omega) hvv.out)
      have S1 : ∀ W, Hid (Below wr.heap.size wr W) → Hid (OpsM W W.heap.size oA oc ops) := fun W h => ops_up (hid hS) h.out
      have XW : ∀ W, Hid (Below wr.heap.size wr W) → Hid (Box W g 86 (arr L)) := fun W h => hid (box_below XB.out h.out)
      have hgr : g < wr.heap.size := XB.out.lt
      obtain ⟨zl, hzl⟩ : ∃ z, (arr L)[a]? = some (.int .i64 z) := ⟨L[a]'(by rw [HL32.out]; omega), arr_c (List.getElem?_eq_getElem (by rw [HL32.out]; omega))⟩
      clear hx hp HW hS
      have bz : ∀ W, Below wr.heap.size wr W → isI W (.pointer (some ⟨g, 0, none⟩)) = true ∧ csI W (.pointer (some ⟨g, 0, none⟩)) = arr L ∧ W.cell? ⟨b, o + a * 2 + 1, none⟩ = some (.slice oA q oc) := fun W h => ⟨(isI_of (XW W (hid h)).out HL32.out).1, (isI_of (XW W (hid h)).out HL32.out).2, (h.cell (World.block_lt_of_cell? wr _ c1)).trans c1⟩
      obtain ⟨z1, z2, z3⟩ := bz wr (Below.refl _ _)
      obtain ⟨x1, x2, x3⟩ := bz wr.drew (bel_d (Below.refl _ _))
      go_upto_region 7 with fail
      go_region_law ((first
          | (go_simp
             go_at_call 30
             (with_reducible refine (workOf_any (S1 _ (hid (by repeat (first | exact Below.refl _ _ | with_reducible apply bel_d)))) hq (by omega) HL32 (fun z => wOf (prL X) z) HWO HVO).mono ?_)
             rintro e w5 ⟨rfl, C5⟩
             have b5 : Below wr.heap.size wr w5 := Below.trans (by repeat (first | exact Below.refl _ _ | with_reducible apply bel_d)) (C5.out.mono (Below.size (by repeat (first | exact Below.refl _ _ | with_reducible apply bel_d))))
             have y5 : w5.cell? ⟨g, a, none⟩ = some (.int .i64 zl) := ((XW w5 (hid b5)).out.cell a).trans hzl
             have f5 : w5.frozen? ⟨g, a, none⟩ = false := (XW w5 (hid b5)).out.frozen a)))
      all_goals
        have X9 : Hid (Box (w5.setCell ⟨g, a, none⟩ (.int .i64 (vv : Int))) g 86 (arr (L.set a (vv : Int)))) := hid (by rw [← arr_set]; exact (XW w5 (hid b5)).out.store a _)
        have B9 : Hid (Below w.heap.size w (w5.setCell ⟨g, a, none⟩ (.int .i64 (vv : Int)))) := hid ((HB.out.trans (b5.mono HB.out.size)).setCell (p := ⟨g, a, none⟩) hgw _)
        go_wp2
        go_roundw
        case rel => exact ⟨a, L.set a (vv : Int), by omega, by omega, by go_num, HW2, X9, B9⟩
        case measure => simp [intOf] <;> omega
    · obtain rfl : a = m := by omega
      have hi : ¬ (a : Int) ≤ (a : Int) - 1 := by omega
      have y0 : wr.cell? ⟨g, a, none⟩ = some (.int .i64 (v : Int)) := (XB.out.cell a).trans (arr_c (by rw [HW.out.2 a (Nat.le_refl _) hmn, HV.out]))
      have hi0 : (0 : Int) ≤ a := by omega
      have hi32 : (a : Int) < 32 := by omega
      go_wp2
      go_ret
      exact ⟨rfl, HB⟩
end L19
end Go.Proofs.YteeienmigoebmaaGreatDoor
