import Derived.Test.YteeienmigoebmaaGreatDoorPRF
import Derived.Deep.DeepCutAuto
namespace Go.Proofs.YteeienmigoebmaaGreatDoor
namespace L19
open Go.RowKit L18

/-! Layer 19: what is too much to be looked at. -/
def grO : Nat → Nat → List OpV → Option Nat
  | n, _, [] => some n
  | n, k, o :: r => if 100 < k ∨ 5000 < n + min o.2.2.2.length 10000 / 10 then none else grO (n + min o.2.2.2.length 10000 / 10) (k + 1) r
def grP : Nat → Nat → List ProgV → Bool
  | _, _, [] => false
  | n, i, p :: r => match grO (n + (min p.2.length 1000 + min p.1.length 10000 / 10)) 0 p.2 with
    | none => true
    | some m => if 60 < i ∨ 5000 < m then true else grP m (i + 1) r
def grK (n j : Nat) (ops : List OpV) (k : Nat) (rest : List ProgV) : Bool := match grO n j ops with
  | none => true
  | some m => if 60 < k ∨ 5000 < m then true else grP m (k + 1) rest
theorem grK_stop {n j k : Nat} {o : OpV} {ops : List OpV} {rest : List ProgV} (h : 100 < j ∨ 5000 < n + min o.2.2.2.length 10000 / 10) : grK n j (o :: ops) k rest = true := by
  unfold grK grO
  rw [if_pos h]
theorem grK_go {n j k : Nat} {o : OpV} {ops : List OpV} {rest : List ProgV} (h : ¬ (100 < j ∨ 5000 < n + min o.2.2.2.length 10000 / 10)) : grK n j (o :: ops) k rest = grK (n + min o.2.2.2.length 10000 / 10) (j + 1) ops k rest := by
  unfold grK
  conv => lhs; unfold grO
  rw [if_neg h]
theorem grK_nil (n j k : Nat) (rest : List ProgV) : grK n j [] k rest = if 60 < k ∨ 5000 < n then true else grP n (k + 1) rest := rfl
def greatP (l : List ProgV) : Bool := grP 0 0 l
theorem bs_size (l : List UInt8) : (bs l).size = l.length := by simp [bs, ByteArray.size]
theorem grO_len : ∀ (l : List OpV) (n k m : Nat), grO n k l = some m → k ≤ 101 → l.length + k ≤ 101 ∨ l = []
  | [], _, _, _, _, _ => .inr rfl
  | o :: r, n, k, m, h, hk => by
    unfold grO at h
    split at h
    · cases h
    · rename_i hn
      have := grO_len r _ (k + 1) m h (by omega)
      left
      simp only [List.length_cons]
      rcases this with h1 | h1
      · omega
      · subst h1
        simp
        omega
theorem grP_len : ∀ (l : List ProgV) (n i : Nat), grP n i l = false → i ≤ 61 → (l.length + i ≤ 61 ∨ l = []) ∧ ∀ p ∈ l, p.2.length ≤ 101
  | [], _, _, _, _ => ⟨.inr rfl, fun p hp => by cases hp⟩
  | p :: r, n, i, h, hi => by
    unfold grP at h
    split at h
    · cases h
    · rename_i m hm
      split at h
      · cases h
      · rename_i hn
        have h1 := grP_len r m (i + 1) h (by omega)
        have h2 := grO_len p.2 _ 0 m hm (by omega)
        refine ⟨.inl ?_, fun x hx => ?_⟩
        · simp only [List.length_cons]
          rcases h1.1 with h3 | h3
          · omega
          · subst h3
            simp
            omega
        · rcases List.mem_cons.1 hx with rfl | hx
          · rcases h2 with h3 | h3
            · omega
            · rw [h3]; simp
          · exact h1.2 x hx
theorem great_len {l : List ProgV} (h : greatP l = false) : l.length ≤ 61 ∧ ∀ p ∈ l, p.2.length ≤ 101 := by
  have := grP_len l 0 0 h (by omega)
  refine ⟨?_, this.2⟩
  rcases this.1 with h1 | h1
  · omega
  · subst h1; simp
set_option maxRecDepth 100000 in
set_option maxHeartbeats 8000000 in
theorem great_any (w : World) (A : Option Addr) (n c : Nat) (X : List PgX) (hl : Hid (PgM w w.heap.size A c X)) (hn : X.length = n) (hm : Hid (FitX X)) {g : Bool} (hg : Hid (greatP (prL X) = g)) :
    Calls Tryz.prog 8 #[.slice A n c] w fun e w' => e = .returned (.bool g) ∧ Hid (Below w.heap.size w w') := by
  have HN := hid hn
  have hn40 : n * 40 ≤ 140737488351232 := by rw [← hn]; exact hm.out.1
  go_enter Tryz.func8, Tryz.ntmps8
  go_wp2
  go_loopw [3, 10] (fun s i wr => ∃ (k m : Nat), k ≤ n ∧ i = .int .i64 k ∧ s = .int .i64 m ∧ m ≤ 5000 ∧ k ≤ 61 ∧ Hid (grP m k ((prL X).drop k) = g) ∧ Hid (Below w.heap.size w wr)) (fun _ i _ => n - (intOf i).toNat)
  case atStart => exact ⟨0, 0, Nat.zero_le _, rfl, rfl, by omega, by omega, hg, hid (Below.refl _ _)⟩
  case round =>
    obtain ⟨k, m, hk, rfl, rfl, hm5, hk61, HG, HB⟩ := hrel
    by_cases hlt : k < n
    · have HLw := pg_up hl HB.out
      obtain ⟨b, o, x, hA, hr, d0, d1, hS⟩ := HLw.out.at (k := k) (by rw [hn]; exact hlt)
      subst hA
      have hx40 : x.1.2.length * 40 ≤ 140737488351232 := hm.out.2 x (List.mem_of_getElem? hr)
      have hdr : (prL X).drop k = x.1 :: (prL X).drop (k + 1) := by
        have : (prL X)[k]? = some x.1 := by simp [prL, hr]
        obtain ⟨h1, h2⟩ := List.getElem?_eq_some_iff.1 this
        rw [List.drop_eq_getElem_cons h1, h2]
      have HG2 : Hid (grP m k (x.1 :: (prL X).drop (k + 1)) = g) := hid (by rw [← hdr]; exact HG.out)
      obtain ⟨⟨nm, ops⟩, oA, oc⟩ := x
      simp only at d0 d1 hS hx40 HG2
      obtain ⟨q, hq⟩ : ∃ z, Hid (ops.length = z) := ⟨_, hid rfl⟩
      rw [hq.out] at d1 hx40
      have S0 := hid hS
      have hi : (k : Int) < n := by omega
      have hsz := bs_size nm
      obtain ⟨M, hM⟩ : ∃ z, m + (min q 1000 + min nm.length 10000 / 10) = z := ⟨_, rfl⟩
      have hM7 : M ≤ 7000 := by omega
      have HG3 : Hid (grK M 0 ops k ((prL X).drop (k + 1)) = g) := hid (by
          have h := HG2.out
          unfold grP at h
          rw [hq.out, hM] at h
          exact h)
      have bz : ∀ o, Below wr.heap.size wr (wr.alloc o) := fun o => (Below.refl _ wr).alloc (Nat.le_refl _) o
      clear hS hr hdr HG HG2
      go_upto_region 5 with fail
      have k1 := bz (.cells #[.string (bs nm), .slice oA q oc] 52)
      have B1 := bel_t HB k1
      have S1 := ops_up S0 k1
      have c0 := (Box.new wr 52 #[.string (bs nm), .slice oA q oc]).cell 0
      have c1 := (Box.new wr 52 #[.string (bs nm), .slice oA q oc]).cell 1
      go_cut [3] (fun s wx => s = .int .i64 M ∧ wx = wr.alloc (.cells #[.string (bs nm), .slice oA q oc] 52))
      case first =>
        go_wp2_with fail
        all_goals
          go_meet
          exact ⟨by congr 1; omega, rfl⟩
      case rest =>
      obtain ⟨rfl, rfl⟩ := hcut
      clear hM
      generalize wr.alloc (.cells #[.string (bs nm), .slice oA q oc] 52) = u1 at B1 S1 c0 c1 ⊢
      clear HLw HB S0 d0 d1 bz k1
      generalize wr.heap.size = gx at c0 c1 ⊢
      clear wr
      go_wp2
      go_loopw [3, 30] (fun s i wq => ∃ (j m2 : Nat), j ≤ q ∧ s = .int .i64 m2 ∧ i = .int .i64 j ∧ m2 ≤ 7000 ∧ j ≤ 101 ∧ Hid (grK m2 j (ops.drop j) k ((prL X).drop (k + 1)) = g) ∧ Hid (Below u1.heap.size u1 wq)) (fun _ i _ => q - (intOf i).toNat)
      case atStart => exact ⟨0, M, Nat.zero_le _, rfl, rfl, hM7, by omega, HG3, hid (Below.refl _ _)⟩
      case round =>
        obtain ⟨j, m2, hj, rfl, rfl, hm7, hj1, HK, HBj⟩ := hrel
        by_cases hjq : j < q
        · have hij : (j : Int) < q := by omega
          obtain ⟨b9, o9, y, hA9, hy, e0, e1, e2, e3⟩ := (ops_up S1 HBj.out).out.at (k := j) (by rw [hq.out]; exact hjq)
          subst hA9
          have hdj : ops.drop j = y :: ops.drop (j + 1) := by
            obtain ⟨h1, h2⟩ := List.getElem?_eq_some_iff.1 hy
            rw [List.drop_eq_getElem_cons h1, h2]
          obtain ⟨y1, y2, y3, y4⟩ := y
          simp only at e0 e1 e2 e3
          obtain ⟨M2, hM2⟩ : ∃ z, m2 + min y4.length 10000 / 10 = z := ⟨_, rfl⟩
          have hM9 : M2 ≤ 8000 := by omega
          have hs4 := bs_size y4
          have B8 := fun o => bel_al (o := o) HBj
          go_upto_region 9 with fail
          go_cut [3] (fun s wx => s = .int .i64 M2 ∧ wx = wr.alloc (.cells #[.int .i64 y1, .int .i64 y2, .int .i64 y3, .string (bs y4)] 53))
          case first =>
            go_wp2_with fail
            all_goals
              go_meet
              exact ⟨by congr 1; omega, rfl⟩
          case rest =>
          obtain ⟨rfl, rfl⟩ := hcut
          by_cases hst : 100 < j ∨ 5000 < M2
          · have HE : Hid (g = true) := hid (by
              rw [← HK.out, hdj]
              exact grK_stop (by rw [hM2]; exact hst))
            by_cases h100 : 100 < j
            · have t1 : (j : Int) > 100 := by omega
              clear hst hM2 hdj hy
              go_wp2
              go_ret
              rw [HE.out]
              exact ⟨rfl, bel_t B1 (B8 _).out⟩
            · have t1 : ¬ (j : Int) > 100 := by omega
              have t2 : (M2 : Int) > 5000 := by omega
              clear hst hM2 hdj hy
              go_wp2
              go_ret
              rw [HE.out]
              exact ⟨rfl, bel_t B1 (B8 _).out⟩
          · have HE : Hid (grK M2 (j + 1) (ops.drop (j + 1)) k ((prL X).drop (k + 1)) = g) := hid (by
              rw [← HK.out, hdj, grK_go (by rw [hM2]; exact hst), hM2])
            have t1 : ¬ (j : Int) > 100 := by omega
            have t2 : ¬ (M2 : Int) > 5000 := by omega
            have t3 : M2 ≤ 7000 := by omega
            have t4 : j + 1 ≤ 101 := by omega
            clear hst hM2 hdj hy
            go_wp2
            go_roundw
            case rel => exact ⟨j + 1, M2, by omega, rfl, by go_num, t3, t4, HE, B8 _⟩
            case measure => simp [intOf] <;> omega
        · have hij : ¬ (j : Int) < q := by omega
          have HK2 : Hid ((if 60 < k ∨ 5000 < m2 then true else grP m2 (k + 1) ((prL X).drop (k + 1))) = g) := hid (by
            have h := HK.out
            rw [List.drop_of_length_le (by rw [hq.out]; omega)] at h
            exact h)
          by_cases hst : 60 < k ∨ 5000 < m2
          · have HE : Hid (g = true) := hid (by rw [← HK2.out, if_pos hst])
            by_cases h60 : 60 < k
            · have t1 : (k : Int) > 60 := by omega
              clear hst HK2
              go_wp2
              go_ret
              rw [HE.out]
              exact ⟨rfl, bel_t B1 HBj.out⟩
            · have t1 : ¬ (k : Int) > 60 := by omega
              have t2 : (m2 : Int) > 5000 := by omega
              clear hst HK2
              go_wp2
              go_ret
              rw [HE.out]
              exact ⟨rfl, bel_t B1 HBj.out⟩
          · have HE : Hid (grP m2 (k + 1) ((prL X).drop (k + 1)) = g) := hid (by rw [← HK2.out, if_neg hst])
            have t1 : ¬ (k : Int) > 60 := by omega
            have t2 : ¬ (m2 : Int) > 5000 := by omega
            have t3 : m2 ≤ 5000 := by omega
            have t4 : k + 1 ≤ 61 := by omega
            clear hst HK2
            go_wp2
            go_roundw
            case rel => exact ⟨k + 1, m2, by omega, by go_num, rfl, t3, t4, HE, bel_t B1 HBj.out⟩
            case measure => simp [intOf] <;> omega
    · have hi : ¬ (k : Int) < n := by omega
      have HE : Hid (g = false) := hid (by
        rw [← HG.out, List.drop_of_length_le (by rw [prL_len, HN.out]; omega)]
        rfl)
      go_wp2
      go_ret
      rw [HE.out]
      exact ⟨rfl, HB⟩
end L19
end Go.Proofs.YteeienmigoebmaaGreatDoor
