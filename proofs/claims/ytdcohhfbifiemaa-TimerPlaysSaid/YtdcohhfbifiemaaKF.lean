import Derived.Test.YtdcohhfbifiemaaKE
namespace Go.Proofs.Ytdcohhfbifiemaa
open Go.RowKit Go.Maps

/-- The places in another order, from n on the same. -/
def Mv (n : Nat) (L L' : List Tm) : Prop := L'.Perm L ∧ ∀ k, n ≤ k → L'[k]? = L[k]?
theorem Mv.refl (n : Nat) (L : List Tm) : Mv n L L := ⟨List.Perm.refl _, fun _ _ => rfl⟩
theorem Mv.trans {n : Nat} {L L' L'' : List Tm} (h : Mv n L L') (k : Mv n L' L'') : Mv n L L'' := ⟨k.1.trans h.1, fun j hj => (k.2 j hj).trans (h.2 j hj)⟩
theorem Mv.len {n : Nat} {L L' : List Tm} (h : Mv n L L') : L'.length = L.length := h.1.length_eq
theorem Mv.swp {n : Nat} {L : List Tm} {i j : Nat} {x y : Tm} (hi : L[i]? = some x) (hj : L[j]? = some y) (in_ : i < n) (jn : j < n) : Mv n L (swp L i j x y) := by
  obtain ⟨il, _⟩ := List.getElem?_eq_some_iff.1 hi
  obtain ⟨jl, _⟩ := List.getElem?_eq_some_iff.1 hj
  refine ⟨swp_perm hi hj, fun k hk => ?_⟩
  rw [swp_get L i j k x y il jl, if_neg (by omega), if_neg (by omega)]
/-- Places as a value with methods. -/
abbrev hV (H : Nat) : Value := .iface 51 (.pointer (some ⟨H, 0, none⟩))
theorem mLess (H : Nat) (w : World) : (method 192 51 (.pointer (some ⟨H, 0, none⟩)) "Less").run Try.prog w = .ok (43, .pointer (some ⟨H, 0, none⟩)) w := by kernel_rfl
theorem mSwap (H : Nat) (w : World) : (method 192 51 (.pointer (some ⟨H, 0, none⟩)) "Swap").run Try.prog w = .ok (46, .pointer (some ⟨H, 0, none⟩)) w := by kernel_rfl
theorem mLen (H : Nat) (w : World) : (method 192 51 (.pointer (some ⟨H, 0, none⟩)) "Len").run Try.prog w = .ok (24, .pointer (some ⟨H, 0, none⟩)) w := by kernel_rfl
theorem mPush (H : Nat) (w : World) : (method 192 51 (.pointer (some ⟨H, 0, none⟩)) "Push").run Try.prog w = .ok (45, .pointer (some ⟨H, 0, none⟩)) w := by kernel_rfl
theorem mPop (H : Nat) (w : World) : (method 192 51 (.pointer (some ⟨H, 0, none⟩)) "Pop").run Try.prog w = .ok (44, .pointer (some ⟨H, 0, none⟩)) w := by kernel_rfl
theorem Pl.lt {w : World} {H M : Nat} {rb : Option Nat} {L : List Tm} (h : Pl w H M rb L) : H < w.heap.size ∧ M < w.heap.size ∧ ∀ x, rb = some x → x < w.heap.size := by
  obtain ⟨A, c, f, hb, hr, hm, _⟩ := h.body
  refine ⟨hb.lt, hm.lt, fun x hx => ?_⟩
  obtain ⟨cs, hx⟩ := hr.box x hx
  exact hx.lt
theorem Pl.keep {w w' : World} {H M : Nat} {rb : Option Nat} {L : List Tm} {K : List Nat} (h : Pl w H M rb L) (k : But K w w') (hK : ∀ x ∈ plB H M rb, x ∉ K) : Pl w' H M rb L := by
  obtain ⟨A, c, f, hb, hr, hm, hf⟩ := h.body
  exact ⟨h.wf, h.cnt, h.nd, A, c, f, k.box hb (hK H (by simp [plB])), hr.keep k (fun x hx => hK x (by simp [plB, hx])), hm.keep k (hK M (by simp [plB])), hf⟩
theorem Pl.keep0 {w w' : World} {H M : Nat} {rb : Option Nat} {L : List Tm} (h : Pl w H M rb L) (k : But [] w w') : Pl w' H M rb L := h.keep k (by simp)
section
variable (w : World)
set_option maxHeartbeats 2000000 in
set_option maxRecDepth 100000 in
theorem up_any {H M j n : Nat} {rb : Option Nat} {L : List Tm} (hp : Hid (Pl w H M rb L)) (hu : Hid (Up n L j)) (hj : j < n) (hn : Hid (n ≤ L.length)) :
    Calls Try.prog 26 #[hV H, .int .i64 j] w fun e w' => e = .returned (.tuple #[]) ∧ ∃ L', Hid (Pl w' H M rb L') ∧ Hid (Hp n L') ∧ Hid (Mv n L L') ∧ Hid (But (plB H M rb) w w') := by
  have hn3 : n ≤ 300 := Nat.le_trans hn.out hp.out.cnt
  have hm1 := mLess H
  have hm2 := mSwap H
  go_enter Try.func26, Try.ntmps26
  go_wp2
  go_loopw [1] (fun v wr => ∃ (k : Nat) (L1 : List Tm), v = .int .i64 k ∧ k < n ∧ Hid (Pl wr H M rb L1) ∧ Hid (Up n L1 k) ∧ Hid (Mv n L L1) ∧ Hid (But (plB H M rb) w wr)) (fun v _ => (intOf v).toNat)
  case atStart => exact ⟨j, L, rfl, hj, hp, hu, Mv.refl _ _, But.refl _ _⟩
  case round =>
    obtain ⟨k, L1, rfl, hk, HP, HU, HM, HK⟩ := hrel
    by_cases hk0 : k = 0
    · subst hk0
      go_wp2
      go_end0
      exact ⟨rfl, L1, HP, HU.out.heap (fun h => absurd h (by decide)), HM, HK⟩
    · have hpk := par_lt (Nat.pos_of_ne_zero hk0)
      have e2 : ((k : Int) - 1) / 2 = ((par k : Nat) : Int) := by unfold par; omega
      have e3 : (((par k : Nat) : Int) == (k : Int)) = false := by simp; omega
      have hl1 := HM.out.len
      have HX : Hid (∃ x, L1[par k]? = some x) := hid ⟨_, List.getElem?_eq_getElem (by have := hn.out; omega)⟩
      have HY : Hid (∃ y, L1[k]? = some y) := hid ⟨_, List.getElem?_eq_getElem (by have := hn.out; omega)⟩
      obtain ⟨x, hx⟩ := HX.out
      obtain ⟨y, hy⟩ := HY.out
      have HX1 := hid hx
      have HY1 := hid hy
      have HN1 : Hid (n ≤ L1.length) := hid (by rw [hl1]; exact hn.out)
      obtain ⟨p, hpe⟩ : ∃ p, par k = p := ⟨_, rfl⟩
      have HPE := hid hpe
      rw [hpe] at e2 e3 HX1 hpk
      clear hl1 HX HY hx hy hpe
      by_cases hlt : lt y x = true
      · go_wp2_with (first
          | (go_at_call 43
             refine (less_any _ HP HY1 HX1).mono ?_
             rintro e w1 ⟨rfl, hk1⟩
             rw [hlt]
             have HP1 := hid (HP.out.keep0 hk1)
             have HK1 := hid (HK.out.same (hk1.mono (by simp)))
             clear hk1)
          | (go_at_call 46
             refine (swap_any _ HP1 HX1 HY1).mono ?_
             rintro e w2 ⟨rfl, HP2, hk2⟩
             have HK2 := hid (HK1.out.same hk2.out)
             clear hk2))
        go_roundw
        case rel => exact ⟨p, _, rfl, by omega, HP2, hid (by have := HU.out.step (by omega) hk HN1.out (by rw [HPE.out]; exact HX1.out) HY1.out hlt; rw [HPE.out] at this; exact this), hid (HM.out.trans (Mv.swp HX1.out HY1.out (by omega) hk)), HK2⟩
        case measure => simp [intOf]; omega
      · have hlf : lt y x = false := by simpa using hlt
        go_wp2_with (first
          | (go_at_call 43
             refine (less_any _ HP HY1 HX1).mono ?_
             rintro e w1 ⟨rfl, hk1⟩
             rw [hlf]
             have HP1 := hid (HP.out.keep0 hk1)
             have HK1 := hid (HK.out.same (hk1.mono (by simp)))
             clear hk1))
        go_end0
        exact ⟨rfl, L1, HP1, hid (HU.out.heap (fun _ a b ha hb => by
          rw [HPE.out, HX1.out] at ha
          rw [HY1.out] at hb
          injection ha with ha
          injection hb with hb
          subst ha; subst hb
          exact hlf)), HM, HK1⟩
end
end Go.Proofs.Ytdcohhfbifiemaa
