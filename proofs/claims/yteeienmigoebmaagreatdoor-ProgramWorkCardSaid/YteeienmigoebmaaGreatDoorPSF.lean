import Derived.Test.YteeienmigoebmaaGreatDoorPSE
namespace Go.Proofs.YteeienmigoebmaaGreatDoor
namespace L19
open Go.RowKit L18

/-! Layer 19: the document's escaped. -/
theorem infoU8 : (Tryz.prog.info? 5).map (fun i => (i.zero, i.size, i.bytes)) = some (some (.int .u8 0), 1, 1) := by kernel_rfl
theorem byC_app (a b : List UInt8) : byC (a ++ b) = byC a ++ byC b := by simp [byC]
theorem byC_len (l : List UInt8) : (byC l).length = l.length := by simp [byC]
theorem esc_take {t : List UInt8} {k : Nat} {c : UInt8} (h : t[k]? = some c) : escaped (t.take (k + 1)) = escaped (t.take k) ++ esc1 c := by
  rw [take_at h]
  simp [escaped]
theorem esc_len (c : UInt8) : (esc1 c).length ≤ 3 := by
  unfold esc1
  split <;> simp
theorem esc_all (t : List UInt8) : (escaped t).length ≤ 3 * t.length := by
  induction t with
  | nil => simp [escaped]
  | cons c r ih =>
    have := esc_len c
    have e : escaped (c :: r) = esc1 c ++ escaped r := by simp [escaped]
    rw [e, List.length_append, List.length_cons]
    omega
theorem nib_i (c : UInt8) : IntKind.u8.wrap ((c.toNat : Int) / 16) = ((c / 16).toNat : Int) ∧ (c.toNat : Int).tmod 16 = ((c % 16).toNat : Int) ∧ (c.toNat : Int) % 16 = ((c % 16).toNat : Int) ∧ IntKind.u8.wrap ((c % 16).toNat : Int) = ((c % 16).toNat : Int) ∧ c / 16 < 16 ∧ c % 16 < 16 := by
  revert c
  exact all256 (by decide +kernel)
section
variable {w : World}
set_option maxRecDepth 100000 in
set_option maxHeartbeats 8000000 in
theorem escr_any (w : World) {t s : List UInt8} (ht : t.length ≤ 1000000) (hs : Hid (escaped t = s)) :
    Calls Tryz.prog 26 #[.string (bs t)] w fun e w' => e = .returned (.string (bs s)) ∧ Hid (Below w.heap.size w w') := by
  obtain ⟨n, hn⟩ : ∃ n, Hid (t.length = n) := ⟨_, hid rfl⟩
  have hn6 : n ≤ 1000000 := by rw [← hn.out]; exact ht
  have hsz : ((bs t).size : Int) = n := by rw [bs_size, hn.out]
  have hszn : (bs t).size = n := by rw [bs_size, hn.out]
  clear ht
  go_enter Tryz.func26, Tryz.ntmps26
  go_wp2
  go_loopw [3, 4] (fun x y wr => ∃ (k m : Nat) (A2 : Option Addr) (c2 : Nat), y = .int .i64 k ∧ k ≤ n ∧ x = .slice A2 m c2 ∧ Hid ((escaped (t.take k)).length = m) ∧ Hid (wr.ownsRow w.heap.size 5 1 (.slice A2 m c2) m (byC (escaped (t.take k)))) ∧ Hid (Below w.heap.size w wr)) (fun _ y _ => n - (intOf y).toNat)
  case atStart => exact ⟨0, 0, none, 0, rfl, Nat.zero_le _, rfl, hid rfl, hid (World.ownsRow_nil _ _ _ _), hid (Below.refl _ _)⟩
  case round =>
    obtain ⟨k, m, A2, c2, rfl, hk, rfl, HM, HO, HB⟩ := hrel
    have hw7 : IntKind.i64.wrap ((k : Int) + 1) = (k : Int) + 1 := IntWalk.i64_in _ (by omega)
    have hm6 : m ≤ 3000000 := by
      rw [← HM.out]
      have := esc_all (t.take k)
      rw [List.length_take] at this
      omega
    have hz := HB.out.size
    by_cases hlt : k < n
    · have hi : (k : Int) < n := by omega
      obtain ⟨c, hc⟩ : ∃ c, t[k]? = some c := ⟨_, List.getElem?_eq_getElem (by rw [hn.out]; exact hlt)⟩
      have hx : (bs t)[k]? = some c := by rw [bs_at, hc]
      have hx2 : ∀ h : k < (bs t).size, (bs t)[k]'h = c := fun h => by
        rw [getElem?_pos (bs t) k h] at hx
        exact Option.some.inj hx
      have HE := hid (esc_take hc)
      obtain ⟨b, hb⟩ : ∃ z, Hid (itself c = z) := ⟨_, hid rfl⟩
      clear hc
      cases b
      · have H1 : Hid (escaped (t.take (k + 1)) = escaped (t.take k) ++ [92, hexD (c / 16), hexD (c % 16)]) := hid (by
          rw [HE.out]
          unfold esc1
          rw [hb.out]
          rfl)
        obtain ⟨q1, q2, q5, q6, q3, q4⟩ := nib_i c
        obtain ⟨x1, hx1⟩ : ∃ z, Hid (hexD (c / 16) = z) := ⟨_, hid rfl⟩
        obtain ⟨x2, hx22⟩ : ∃ z, Hid (hexD (c % 16) = z) := ⟨_, hid rfl⟩
        have Q3 := hid q3
        have Q4 := hid q4
        clear q3 q4
        rw [hx1.out, hx22.out] at H1
        generalize c / 16 = n1 at *
        generalize c % 16 = n2 at *
        have hmx : m + 3 ≤ maxLen := by unfold maxLen; omega
        clear HE
        go_upto_region 7 with (first
          | (go_at_call 51
             (with_reducible refine (itr_any _ c hb).mono ?_)
             rintro e w5 ⟨rfl, hw⟩
             obtain rfl := hw.symm))
        go_region_held3 (fun _ => True) (trivial) ((first
          | (go_at_call 52
             (first
              | (with_reducible refine (hexr_any _ n1 Q3.out hx1).mono ?_)
              | (with_reducible refine (hexr_any _ n2 Q4.out hx22).mono ?_))
             rintro e w6 ⟨rfl, hw⟩
             obtain rfl := hw.symm)
          | (refine step_row 66 5 1 1 _ Tryz.underlying66 infoU8 rfl (by decide) (by rfl) (.tmp 21) (.tmp 32) rfl w.heap.size m 3 c2 A2 (byC (escaped (t.take k))) (byC [92, x1, x2]) rfl (hid (own_keep HO.out ?c1)) ?c2 _ 3 rfl (hid (lies_row _ 5 (byC [92, x1, x2]) #[.int .u8 92, .int .u8 (x1.toNat : Int), .int .u8 (x2.toNat : Int)] _ (by first | rfl | simp) rfl)) rfl (byC_one _) hmx (by omega) ?_
             case c1 => repeat (first | exact Below.refl _ _ | with_reducible apply bel_d | with_reducible apply bel_a)
             case c2 => exact Nat.le_trans hz (Below.size (by repeat (first | exact Below.refl _ _ | with_reducible apply bel_d | with_reducible apply bel_a)))
             intro A5 c5 u5 o5 k5 g5
             have O5 : Hid (u5.ownsRow w.heap.size 5 1 (.slice A5 (m + 3) c5) (m + 3) (byC (escaped (t.take (k + 1))))) := hid (by rw [H1.out, byC_app]; exact o5.out)
             have B5 : Hid (Below w.heap.size w u5) := hid (Below.trans (bel_t HB (by repeat (first | exact Below.refl _ _ | with_reducible apply bel_d | with_reducible apply bel_a))).out (k5.out.below (Nat.le_trans hz (Below.size (by repeat (first | exact Below.refl _ _ | with_reducible apply bel_d | with_reducible apply bel_a))))))
             clear o5 k5 g5)))
        all_goals
          have HM2 : Hid ((escaped (t.take (k + 1))).length = m + 3) := hid (by rw [H1.out, List.length_append, HM.out]; rfl)
          go_wp2
          go_roundw
          case rel => exact ⟨k + 1, m + 3, A5, c5, by go_num, by omega, rfl, HM2, O5, B5⟩
          case measure => simp [intOf] <;> omega
      · have H1 : Hid (escaped (t.take (k + 1)) = escaped (t.take k) ++ [c]) := hid (by
          rw [HE.out]
          unfold esc1
          rw [hb.out]
          rfl)
        have hmx : m + 1 ≤ maxLen := by unfold maxLen; omega
        have B8 : Below wr.heap.size wr (wr.alloc (.cells #[.int .u8 (c.toNat : Int)] 5)) := (Below.refl _ wr).alloc (Nat.le_refl _) _
        have O8 := hid (own_keep HO.out B8)
        have L8 := hid (lies_row wr 5 (byC [c]) #[.int .u8 (c.toNat : Int)] wr.heap.size rfl rfl)
        have hz8 : w.heap.size ≤ (wr.alloc (.cells #[.int .u8 (c.toNat : Int)] 5)).heap.size := Nat.le_trans hz B8.size
        have HB8 := bel_t HB B8
        clear HE
        go_wp2_with (first
          | (go_at_call 51
             (with_reducible refine (itr_any _ c hb).mono ?_)
             rintro e w5 ⟨rfl, hw⟩
             obtain rfl := hw.symm)
          | (at_builtin
             (refine app_row 66 5 1 1 _ Tryz.underlying66 infoU8 rfl (by decide) _ (by rfl) (.tmp 15) (.tmp 19) rfl w.heap.size m 1 c2 A2 (byC (escaped (t.take k))) (byC [c]) rfl O8 hz8 (some ⟨wr.heap.size, 0, none⟩) 1 rfl L8 rfl (byC_one _) hmx (by omega) ?_)
             intro A5 c5 u5 o5 k5))
        have O5 : Hid (u5.ownsRow w.heap.size 5 1 (.slice A5 (m + 1) c5) (m + 1) (byC (escaped (t.take (k + 1))))) := hid (by rw [H1.out, byC_app]; exact o5.out)
        have HM2 : Hid ((escaped (t.take (k + 1))).length = m + 1) := hid (by rw [H1.out, List.length_append, HM.out]; rfl)
        have B5 : Hid (Below w.heap.size w u5) := hid (HB8.out.trans (k5.out.below hz8))
        go_roundw
        case rel => exact ⟨k + 1, m + 1, A5, c5, by go_num, by omega, rfl, HM2, O5, B5⟩
        case measure => simp [intOf] <;> omega
    · have hi : ¬ (k : Int) < n := by omega
      have e : t.take k = t := List.take_of_length_le (by rw [hn.out]; omega)
      rw [e, hs.out] at HM HO
      have hms := HM.out
      subst hms
      have cv : (convert 66 9 (.slice A2 s.length c2)).run Tryz.prog wr = .ok (.string (bs s)) wr := str_of wr _ A2 c2 s (Lies.own HO.out)
      clear e HM
      go_wp2
      go_ret
      exact ⟨rfl, HB⟩
end
end L19
end Go.Proofs.YteeienmigoebmaaGreatDoor
