import Derived.Test.YtlmdbcmaophhnaaDoorNB
namespace Go.Proofs.YtlmdbcmaophhnaaDoor
open Go.RowKit

set_option maxHeartbeats 400000 in
set_option maxRecDepth 100000 in
/-- The document's own word on a name is the program's. -/
theorem name_any (s : ByteArray) (w : World) (hs : s.size ≤ maxLen) :
    Calls Tryd.prog 55 #[.string s] w fun e w' => e = .returned (.bool (nameOk s)) ∧ w = w' := by
  unfold maxLen at hs
  by_cases h0 : 1 ≤ s.size ∧ s.size ≤ 64
  · obtain ⟨h1, h2⟩ := h0
    have hd1 : decide ((s.size : Int) < 1) = false := by simp; omega
    have hd2 : decide (64 < (s.size : Int)) = false := by simp; omega
    go_enter Tryd.func55, Tryd.ntmps55
    go_wp2
    go_loop [3] (fun i => ∃ k : Nat, k ≤ s.size ∧ i = .int .i64 k ∧ (s.data.toList.take k).all nameByte = true) (fun i => s.size - (intOf i).toNat)
    case atStart => exact ⟨0, Nat.zero_le _, rfl, rfl⟩
    case round =>
      obtain ⟨k, hk, rfl, hal⟩ := hrel
      have HA := hid hal; clear hal
      by_cases hlt : k < s.size
      · by_cases hb : nameByte s[k] = true
        · have hbi := (nameByte_iff _).1 hb
          have hts := take_snoc s.data.toList k (by simpa using hlt)
          have hS : (s.data.toList.take (k + 1)).all nameByte = true := by
            rw [hts, List.all_append, HA.out]
            simp [← ByteArray.getElem_eq_getElem_data, hb]
          have HS := hid hS
          clear hts hb hS
          have ha : (33 : Int) ≤ s[k].toNat := by omega
          have hb : (s[k].toNat : Int) ≤ 126 := by omega
          have hc : ((s[k].toNat : Int) == 44) = false := by simp; omega
          clear hbi
          go_wp2
          go_round
          case rel => exact ⟨k + 1, by omega, by go_num, HS.out⟩
          case measure => simp [intOf]; omega
        · have HF := hid (nameOk_bad s k hlt (by simpa using hb))
          have HB : Hid (¬ (33 ≤ s[k].toNat ∧ s[k].toNat ≤ 126 ∧ s[k].toNat ≠ 44)) := fun h => hb ((nameByte_iff _).2 h)
          clear hb
          go_wp2
          all_goals first
            | (go_ret; exact ⟨ret_bool HF.out.symm, rfl⟩)
            | (exfalso; have h1 := HB.out; simp at *; omega)
      · have hks : k = s.size := by omega
        have HK := hid hks
        clear hks
        go_wp2
        go_ret
        exact ⟨ret_bool (nameOk_all s h1 h2 (by have h := HA.out; rw [HK.out, List.take_of_length_le (by simp)] at h; exact h)).symm, rfl⟩
  · have HF := hid (nameOk_len s h0)
    rcases Nat.lt_or_ge s.size 1 with h1 | h1
    · have hd1 : (s.size : Int) < 1 := by omega
      clear h0 h1
      go_enter Tryd.func55, Tryd.ntmps55
      go_wp2
      go_ret
      exact ⟨ret_bool HF.out.symm, rfl⟩
    · have hd1 : (1 : Int) ≤ s.size := by omega
      have hd2 : (64 : Int) < s.size := by omega
      clear h0 h1
      go_enter Tryd.func55, Tryd.ntmps55
      go_wp2
      go_ret
      exact ⟨ret_bool HF.out.symm, rfl⟩

set_option maxHeartbeats 400000 in
set_option maxRecDepth 100000 in
theorem four_any (n : Nat) (h : n < 4294967296) (w : World) :
    Calls Tryd.prog 56 #[.int .u32 n] w fun e w' => ∃ A c, e = .returned (.slice A 4 c) ∧ w'.ownsRow w.heap.size 5 1 (.slice A 4 c) 4 (bv (four n)) ∧ Below w.heap.size w w' := by
  have h1 : (n : Int) < 4294967296 := by omega
  have HV := hid (four_v n h)
  go_enter Tryd.func56, Tryd.ntmps56
  go_wp2
  go_ret
  refine ⟨_, _, rfl, ?_, (Below.refl _ _).alloc (Nat.le_refl _) _⟩
  rw [HV.out]
  exact World.ownsRow_lit w _ 4 (Nat.le_refl _) (by unfold maxLen; omega) rfl

set_option maxHeartbeats 800000 in
set_option maxRecDepth 100000 in
theorem kinds_any (w : World) (A : Option Addr) (c : Nat) (ks : List Int) (hk : Lies w w.heap.size A (ks.map (Value.int .i64))) (hl : ks.length ≤ 1000000) :
    Calls Tryd.prog 34 #[.slice A ks.length c] w fun e w' => e = .returned (.bool (kindsB (ks.map kfd))) ∧ w = w' := by
  have HK := hid hk
  clear hk
  go_enter Tryd.func34, Tryd.ntmps34
  go_wp2
  go_loop [7] (fun i => ∃ k : Nat, k ≤ ks.length ∧ i = .int .i64 k ∧ Hid (∀ j (h : j < ks.length), j < k → kindB ks[j] j ks.length = true)) (fun i => ks.length - (intOf i).toNat)
  case atStart => exact ⟨0, Nat.zero_le _, rfl, fun j _ h => absurd h (by omega)⟩
  case round =>
    obtain ⟨k, hk, rfl, HP⟩ := hrel
    by_cases hlt : k < ks.length
    · obtain ⟨b, o, rfl, hbw, hcells⟩ := HK.out (by intro e; have := congrArg List.length e; simp at this; subst this; simp at hlt)
      have c0 : w.cell? ⟨b, o + k, none⟩ = some (.int .i64 ks[k]) := hcells k _ (by simp [hlt])
      clear hcells
      by_cases hg : kindB ks[k] k ks.length = true
      · have HG : Hid (∀ j (h : j < ks.length), j < k + 1 → kindB ks[j] j ks.length = true) := fun j hj hjk => by
          by_cases e : j = k
          · subst e; exact hg
          · exact HP.out j hj (by omega)
        simp only [kindB, Bool.and_eq_true, Bool.or_eq_true, decide_eq_true_eq] at hg
        obtain ⟨⟨g1, g2⟩, g3⟩ := hg
        generalize ks[k] = kd at *
        by_cases h6 : kd = 6
        · subst h6
          have hkn : k + 1 = ks.length := by
            rcases g3 with g | g
            · exact absurd rfl g
            · exact g
          have t1 : ((k : Int) != (ks.length : Int) - 1) = false := by simp; omega
          clear g3 hkn g1 g2
          go_wp2
          go_round
          case rel => exact ⟨k + 1, by omega, by go_num, HG.out⟩
          case measure => simp [intOf]; omega
        · have t1 : (kd == 6) = false := by simpa using h6
          clear g3 h6
          go_wp2
          go_round
          case rel => exact ⟨k + 1, by omega, by go_num, HG.out⟩
          case measure => simp [intOf]; omega
      · have HF : Hid (kindsB (ks.map kfd) = false) := by
          show _ = _
          rw [Bool.eq_false_iff]
          intro h
          have := (kindsB_iff _).1 h k (by simpa using hlt)
          simp only [List.getElem_map, kfd, List.length_map] at this
          exact hg this
        simp only [kindB, Bool.and_eq_true, Bool.or_eq_true, decide_eq_true_eq] at hg
        generalize ks[k] = kd at *
        by_cases g1 : kd < 1
        · clear hg
          go_wp2
          go_ret
          exact ⟨ret_bool HF.out.symm, rfl⟩
        · have g1' : 1 ≤ kd := by omega
          clear g1
          by_cases g2 : 6 < kd
          · clear hg
            go_wp2
            go_ret
            exact ⟨ret_bool HF.out.symm, rfl⟩
          · have g2' : kd ≤ 6 := by omega
            have g6 : kd = 6 := by
              by_cases h : kd = 6
              · exact h
              · exact absurd ⟨⟨g1', g2'⟩, .inl h⟩ hg
            subst g6
            have hkn : k + 1 ≠ ks.length := fun h => hg ⟨⟨g1', g2'⟩, .inr h⟩
            have t1 : ((k : Int) != (ks.length : Int) - 1) = true := by simp; omega
            clear hg g2 hkn
            go_wp2
            go_ret
            exact ⟨ret_bool HF.out.symm, rfl⟩
    · have HF : Hid (kindsB (ks.map kfd) = true) := (kindsB_iff _).2 fun j hj => by
        have := HP.out j (by simpa using hj) (by simp at hj; omega)
        simpa [kfd] using this
      go_wp2
      go_ret
      exact ⟨ret_bool HF.out.symm, rfl⟩
end Go.Proofs.YtlmdbcmaophhnaaDoor
