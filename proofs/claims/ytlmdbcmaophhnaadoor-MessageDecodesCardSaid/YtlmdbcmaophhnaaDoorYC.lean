import Derived.Test.YtlmdbcmaophhnaaDoorYB
namespace Go.Proofs.YtlmdbcmaophhnaaDoor
open Go.RowKit

set_option maxHeartbeats 2000000 in
set_option maxRecDepth 100000 in
theorem fault_any (w : World) (B : Nat) (v : Value) (f : Fd) (hv : FdV w B v f) (hB : B ≤ w.heap.size) (hk : 1 ≤ f.kind ∧ f.kind ≤ 6) :
    Calls Tryd.prog 35 #[v] w fun e w' => e = .returned (.int .i64 (fault f)) ∧ Below w.heap.size w w' := by
  obtain ⟨tA, tc, lA, lc, rfl, hn, _, htl, hll, ht, _, hT, hsz⟩ := hv
  have hbo : ∀ o, Below w.heap.size w (w.alloc o) := fun o => (Below.refl _ _).alloc (Nat.le_refl _) _
  have HBO := hid hbo
  clear hbo
  unfold maxLen at htl hll
  have hc : f.kind = 1 ∨ f.kind = 2 ∨ f.kind = 3 ∨ f.kind = 4 ∨ f.kind = 5 ∨ f.kind = 6 := by omega
  clear hk
  rcases hc with h | h | h | h | h | h
  · rw [h]
    by_cases h1 : 255 < f.n
    · have HF : Hid (fault f = 5) := by show _ = _; simp [fault, h, h1]
      have t1 : (255 : Int) < f.n := by omega
      clear h h1
      go_enter Tryd.func35, Tryd.ntmps35
      go_wp2
      go_ret
      rw [HF.out]
      exact ⟨rfl, HBO.out _⟩
    · have HF : Hid (fault f = 0) := by show _ = _; simp [fault, h, h1]
      have t1 : decide ((255 : Int) < f.n) = false := by simp; omega
      clear h h1
      go_enter Tryd.func35, Tryd.ntmps35
      go_wp2
      go_ret
      rw [HF.out]
      exact ⟨rfl, HBO.out _⟩
  · rw [h]
    by_cases h1 : 1 < f.n
    · have HF : Hid (fault f = 5) := by show _ = _; simp [fault, h, h1]
      have t1 : (1 : Int) < f.n := by omega
      clear h h1
      go_enter Tryd.func35, Tryd.ntmps35
      go_wp2
      go_ret
      rw [HF.out]
      exact ⟨rfl, HBO.out _⟩
    · have HF : Hid (fault f = 0) := by show _ = _; simp [fault, h, h1]
      have t1 : decide ((1 : Int) < f.n) = false := by simp; omega
      clear h h1
      go_enter Tryd.func35, Tryd.ntmps35
      go_wp2
      go_ret
      rw [HF.out]
      exact ⟨rfl, HBO.out _⟩
  · rw [h]
    have HF : Hid (fault f = 0) := by show _ = _; simp [fault, h]
    clear h
    go_enter Tryd.func35, Tryd.ntmps35
    go_wp2
    go_ret
    rw [HF.out]
    exact ⟨rfl, HBO.out _⟩
  · rw [h]
    by_cases h1 : 32768 < f.text.length
    · have HF : Hid (fault f = 6) := by show _ = _; simp [fault, h, h1]
      have t1 : (32768 : Int) < f.text.length := by omega
      clear h h1
      go_enter Tryd.func35, Tryd.ntmps35
      go_wp2
      go_ret
      rw [HF.out]
      exact ⟨rfl, HBO.out _⟩
    · have HF : Hid (fault f = 0) := by show _ = _; simp [fault, h, h1]
      have t1 : decide ((32768 : Int) < f.text.length) = false := by simp; omega
      clear h h1
      go_enter Tryd.func35, Tryd.ntmps35
      go_wp2
      go_ret
      rw [HF.out]
      exact ⟨rfl, HBO.out _⟩
  · rw [h]
    have HE : Hid (fault f = namesE f.list) := by show _ = _; simp [fault, h]
    clear h
    by_cases h1 : 64 < f.list.length
    · have HF : Hid (fault f = 6) := by show _ = _; rw [HE.out]; simp [namesE, h1]
      have t1 : (64 : Int) < f.list.length := by omega
      clear h1
      go_enter Tryd.func35, Tryd.ntmps35
      go_wp2
      go_ret
      rw [HF.out]
      exact ⟨rfl, HBO.out _⟩
    · have HE2 : Hid (fault f = if f.list.all nameOk then 0 else 4) := by show _ = _; rw [HE.out]; simp [namesE, h1]
      have t1 : decide ((64 : Int) < f.list.length) = false := by simp; omega
      have HS := hid hsz
      have HT := hid hT
      clear hT hsz HE
      go_enter Tryd.func35, Tryd.ntmps35
      go_wp2
      generalize hW : w.alloc _ = w1
      have HT1 : Hid (Lies w1 B lA (sv f.list)) := by subst hW; exact HT.out.alloc hB _
      have HB1 : Hid (Below w.heap.size w w1) := by subst hW; exact HBO.out _
      clear hW HT
      go_loop [43] (fun i => ∃ k : Nat, k ≤ f.list.length ∧ i = .int .i64 k ∧ Hid ((f.list.take k).all nameOk = true)) (fun i => f.list.length - (intOf i).toNat)
      case atStart => exact ⟨0, Nat.zero_le _, rfl, rfl⟩
      case round =>
        obtain ⟨k, hk, rfl, HA⟩ := hrel
        by_cases hlt : k < f.list.length
        · obtain ⟨b, o, rfl, hb, hcell⟩ := HT1.out (by intro e; have := congrArg List.length e; simp [sv] at this; rw [this] at hlt; simp at hlt)
          have hck : w1.cell? ⟨b, o + k, none⟩ = some (.string f.list[k]) := hcell k _ (by simp [sv, hlt])
          have hszk := HS.out f.list[k] (List.getElem_mem hlt)
          clear hcell
          by_cases hb : nameOk f.list[k] = true
          · have HS' : Hid ((f.list.take (k + 1)).all nameOk = true) := by show _ = _; rw [take_snoc _ _ hlt, List.all_append, HA.out]; simp [hb]
            have HB := hid hb; clear hb
            go_wp2_with (go_at_call 55; refine (name_any _ _ hszk).mono ?_; rintro e w' ⟨he, rfl⟩; rw [HB.out] at he; subst he)
            go_round
            case rel => exact ⟨k + 1, by omega, by go_num, HS'.out⟩
            case measure => simp [intOf]; omega
          · have HB : Hid (nameOk f.list[k] = false) := by show _ = _; simpa using hb
            have HF : Hid (f.list.all nameOk = false) := by show _ = _; rw [List.all_eq_false]; exact ⟨_, List.getElem_mem hlt, hb⟩
            clear hb
            go_wp2_with (go_at_call 55; refine (name_any _ _ hszk).mono ?_; rintro e w' ⟨he, rfl⟩; rw [HB.out] at he; subst he)
            go_ret
            rw [HE2.out, HF.out]
            exact ⟨rfl, HB1.out⟩
        · have hks : k = f.list.length := by omega
          have HF : Hid (f.list.all nameOk = true) := by have h := HA.out; rw [hks, List.take_length] at h; exact h
          clear hks
          go_wp2
          go_ret
          rw [HE2.out, HF.out]
          exact ⟨rfl, HB1.out⟩
  · rw [h]
    by_cases h1 : 33792 < f.text.length
    · have HF : Hid (fault f = 6) := by show _ = _; simp [fault, h, h1]
      have t1 : (33792 : Int) < f.text.length := by omega
      clear h h1
      go_enter Tryd.func35, Tryd.ntmps35
      go_wp2
      go_ret
      rw [HF.out]
      exact ⟨rfl, HBO.out _⟩
    · have HF : Hid (fault f = 0) := by show _ = _; simp [fault, h, h1]
      have t1 : decide ((33792 : Int) < f.text.length) = false := by simp; omega
      clear h h1
      go_enter Tryd.func35, Tryd.ntmps35
      go_wp2
      go_ret
      rw [HF.out]
      exact ⟨rfl, HBO.out _⟩
end Go.Proofs.YtlmdbcmaophhnaaDoor
