import Derived.Test.YtoedhblihodgdaaDoorWK
namespace Go.Proofs.YtoedhblihodgdaaDoor
open Go.RowKit

set_option maxHeartbeats 1000000 in
set_option maxRecDepth 100000 in
theorem strings_any (w : World) (B B2 : Nat) (A A2 : Option Addr) (c c2 : Nat) (xs ys : List ByteArray) (hx : Lies w B A (sv xs)) (hy : Lies w B2 A2 (sv ys)) (hl : xs.length ≤ maxLen) (hl2 : ys.length ≤ maxLen) :
    Calls Tryd.prog 25 #[.slice A xs.length c, .slice A2 ys.length c2] w fun e w' => e = .returned (.bool (decide (xs = ys))) ∧ Quiet w w' := by
  unfold maxLen at hl hl2
  have HX := hid hx
  have HY := hid hy
  clear hx hy
  by_cases hlen : xs.length = ys.length
  · have ht : ((xs.length : Int) == ys.length) = true := by simp [hlen]
    have ht2 : ((xs.length : Int) != ys.length) = false := by simp [hlen]
    have HL := hid hlen
    clear hlen
    go_enter Tryd.func25, Tryd.ntmps25
    go_wp2
    go_loopw [13] (fun i wr => ∃ k d : Nat, k ≤ xs.length ∧ i = .int .i64 k ∧ wr = w.drewN d ∧ Hid (xs.take k = ys.take k)) (fun i _ => xs.length - (intOf i).toNat)
    case atStart => exact ⟨0, 0, Nat.zero_le _, rfl, rfl, rfl⟩
    case round =>
      obtain ⟨k, d, hk, rfl, rfl, HT⟩ := hrel
      by_cases hlt : k < xs.length
      · have hlt2 : k < ys.length := by have := HL.out; omega
        obtain ⟨b, o, rfl, _, hc1⟩ := HX.out (by intro e; have := congrArg List.length e; simp [sv] at this; subst this; simp at hlt)
        obtain ⟨b2, o2, rfl, _, hc2⟩ := HY.out (by intro e; have := congrArg List.length e; simp [sv] at this; subst this; simp at hlt2)
        have c1 : w.cell? ⟨b, o + k, none⟩ = some (.string xs[k]) := hc1 k _ (by simp [sv, hlt])
        have c2 : w.cell? ⟨b2, o2 + k, none⟩ = some (.string ys[k]) := hc2 k _ (by simp [sv, hlt2])
        clear hc1 hc2
        have hi1 : (k : Int) < xs.length := by omega
        have hi2 : (k : Int) < ys.length := by omega
        by_cases he : xs[k] = ys[k]
        · have t1 : (xs[k].toList == ys[k].toList) = true := by rw [he]; simp
          have HS : Hid (xs.take (k + 1) = ys.take (k + 1)) := by
            show _ = _
            rw [take_snoc _ _ hlt, take_snoc _ _ hlt2, HT.out, he]
          clear he
          go_wp2
          go_quiet (fail)
          go_wp2
          go_roundw
          case rel => exact ⟨k + 1, _, by omega, by go_num, rfl, HS.out⟩
          case measure => simp [intOf]; omega
        · have t1 : (xs[k].toList == ys[k].toList) = false := by
            simp only [beq_eq_false_iff_ne, ne_eq, ByteArray.toList_eq]
            intro e
            exact he (ByteArray.ext (Array.ext' e))
          have hF : Hid (decide (xs = ys) = false) := by
            show _ = _
            simp
            exact list_ne k hlt hlt2 he
          clear he
          go_wp2
          go_quiet (fail)
          go_wp2
          go_ret
          rw [hF.out]
          exact ⟨rfl, quiet2 _ _ _⟩
      · have hF : Hid (decide (xs = ys) = true) := by
          show _ = _
          have h := HT.out
          rw [List.take_of_length_le (by omega), List.take_of_length_le (by have := HL.out; omega)] at h
          simp [h]
        go_wp2
        go_ret
        rw [hF.out]
        exact ⟨rfl, _, rfl⟩
  · have hF : Hid (decide (xs = ys) = false) := by
      show _ = _
      simp
      intro e
      exact hlen (by rw [e])
    have ht : ((xs.length : Int) == ys.length) = false := by simp; omega
    have ht2 : ((xs.length : Int) != ys.length) = true := by simp; omega
    clear hlen
    go_enter Tryd.func25, Tryd.ntmps25
    go_wp2
    go_ret
    rw [hF.out]
    exact ⟨rfl, Quiet.refl _⟩


deriving instance DecidableEq for Fd
theorem quiet_any {P : Program} {f : FuncId} {args : Array Value} {W : World} {a : Nat} {b : Bool} (h : Calls P f args (W.drewN a) fun e w' => e = .returned (.bool b) ∧ Quiet (W.drewN a) w') :
    Calls P f args (W.drewN a) fun e w'' => e = .returned (.bool b) ∧ ∃ m, w'' = W.drewN m :=
  h.mono fun _ _ ⟨he, m, hm⟩ => ⟨he, a + m, by rw [hm, World.drewN_drewN]⟩

theorem quiet_two {P : Program} {f : FuncId} {args : Array Value} {W : World} {a n : Nat} {b : Bool} (h : Calls P f args (W.drewN (a + n)) fun e w' => e = .returned (.bool b) ∧ Quiet (W.drewN (a + n)) w') :
    Calls P f args (W.drewN (a + n)) fun e w'' => e = .returned (.bool b) ∧ ∃ m, w'' = W.drewN (a + m) :=
  h.mono fun _ _ ⟨he, m, hm⟩ => ⟨he, n + m, by rw [hm, World.drewN_drewN, Nat.add_assoc]⟩

set_option maxHeartbeats 2000000 in
set_option maxRecDepth 100000 in
theorem same_any (w : World) (B B2 : Nat) (A A2 : Option Addr) (c c2 : Nat) (xs ys : List Fd) (hx : FdsV w B A xs) (hy : FdsV w B2 A2 ys) (hl : xs.length ≤ maxLen) (hl2 : ys.length ≤ maxLen) :
    Calls Tryd.prog 14 #[.slice A xs.length c, .slice A2 ys.length c2] w fun e w' => e = .returned (.bool (decide (xs = ys))) ∧ Quiet w w' := by
  unfold maxLen at hl hl2
  have HX := hid hx
  have HY := hid hy
  clear hx hy
  by_cases hlen : xs.length = ys.length
  · have ht : ((xs.length : Int) == ys.length) = true := by simp [hlen]
    have ht2 : ((xs.length : Int) != ys.length) = false := by simp [hlen]
    have HL := hid hlen
    clear hlen
    go_enter Tryd.func14, Tryd.ntmps14
    go_wp2
    go_loopw [13] (fun i wr => ∃ k d : Nat, k ≤ xs.length ∧ i = .int .i64 k ∧ wr = w.drewN d ∧ Hid (xs.take k = ys.take k)) (fun i _ => xs.length - (intOf i).toNat)
    case atStart => exact ⟨0, 0, Nat.zero_le _, rfl, rfl, rfl⟩
    case round =>
      obtain ⟨k, d, hk, rfl, rfl, HT⟩ := hrel
      by_cases hlt : k < xs.length
      · have hlt2 : k < ys.length := by have := HL.out; omega
        obtain ⟨b, o, rfl, _, hc1⟩ := HX.out (by intro e; rw [e] at hlt; simp at hlt)
        obtain ⟨b2, o2, rfl, _, hc2⟩ := HY.out (by intro e; rw [e] at hlt2; simp at hlt2)
        obtain ⟨tA, tc, lA, lc, hf1, c0, c1, c2', c3⟩ := hc1 k hlt
        obtain ⟨tA2, tc2, lA2, lc2, hf2, d0, d1, d2, d3⟩ := hc2 k hlt2
        clear hc1 hc2
        have hi1 : (k : Int) < xs.length := by omega
        have hi2 : (k : Int) < ys.length := by omega
        obtain ⟨_, _, _, _, e1, _, _, ht1, hl1, _, hT1, hL1, _⟩ := hf1
        obtain ⟨_, _, _, _, e2, _, _, ht2', hl2', _, hT2, hL2, _⟩ := hf2
        simp only [Value.agg.injEq, Array.mk.injEq, List.cons.injEq, Value.slice.injEq, true_and, and_true] at e1 e2
        obtain ⟨⟨rfl, rfl⟩, rfl, rfl⟩ := e1
        obtain ⟨⟨rfl, rfl⟩, rfl, rfl⟩ := e2
        have HB : ∀ a, Calls Tryd.prog 13 #[.slice tA xs[k].text.length tc, .slice tA2 ys[k].text.length tc2] (w.drewN a) fun e w' => e = .returned (.bool (decide (xs[k].text = ys[k].text))) ∧ Quiet (w.drewN a) w' :=
          fun a => bytes_any _ _ _ _ _ _ _ _ _ (hT1.drewN a) (hT2.drewN a) ht1 ht2'
        have HS : ∀ a, Calls Tryd.prog 25 #[.slice lA xs[k].list.length lc, .slice lA2 ys[k].list.length lc2] (w.drewN a) fun e w' => e = .returned (.bool (decide (xs[k].list = ys[k].list))) ∧ Quiet (w.drewN a) w' :=
          fun a => strings_any _ _ _ _ _ _ _ _ _ (hL1.drewN a) (hL2.drewN a) hl1 hl2'
        clear hT1 hT2 hL1 hL2
        by_cases h1 : xs[k].kind = ys[k].kind
        · have t1 : (xs[k].kind == ys[k].kind) = true := by simpa using h1
          have t1' : (xs[k].kind != ys[k].kind) = false := by simpa using h1
          by_cases h2 : xs[k].n = ys[k].n
          · have t2 : ((xs[k].n : Int) == ys[k].n) = true := by simp [h2]
            have t2' : ((xs[k].n : Int) != ys[k].n) = false := by simp [h2]
            by_cases h3 : xs[k].text = ys[k].text
            · have t3 : decide (xs[k].text = ys[k].text) = true := by simp [h3]
              rw [t3] at HB
              by_cases h4 : xs[k].list = ys[k].list
              · have t4 : decide (xs[k].list = ys[k].list) = true := by simp [h4]
                rw [t4] at HS
                have HE : Hid (xs.take (k + 1) = ys.take (k + 1)) := by
                  show _ = _
                  have he : xs[k] = ys[k] := by
                    revert h1 h2 h3 h4
                    generalize xs[k] = f
                    generalize ys[k] = g
                    intro h1 h2 h3 h4
                    cases f; cases g
                    simp only at h1 h2 h3 h4
                    subst h1; subst h2; subst h3; subst h4
                    rfl
                  rw [take_snoc _ _ hlt, take_snoc _ _ hlt2, HT.out, he]
                have HB' := hid HB
                have HS' := hid HS
                clear h1 h2 h3 h4 t3 t4 HB HS
                go_wp2
                go_quiet (first
                  | (go_at_call 13; first | exact quiet_two (HB'.out _) | exact quiet_any (HB'.out _))
                  | (go_at_call 25; first | exact quiet_two (HS'.out _) | exact quiet_any (HS'.out _)))
                go_wp2
                go_roundw
                case rel => exact ⟨k + 1, _, by omega, by go_num, rfl, HE.out⟩
                case measure => simp [intOf]; omega
              · have t4 : decide (xs[k].list = ys[k].list) = false := by simp [h4]
                rw [t4] at HS
                have hF : Hid (decide (xs = ys) = false) := by
                  show _ = _
                  simp
                  exact list_ne k hlt hlt2 (fun e => h4 (by rw [e]))
                have HB' := hid HB
                have HS' := hid HS
                clear h1 h2 h3 h4 t3 t4 HB HS
                go_wp2
                go_quiet (first
                  | (go_at_call 13; first | exact quiet_two (HB'.out _) | exact quiet_any (HB'.out _))
                  | (go_at_call 25; first | exact quiet_two (HS'.out _) | exact quiet_any (HS'.out _)))
                go_wp2
                go_ret
                rw [hF.out]
                exact ⟨rfl, quiet2 _ _ _⟩
            · have t3 : decide (xs[k].text = ys[k].text) = false := by simp [h3]
              rw [t3] at HB
              have hF : Hid (decide (xs = ys) = false) := by
                show _ = _
                simp
                exact list_ne k hlt hlt2 (fun e => h3 (by rw [e]))
              have HB' := hid HB
              have HS' := hid HS
              clear h1 h2 h3 t3 HB HS
              go_wp2
              go_quiet (first
                | (go_at_call 13; first | exact quiet_two (HB'.out _) | exact quiet_any (HB'.out _))
                | (go_at_call 25; first | exact quiet_two (HS'.out _) | exact quiet_any (HS'.out _)))
              go_wp2
              go_ret
              rw [hF.out]
              exact ⟨rfl, quiet2 _ _ _⟩
          · have t2 : ((xs[k].n : Int) == ys[k].n) = false := by simp; omega
            have t2' : ((xs[k].n : Int) != ys[k].n) = true := by simp; omega
            have hF : Hid (decide (xs = ys) = false) := by
              show _ = _
              simp
              exact list_ne k hlt hlt2 (fun e => h2 (by rw [e]))
            have HB' := hid HB
            have HS' := hid HS
            clear h1 h2 HB HS
            go_wp2
            go_quiet (first
              | (go_at_call 13; first | exact quiet_two (HB'.out _) | exact quiet_any (HB'.out _))
              | (go_at_call 25; first | exact quiet_two (HS'.out _) | exact quiet_any (HS'.out _)))
            go_wp2
            go_ret
            rw [hF.out]
            exact ⟨rfl, quiet2 _ _ _⟩
        · have t1 : (xs[k].kind == ys[k].kind) = false := by simpa using h1
          have t1' : (xs[k].kind != ys[k].kind) = true := by simpa using h1
          have hF : Hid (decide (xs = ys) = false) := by
            show _ = _
            simp
            exact list_ne k hlt hlt2 (fun e => h1 (by rw [e]))
          have HB' := hid HB
          have HS' := hid HS
          clear h1 HB HS
          go_wp2
          go_quiet (first
            | (go_at_call 13; first | exact quiet_two (HB'.out _) | exact quiet_any (HB'.out _))
            | (go_at_call 25; first | exact quiet_two (HS'.out _) | exact quiet_any (HS'.out _)))
          go_wp2
          go_ret
          rw [hF.out]
          exact ⟨rfl, quiet2 _ _ _⟩
      · have hF : Hid (decide (xs = ys) = true) := by
          show _ = _
          have h := HT.out
          rw [List.take_of_length_le (by omega), List.take_of_length_le (by have := HL.out; omega)] at h
          simp [h]
        go_wp2
        go_ret
        rw [hF.out]
        exact ⟨rfl, _, rfl⟩
  · have hF : Hid (decide (xs = ys) = false) := by
      show _ = _
      simp
      intro e
      exact hlen (by rw [e])
    have ht : ((xs.length : Int) == ys.length) = false := by simp; omega
    have ht2 : ((xs.length : Int) != ys.length) = true := by simp; omega
    clear hlen
    go_enter Tryd.func14, Tryd.ntmps14
    go_wp2
    go_ret
    rw [hF.out]
    exact ⟨rfl, Quiet.refl _⟩
end Go.Proofs.YtoedhblihodgdaaDoor
