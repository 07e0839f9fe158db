import Derived.Test.YtgollkckdnaegaaFC
namespace Go.Proofs.Ytgollkckdnaegaa
open Go.RowKit

theorem flat_snoc (ls : List (List UInt8)) (k : Nat) (h : k < ls.length) : (ls.take (k + 1)).flatten = (ls.take k).flatten ++ ls[k] := by
  rw [take_snoc _ _ h, List.flatten_append, List.flatten_cons, List.flatten_nil, List.append_nil]
theorem flat_le (ls : List (List UInt8)) (k : Nat) : (ls.take k).flatten.length ≤ ls.flatten.length := by
  conv => rhs; rw [← List.take_append_drop k ls, List.flatten_append, List.length_append]
  omega

set_option maxHeartbeats 2000000 in
set_option maxRecDepth 100000 in
theorem concat_any (w : World) (B : Nat) (A : Option Addr) (c : Nat) (ls : List (List UInt8)) (hl : LisV w B A ls) (hB : B ≤ w.heap.size) (hn : ls.length ≤ 1000) (ht : ls.flatten.length ≤ 1000000) :
    Calls Try.prog 29 #[.slice A ls.length c] w fun e w' => ∃ A' c', e = .returned (.slice A' ls.flatten.length c') ∧ w'.ownsRow w.heap.size 5 1 (.slice A' ls.flatten.length c') ls.flatten.length (bv ls.flatten) ∧ Below w.heap.size w w' := by
  obtain ⟨i0, hi0, hz0, hz1, hz2⟩ := info_parts Try.info5
  have HL := hid hl
  clear hl
  have HF : Hid (∀ k, (ls.take k).flatten.length ≤ ls.flatten.length) := flat_le ls
  obtain ⟨T, HT⟩ : ∃ T, Hid (ls.flatten.length = T) := ⟨_, hid rfl⟩
  rw [HT.out] at ht HF ⊢
  go_enter Try.func29, Try.ntmps29
  go_wp2
  go_loop [11, 3] (fun i s => ∃ k : Nat, k ≤ ls.length ∧ i = .int .i64 k ∧ s = .int .i64 (ls.take k).flatten.length) (fun i _ => ls.length - (intOf i).toNat)
  case atStart => exact ⟨0, Nat.zero_le _, rfl, rfl⟩
  case round =>
    obtain ⟨k, hk, rfl, rfl⟩ := hrel
    by_cases hlt : k < ls.length
    · obtain ⟨b, o, rfl, hbw, hcells⟩ := HL.out (by intro e; rw [e] at hlt; simp at hlt)
      obtain ⟨A', c', hc, hs⟩ := hcells k hlt
      have HS := hid (flat_snoc ls k hlt)
      have hF1 := HF.out (k + 1)
      have hle : (ls.take (k + 1)).flatten.length = (ls.take k).flatten.length + ls[k].length := by rw [HS.out, List.length_append]
      rw [hle] at hF1
      obtain ⟨x, Hx⟩ : ∃ x, Hid ((ls.take k).flatten.length = x) := ⟨_, hid rfl⟩
      obtain ⟨y, Hy⟩ : ∃ y, Hid (ls[k].length = y) := ⟨_, hid rfl⟩
      obtain ⟨z, Hz⟩ : ∃ z, Hid ((ls.take (k + 1)).flatten.length = z) := ⟨_, hid rfl⟩
      rw [Hz.out, Hx.out, Hy.out] at hle
      rw [Hx.out, Hy.out] at hF1
      rw [Hy.out] at hc
      rw [Hx.out]
      have hneg : ¬ ((x : Int) + y < 0) := by omega
      clear hcells hs
      go_wp2
      go_roundw
      case rel => exact ⟨k + 1, by omega, by go_num, by rw [Hz.out, hle]; go_num⟩
      case measure => simp [intOf]; omega
    · have hd : ls.take k = ls := List.take_of_length_le (by omega)
      rw [hd, HT.out]
      go_wp2_with (first
        | (go_at_call 39
           ((with_reducible refine (grow_nil _ T ht).mono ?_); rintro e w1 ⟨A1, c1, rfl, ho1, hb1⟩)
           have HO1 := hid ho1
           have HB1 := hid hb1
           have hz1w : w.heap.size ≤ w1.heap.size := hb1.size
           clear ho1 hb1))
      go_loopw [27, 6] (fun i s W2 => ∃ (k m : Nat) (A' : Option Addr) (c' : Nat), k ≤ ls.length ∧ i = .int .i64 k ∧ s = .slice A' m c' ∧ Hid ((ls.take k).flatten.length = m) ∧ W2.ownsRow w.heap.size 5 1 (.slice A' m c') m (bv (ls.take k).flatten) ∧ Below w.heap.size w W2) (fun i _ _ => ls.length - (intOf i).toNat)
      case atStart => exact ⟨0, 0, A1, c1, Nat.zero_le _, rfl, rfl, rfl, HO1.out, HB1.out⟩
      case round =>
        obtain ⟨k2, m, A', c', hk2, rfl, rfl, Hm, hro, hbw⟩ := hrel
        have HRO := hid hro
        have HBW := hid hbw
        have hszr : w.heap.size ≤ wr.heap.size := hbw.size
        clear hro hbw
        by_cases hlt2 : k2 < ls.length
        · obtain ⟨b, o, rfl, hbB, hcells⟩ := HL.out (by intro e; rw [e] at hlt2; simp at hlt2)
          obtain ⟨A2, c2, hc, hs⟩ := hcells k2 hlt2
          have hcc := (HBW.out.cell (p := ⟨b, o + k2, none⟩) (by show b < _; omega)).trans hc
          have HS2 := hid ((hs.more hB).below HBW.out)
          have HS := hid (flat_snoc ls k2 hlt2)
          have hF1 := HF.out (k2 + 1)
          have hle : (ls.take (k2 + 1)).flatten.length = (ls.take k2).flatten.length + ls[k2].length := by rw [HS.out, List.length_append]
          rw [hle, Hm.out] at hF1
          rw [Hm.out] at hle
          have HLE := hid hle
          obtain ⟨p, Hp⟩ : ∃ p, Hid (ls[k2] = p) := ⟨_, hid rfl⟩
          rw [Hp.out] at hcc hF1 HS2 HLE HS
          clear hcells hs hc hle
          go_wp2_with (at_builtin; refine wpList_app _ rfl (.tmp 31) (.tmp 32) 27 rfl w.heap.size 5 i0 _ 1 1 Try.underlying27 hi0 hz0 hz1 hz2 rfl (by omega) A' m c' (bv (ls.take k2).flatten) rfl HRO.out w.heap.size A2 p.length c2 (bv p) rfl ?c0 ?c1 ?c2 ?b1 ?b2 ?b3 ?grow)
          case c0 => simp [bv_length]
          case c1 => exact HS2.out.2.2.2
          case c2 => exact bv_one _
          case b1 => unfold maxLen; omega
          case b2 => omega
          case b3 => omega
          case grow =>
            intro A3 c3 w3 ho3 hg3
            have HO3 := hid ho3
            have HB3 := hid (app_bel HBW.out HRO.out hg3)
            clear ho3 hg3
            go_wp2
            go_roundw
            case rel =>
              refine ⟨k2 + 1, m + p.length, A3, c3, by omega, by go_num, rfl, HLE.out, ?_, HB3.out⟩
              rw [HS.out, bv_append]
              exact HO3.out
            case measure => simp [intOf]; omega
        · have hd2 : ls.take k2 = ls := List.take_of_length_le (by omega)
          rw [hd2] at HRO Hm
          have hmT : m = T := Hm.out.symm.trans HT.out
          subst hmT
          go_wp2
          go_ret
          exact ⟨A', c', rfl, HRO.out, HBW.out⟩
end Go.Proofs.Ytgollkckdnaegaa
