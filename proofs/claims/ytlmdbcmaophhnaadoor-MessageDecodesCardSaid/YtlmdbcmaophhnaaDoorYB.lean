import Derived.Test.YtlmdbcmaophhnaaDoorYA
namespace Go.Proofs.YtlmdbcmaophhnaaDoor
open Go.RowKit

theorem joined_one (s : ByteArray) : joined [s] = s.data.toList := by simp [joined, Lib.join_one]
theorem joined_snoc (l : List ByteArray) (s : ByteArray) (h : l ≠ []) : joined (l ++ [s]) = joined l ++ 44 :: s.data.toList := by
  cases l with
  | nil => exact absurd rfl h
  | cons x r => simp [joined, Lib.join_cons, Lib.joinTail]
theorem app_bel {w wr w' : World} {e : TypeId} {n c : Nat} {A : Option Addr} {xs : List Value} (hbw : Below w.heap.size w wr) (hro : wr.ownsRow w.heap.size e 1 (.slice A n c) n xs) (hg : wr.grownBy w' (Value.slice A n c).ownBlock) : Below w.heap.size w w' :=
  hbw.trans (((Kept.refl w.heap.size [e] wr).grown hg (fun k hk => by obtain ⟨a, cs, b⟩ := own_box hro k hk; exact ⟨a, e, cs, by simp, b⟩)).below hbw.size)

set_option maxHeartbeats 2000000 in
set_option maxRecDepth 100000 in
theorem joined_any (w : World) (A : Option Addr) (c : Nat) (ss : List ByteArray) (hL : Lies w w.heap.size A (sv ss)) (hN : ss.length ≤ 64) (hall : ss.all nameOk = true) :
    Calls Tryd.prog 57 #[.slice A ss.length c] w fun e w' => ∃ A' c', e = .returned (.slice A' (joined ss).length c') ∧ w'.ownsRow w.heap.size 5 1 (.slice A' (joined ss).length c') (joined ss).length (bv (joined ss)) ∧ Below w.heap.size w w' := by
  have HL := hid hL
  have HA := hid hall
  clear hL hall
  go_enter Tryd.func57, Tryd.ntmps57
  go_wp2
  go_loopw [8, 3] (fun i v wr => ∃ (k : Nat) (A' : Option Addr) (c' n : Nat), k ≤ ss.length ∧ i = .int .i64 k ∧ v = .slice A' n c' ∧ wr.ownsRow w.heap.size 5 1 (.slice A' n c') n (bv (joined (ss.take k))) ∧ Below w.heap.size w wr ∧ Hid ((joined (ss.take k)).length = n)) (fun i _ _ => ss.length - (intOf i).toNat)
  case atStart => exact ⟨0, none, 0, 0, Nat.zero_le _, rfl, rfl, World.ownsRow_nil _ _ _ _, Below.refl _ _, rfl⟩
  case round =>
    obtain ⟨k, A', c', n, hk, rfl, rfl, hro, hbw, HN⟩ := hrel
    have HRO := hid hro
    have HBW := hid hbw
    have hsz : w.heap.size ≤ wr.heap.size := hbw.size
    by_cases hlt : k < ss.length
    · obtain ⟨b, o, rfl, hb, hcell⟩ := HL.out (by intro e; have := congrArg List.length e; simp [sv] at this; rw [this] at hlt; simp at hlt)
      have hck : wr.cell? ⟨b, o + k, none⟩ = some (.string ss[k]) := (hbw.cell (p := ⟨b, _, none⟩) hb).trans (hcell k _ (by simp [sv, hlt]))
      have hn : n ≤ 4160 := by
        rw [← HN.out]
        refine joined_len _ ?_ (by simp; omega)
        rw [List.all_eq_true]
        exact fun s hs => List.all_eq_true.1 HA.out s (List.mem_of_mem_take hs)
      have hok := List.all_eq_true.1 HA.out ss[k] (List.getElem_mem hlt)
      simp only [nameOk, Bool.and_eq_true, decide_eq_true_eq] at hok
      obtain ⟨⟨s1, s2⟩, _⟩ := hok
      have hT := take_snoc ss k hlt
      clear hcell hro hbw
      obtain ⟨s, Hs⟩ : ∃ z, Hid (ss[k] = z) := ⟨_, hid rfl⟩
      rw [Hs.out] at hck s1 s2 hT
      have HT := hid hT
      clear hT Hs
      obtain ⟨i5, hi5, hz5, hz51, hz52⟩ := info_parts Tryd.info5
      by_cases hk0 : k = 0
      · subst hk0
        have hn0 : n = 0 := by rw [← HN.out]; rfl
        rw [Nat.add_zero] at hck
        subst hn0
        have HJ : Hid (joined (ss.take (0 + 1)) = s.data.toList) := by
          show _ = _
          rw [HT.out]
          simp [joined_one]
        go_wp2_with (first
          | (at_builtin
             (
               refine wpList_app_str _ rfl (.tmp 18) (.tmp 19) 23 9 rfl w.heap.size 5 i5 Tryd.underlying23 Tryd.underlying9 hi5 hz5 hz51 hz52 A' 0 c' _ rfl HRO.out s rfl ?g3 ?g4 ?g5 ?_
               case g3 => unfold maxLen; omega
               case g4 => omega
               case g5 => omega
               intro A8 c8 w8 ho8 hg8
               have HB8 := hid (app_bel HBW.out HRO.out hg8)
               have HO8 := hid ho8
               clear ho8 hg8)))
        go_roundw
        case rel =>
          refine ⟨0 + 1, A8, c8, s.size, by omega, by first | rfl | go_num, rfl, ?_, HB8.out, ?_⟩
          · have h := HO8.out
            rw [Nat.zero_add] at h
            rw [HJ.out]
            exact h
          · show _ = _
            rw [HJ.out]
            simp
        case measure => simp [intOf]; omega
      · have HJ : Hid (joined (ss.take (k + 1)) = joined (ss.take k) ++ 44 :: s.data.toList) := by
          show _ = _
          rw [HT.out]
          exact joined_snoc _ _ (by intro e; have := congrArg List.length e; rw [List.length_take, List.length_nil] at this; omega)
        have hk1 : (0 : Int) < k := by omega
        go_wp2_with (first
          | (at_builtin
             (
               have hl7 := lit_lies wr #[.int .u8 44] 5 (0, 0) wr.heap.size rfl
               refine wpList_app _ rfl (.tmp 15) (.tmp 16) 23 rfl w.heap.size 5 i5 _ 1 1 Tryd.underlying23 hi5 hz5 hz51 hz52 rfl (by decide) A' n c' (bv (joined (ss.take k))) rfl (HRO.out.alloc _) (wr.heap.size + 1) (some ⟨wr.heap.size, 0, none⟩) 1 1 (#[.int .u8 44] : Array Value).toList rfl rfl hl7 (bv_one [44]) ?g3 ?g4 ?g5 ?_
               case g3 => unfold maxLen; omega
               case g4 => omega
               case g5 => simp; omega
               intro A6 c6 w6 ho6 hg6
               have hb6 := app_bel (HBW.out.alloc hsz _) (HRO.out.alloc _) hg6
               have HB6 := hid hb6
               have HO6 := hid ho6
               have hz6 : w.heap.size ≤ w6.heap.size := hb6.size
               clear ho6 hg6 hb6 hl7))
          | (at_builtin
             (
               refine wpList_app_str _ rfl (.tmp 18) (.tmp 19) 23 9 rfl w.heap.size 5 i5 Tryd.underlying23 Tryd.underlying9 hi5 hz5 hz51 hz52 A6 (n + 1) c6 _ rfl HO6.out s rfl ?g3 ?g4 ?g5 ?_
               case g3 => unfold maxLen; omega
               case g4 => omega
               case g5 => omega
               intro A8 c8 w8 ho8 hg8
               have HB8 := hid (app_bel HB6.out HO6.out hg8)
               have HO8 := hid ho8
               clear ho8 hg8)))
        go_roundw
        case rel =>
          refine ⟨k + 1, A8, c8, n + 1 + s.size, by omega, by first | rfl | go_num, by first | rfl | go_num, ?_, HB8.out, ?_⟩
          · have e : bv (joined (ss.take (k + 1))) = bv (joined (ss.take k)) ++ (#[.int .u8 44] : Array Value).toList ++ bv s.data.toList := by
              rw [HJ.out, bv_append, List.append_assoc]; rfl
            rw [e]
            exact HO8.out
          · show _ = _
            rw [HJ.out, List.length_append, HN.out, List.length_cons]
            simp
            omega
        case measure => simp [intOf]; omega
    · have hd : ss.take k = ss := List.take_of_length_le (by omega)
      rw [hd] at HRO HN
      go_wp2
      go_ret
      rw [HN.out]
      exact ⟨_, _, rfl, HRO.out, HBW.out⟩
end Go.Proofs.YtlmdbcmaophhnaaDoor
