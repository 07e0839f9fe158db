import Derived.Test.YtfpkjocoifoigaaGreatDoorNB
namespace Go.Proofs.YtfpkjocoifoigaaGreatDoor
open Go.RowKit

set_option maxHeartbeats 400000 in
set_option maxRecDepth 100000 in
/-- The document's own word on a name is the program's. -/
theorem oname_any (s : ByteArray) (w : World) (hs : s.size ≤ maxLen) :
    Calls Tryz.prog 71 #[.string s] w fun e w' => e = .returned (.bool (nameOk s)) ∧ w = w' := by
  unfold maxLen at hs
  by_cases h0 : 1 ≤ s.size ∧ s.size ≤ 64
  · obtain ⟨h1, h2⟩ := h0
    have hd1 : decide ((s.size : Int) < 1) = false := by simp; omega
    have hd2 : decide (64 < (s.size : Int)) = false := by simp; omega
    go_enter Tryz.func71, Tryz.ntmps71
    go_wp2
    go_loop [3] (fun i => ∃ k : Nat, k ≤ s.size ∧ i = .int .i64 k ∧ (s.data.toList.take k).all nameByte = true) (fun i => s.size - (intOf i).toNat)
    case atStart => exact ⟨0, Nat.zero_le _, rfl, rfl⟩
    case round =>
      obtain ⟨k, hk, rfl, hal⟩ := hrel
      have HA := hid hal; clear hal
      by_cases hlt : k < s.size
      · by_cases hb : nameByte s[k] = true
        · have hbi := (nameByte_iff _).1 hb
          have hts := take_snoc s.data.toList k (by simpa using hlt)
          have hS : (s.data.toList.take (k + 1)).all nameByte = true := by
            rw [hts, List.all_append, HA.out]
            simp [← ByteArray.getElem_eq_getElem_data, hb]
          have HS := hid hS
          clear hts hb hS
          have ha : (33 : Int) ≤ s[k].toNat := by omega
          have hb : (s[k].toNat : Int) ≤ 126 := by omega
          have hc : ((s[k].toNat : Int) == 44) = false := by simp; omega
          clear hbi
          go_wp2
          go_round
          case rel => exact ⟨k + 1, by omega, by go_num, HS.out⟩
          case measure => simp [intOf]; omega
        · have HF := hid (nameOk_bad s k hlt (by simpa using hb))
          have HB : Hid (¬ (33 ≤ s[k].toNat ∧ s[k].toNat ≤ 126 ∧ s[k].toNat ≠ 44)) := fun h => hb ((nameByte_iff _).2 h)
          clear hb
          go_wp2
          all_goals first
            | (go_ret; exact ⟨ret_bool HF.out.symm, rfl⟩)
            | (exfalso; have h1 := HB.out; simp at *; omega)
      · have hks : k = s.size := by omega
        have HK := hid hks
        clear hks
        go_wp2
        go_ret
        exact ⟨ret_bool (nameOk_all s h1 h2 (by have h := HA.out; rw [HK.out, List.take_of_length_le (by simp)] at h; exact h)).symm, rfl⟩
  · have HF := hid (nameOk_len s h0)
    rcases Nat.lt_or_ge s.size 1 with h1 | h1
    · have hd1 : (s.size : Int) < 1 := by omega
      clear h0 h1
      go_enter Tryz.func71, Tryz.ntmps71
      go_wp2
      go_ret
      exact ⟨ret_bool HF.out.symm, rfl⟩
    · have hd1 : (1 : Int) ≤ s.size := by omega
      have hd2 : (64 : Int) < s.size := by omega
      clear h0 h1
      go_enter Tryz.func71, Tryz.ntmps71
      go_wp2
      go_ret
      exact ⟨ret_bool HF.out.symm, rfl⟩

set_option maxHeartbeats 400000 in
set_option maxRecDepth 100000 in
theorem four_any (n : Nat) (h : n < 4294967296) (w : World) :
    Calls Tryz.prog 72 #[.int .u32 n] w fun e w' => ∃ A c, e = .returned (.slice A 4 c) ∧ w'.ownsRow w.heap.size 5 1 (.slice A 4 c) 4 (bv (four n)) ∧ Below w.heap.size w w' := by
  have h1 : (n : Int) < 4294967296 := by omega
  have HV := hid (four_v n h)
  go_enter Tryz.func72, Tryz.ntmps72
  go_wp2
  go_ret
  refine ⟨_, _, rfl, ?_, (Below.refl _ _).alloc (Nat.le_refl _) _⟩
  rw [HV.out]
  exact World.ownsRow_lit w _ 4 (Nat.le_refl _) (by unfold maxLen; omega) rfl

set_option maxHeartbeats 800000 in
set_option maxRecDepth 100000 in
theorem kinds_any (w : World) (A : Option Addr) (c : Nat) (ks : List Int) (hk : Lies w w.heap.size A (ks.map (Value.int .i64))) (hl : ks.length ≤ 1000000) :
    Calls Tryz.prog 38 #[.slice A ks.length c] w fun e w' => e = .returned (.bool (kindsB (ks.map kfd))) ∧ w = w' := by
  have HK := hid hk
  clear hk
  go_enter Tryz.func38, Tryz.ntmps38
  go_wp2
  go_loop [7] (fun i => ∃ k : Nat, k ≤ ks.length ∧ i = .int .i64 k ∧ Hid (∀ j (h : j < ks.length), j < k → kindB ks[j] j ks.length = true)) (fun i => ks.length - (intOf i).toNat)
  case atStart => exact ⟨0, Nat.zero_le _, rfl, fun j _ h => absurd h (by omega)⟩
  case round =>
    obtain ⟨k, hk, rfl, HP⟩ := hrel
    by_cases hlt : k < ks.length
    · obtain ⟨b, o, rfl, hbw, hcells⟩ := HK.out (by intro e; have := congrArg List.length e; simp at this; subst this; simp at hlt)
      have c0 : w.cell? ⟨b, o + k, none⟩ = some (.int .i64 ks[k]) := hcells k _ (by simp [hlt])
      clear hcells
      by_cases hg : kindB ks[k] k ks.length = true
      · have HG : Hid (∀ j (h : j < ks.length), j < k + 1 → kindB ks[j] j ks.length = true) := fun j hj hjk => by
          by_cases e : j = k
          · subst e; exact hg
          · exact HP.out j hj (by omega)
        simp only [kindB, Bool.and_eq_true, Bool.or_eq_true, decide_eq_true_eq] at hg
        obtain ⟨⟨g1, g2⟩, g3⟩ := hg
        generalize ks[k] = kd at *
        by_cases h6 : kd = 6
        · subst h6
          have hkn : k + 1 = ks.length := by
            rcases g3 with g | g
            · exact absurd rfl g
            · exact g
          have t1 : ((k : Int) != (ks.length : Int) - 1) = false := by simp; omega
          clear g3 hkn g1 g2
          go_wp2
          go_round
          case rel => exact ⟨k + 1, by omega, by go_num, HG.out⟩
          case measure => simp [intOf]; omega
        · have t1 : (kd == 6) = false := by simpa using h6
          clear g3 h6
          go_wp2
          go_round
          case rel => exact ⟨k + 1, by omega, by go_num, HG.out⟩
          case measure => simp [intOf]; omega
      · have HF : Hid (kindsB (ks.map kfd) = false) := by
          show _ = _
          rw [Bool.eq_false_iff]
          intro h
          have := (kindsB_iff _).1 h k (by simpa using hlt)
          simp only [List.getElem_map, kfd, List.length_map] at this
          exact hg this
        simp only [kindB, Bool.and_eq_true, Bool.or_eq_true, decide_eq_true_eq] at hg
        generalize ks[k] = kd at *
        by_cases g1 : kd < 1
        · clear hg
          go_wp2
          go_ret
          exact ⟨ret_bool HF.out.symm, rfl⟩
        · have g1' : 1 ≤ kd := by omega
          clear g1
          by_cases g2 : 6 < kd
          · clear hg
            go_wp2
            go_ret
            exact ⟨ret_bool HF.out.symm, rfl⟩
          · have g2' : kd ≤ 6 := by omega
            have g6 : kd = 6 := by
              by_cases h : kd = 6
              · exact h
              · exact absurd ⟨⟨g1', g2'⟩, .inl h⟩ hg
            subst g6
            have hkn : k + 1 ≠ ks.length := fun h => hg ⟨⟨g1', g2'⟩, .inr h⟩
            have t1 : ((k : Int) != (ks.length : Int) - 1) = true := by simp; omega
            clear hg g2 hkn
            go_wp2
            go_ret
            exact ⟨ret_bool HF.out.symm, rfl⟩
    · have HF : Hid (kindsB (ks.map kfd) = true) := (kindsB_iff _).2 fun j hj => by
        have := HP.out j (by simpa using hj) (by simp at hj; omega)
        simpa [kfd] using this
      go_wp2
      go_ret
      exact ⟨ret_bool HF.out.symm, rfl⟩

theorem joined_one (s : ByteArray) : joined [s] = s.data.toList := by simp [joined, Lib.join_one]
theorem joined_snoc (l : List ByteArray) (s : ByteArray) (h : l ≠ []) : joined (l ++ [s]) = joined l ++ 44 :: s.data.toList := by
  cases l with
  | nil => exact absurd rfl h
  | cons x r => simp [joined, Lib.join_cons, Lib.joinTail]
theorem oapp_bel {w wr w' : World} {e : TypeId} {n c : Nat} {A : Option Addr} {xs : List Value} (hbw : Below w.heap.size w wr) (hro : wr.ownsRow w.heap.size e 1 (.slice A n c) n xs) (hg : wr.grownBy w' (Value.slice A n c).ownBlock) : Below w.heap.size w w' :=
  hbw.trans (((Kept.refl w.heap.size [e] wr).grown hg (fun k hk => by obtain ⟨a, cs, b⟩ := own_box hro k hk; exact ⟨a, e, cs, by simp, b⟩)).below hbw.size)

set_option maxHeartbeats 2000000 in
set_option maxRecDepth 100000 in
theorem joined_any (w : World) (A : Option Addr) (c : Nat) (ss : List ByteArray) (hL : Lies w w.heap.size A (sv ss)) (hN : ss.length ≤ 64) (hall : ss.all nameOk = true) :
    Calls Tryz.prog 73 #[.slice A ss.length c] w fun e w' => ∃ A' c', e = .returned (.slice A' (joined ss).length c') ∧ w'.ownsRow w.heap.size 5 1 (.slice A' (joined ss).length c') (joined ss).length (bv (joined ss)) ∧ Below w.heap.size w w' := by
  have HL := hid hL
  have HA := hid hall
  clear hL hall
  go_enter Tryz.func73, Tryz.ntmps73
  go_wp2
  go_loopw [8, 3] (fun i v wr => ∃ (k : Nat) (A' : Option Addr) (c' n : Nat), k ≤ ss.length ∧ i = .int .i64 k ∧ v = .slice A' n c' ∧ wr.ownsRow w.heap.size 5 1 (.slice A' n c') n (bv (joined (ss.take k))) ∧ Below w.heap.size w wr ∧ Hid ((joined (ss.take k)).length = n)) (fun i _ _ => ss.length - (intOf i).toNat)
  case atStart => exact ⟨0, none, 0, 0, Nat.zero_le _, rfl, rfl, World.ownsRow_nil _ _ _ _, Below.refl _ _, rfl⟩
  case round =>
    obtain ⟨k, A', c', n, hk, rfl, rfl, hro, hbw, HN⟩ := hrel
    have HRO := hid hro
    have HBW := hid hbw
    have hsz : w.heap.size ≤ wr.heap.size := hbw.size
    by_cases hlt : k < ss.length
    · obtain ⟨b, o, rfl, hb, hcell⟩ := HL.out (by intro e; have := congrArg List.length e; simp [sv] at this; rw [this] at hlt; simp at hlt)
      have hck : wr.cell? ⟨b, o + k, none⟩ = some (.string ss[k]) := (hbw.cell (p := ⟨b, _, none⟩) hb).trans (hcell k _ (by simp [sv, hlt]))
      have hn : n ≤ 4160 := by
        rw [← HN.out]
        refine joined_len _ ?_ (by simp; omega)
        rw [List.all_eq_true]
        exact fun s hs => List.all_eq_true.1 HA.out s (List.mem_of_mem_take hs)
      have hok := List.all_eq_true.1 HA.out ss[k] (List.getElem_mem hlt)
      simp only [nameOk, Bool.and_eq_true, decide_eq_true_eq] at hok
      obtain ⟨⟨s1, s2⟩, _⟩ := hok
      have hT := take_snoc ss k hlt
      clear hcell hro hbw
      obtain ⟨s, Hs⟩ : ∃ z, Hid (ss[k] = z) := ⟨_, hid rfl⟩
      rw [Hs.out] at hck s1 s2 hT
      have HT := hid hT
      clear hT Hs
      obtain ⟨i5, hi5, hz5, hz51, hz52⟩ := info_parts Tryz.info5
      by_cases hk0 : k = 0
      · subst hk0
        have hn0 : n = 0 := by rw [← HN.out]; rfl
        rw [Nat.add_zero] at hck
        subst hn0
        have HJ : Hid (joined (ss.take (0 + 1)) = s.data.toList) := by
          show _ = _
          rw [HT.out]
          simp [joined_one]
        go_wp2_with (first
          | (at_builtin
             (
               refine wpList_app_str _ rfl (.tmp 18) (.tmp 19) 25 9 rfl w.heap.size 5 i5 Tryz.underlying25 Tryz.underlying9 hi5 hz5 hz51 hz52 A' 0 c' _ rfl HRO.out s rfl ?g3 ?g4 ?g5 ?_
               case g3 => unfold maxLen; omega
               case g4 => omega
               case g5 => omega
               intro A8 c8 w8 ho8 hg8
               have HB8 := hid (oapp_bel HBW.out HRO.out hg8)
               have HO8 := hid ho8
               clear ho8 hg8)))
        go_roundw
        case rel =>
          refine ⟨0 + 1, A8, c8, s.size, by omega, by first | rfl | go_num, rfl, ?_, HB8.out, ?_⟩
          · have h := HO8.out
            rw [Nat.zero_add] at h
            rw [HJ.out]
            exact h
          · show _ = _
            rw [HJ.out]
            simp
        case measure => simp [intOf]; omega
      · have HJ : Hid (joined (ss.take (k + 1)) = joined (ss.take k) ++ 44 :: s.data.toList) := by
          show _ = _
          rw [HT.out]
          exact joined_snoc _ _ (by intro e; have := congrArg List.length e; rw [List.length_take, List.length_nil] at this; omega)
        have hk1 : (0 : Int) < k := by omega
        go_wp2_with (first
          | (at_builtin
             (
               have hl7 := lit_lies wr #[.int .u8 44] 5 (0, 0) wr.heap.size rfl
               refine wpList_app _ rfl (.tmp 15) (.tmp 16) 25 rfl w.heap.size 5 i5 _ 1 1 Tryz.underlying25 hi5 hz5 hz51 hz52 rfl (by decide) A' n c' (bv (joined (ss.take k))) rfl (HRO.out.alloc _) (wr.heap.size + 1) (some ⟨wr.heap.size, 0, none⟩) 1 1 (#[.int .u8 44] : Array Value).toList rfl rfl hl7 (bv_one [44]) ?g3 ?g4 ?g5 ?_
               case g3 => unfold maxLen; omega
               case g4 => omega
               case g5 => simp; omega
               intro A6 c6 w6 ho6 hg6
               have hb6 := oapp_bel (HBW.out.alloc hsz _) (HRO.out.alloc _) hg6
               have HB6 := hid hb6
               have HO6 := hid ho6
               have hz6 : w.heap.size ≤ w6.heap.size := hb6.size
               clear ho6 hg6 hb6 hl7))
          | (at_builtin
             (
               refine wpList_app_str _ rfl (.tmp 18) (.tmp 19) 25 9 rfl w.heap.size 5 i5 Tryz.underlying25 Tryz.underlying9 hi5 hz5 hz51 hz52 A6 (n + 1) c6 _ rfl HO6.out s rfl ?g3 ?g4 ?g5 ?_
               case g3 => unfold maxLen; omega
               case g4 => omega
               case g5 => omega
               intro A8 c8 w8 ho8 hg8
               have HB8 := hid (oapp_bel HB6.out HO6.out hg8)
               have HO8 := hid ho8
               clear ho8 hg8)))
        go_roundw
        case rel =>
          refine ⟨k + 1, A8, c8, n + 1 + s.size, by omega, by first | rfl | go_num, by first | rfl | go_num, ?_, HB8.out, ?_⟩
          · have e : bv (joined (ss.take (k + 1))) = bv (joined (ss.take k)) ++ (#[.int .u8 44] : Array Value).toList ++ bv s.data.toList := by
              rw [HJ.out, bv_append, List.append_assoc]; rfl
            rw [e]
            exact HO8.out
          · show _ = _
            rw [HJ.out, List.length_append, HN.out, List.length_cons]
            simp
            omega
        case measure => simp [intOf]; omega
    · have hd : ss.take k = ss := List.take_of_length_le (by omega)
      rw [hd] at HRO HN
      go_wp2
      go_ret
      rw [HN.out]
      exact ⟨_, _, rfl, HRO.out, HBW.out⟩

set_option maxHeartbeats 2000000 in
set_option maxRecDepth 100000 in
theorem fault_any (w : World) (B : Nat) (v : Value) (f : Fd) (hv : FdV w B v f) (hB : B ≤ w.heap.size) (hk : 1 ≤ f.kind ∧ f.kind ≤ 6) :
    Calls Tryz.prog 39 #[v] w fun e w' => e = .returned (.int .i64 (fault f)) ∧ Below w.heap.size w w' := by
  obtain ⟨tA, tc, lA, lc, rfl, hn, _, htl, hll, ht, _, hT, hsz⟩ := hv
  have hbo : ∀ o, Below w.heap.size w (w.alloc o) := fun o => (Below.refl _ _).alloc (Nat.le_refl _) _
  have HBO := hid hbo
  clear hbo
  unfold maxLen at htl hll
  have hc : f.kind = 1 ∨ f.kind = 2 ∨ f.kind = 3 ∨ f.kind = 4 ∨ f.kind = 5 ∨ f.kind = 6 := by omega
  clear hk
  rcases hc with h | h | h | h | h | h
  · rw [h]
    by_cases h1 : 255 < f.n
    · have HF : Hid (fault f = 5) := by show _ = _; simp [fault, h, h1]
      have t1 : (255 : Int) < f.n := by omega
      clear h h1
      go_enter Tryz.func39, Tryz.ntmps39
      go_wp2
      go_ret
      rw [HF.out]
      exact ⟨rfl, HBO.out _⟩
    · have HF : Hid (fault f = 0) := by show _ = _; simp [fault, h, h1]
      have t1 : decide ((255 : Int) < f.n) = false := by simp; omega
      clear h h1
      go_enter Tryz.func39, Tryz.ntmps39
      go_wp2
      go_ret
      rw [HF.out]
      exact ⟨rfl, HBO.out _⟩
  · rw [h]
    by_cases h1 : 1 < f.n
    · have HF : Hid (fault f = 5) := by show _ = _; simp [fault, h, h1]
      have t1 : (1 : Int) < f.n := by omega
      clear h h1
      go_enter Tryz.func39, Tryz.ntmps39
      go_wp2
      go_ret
      rw [HF.out]
      exact ⟨rfl, HBO.out _⟩
    · have HF : Hid (fault f = 0) := by show _ = _; simp [fault, h, h1]
      have t1 : decide ((1 : Int) < f.n) = false := by simp; omega
      clear h h1
      go_enter Tryz.func39, Tryz.ntmps39
      go_wp2
      go_ret
      rw [HF.out]
      exact ⟨rfl, HBO.out _⟩
  · rw [h]
    have HF : Hid (fault f = 0) := by show _ = _; simp [fault, h]
    clear h
    go_enter Tryz.func39, Tryz.ntmps39
    go_wp2
    go_ret
    rw [HF.out]
    exact ⟨rfl, HBO.out _⟩
  · rw [h]
    by_cases h1 : 32768 < f.text.length
    · have HF : Hid (fault f = 6) := by show _ = _; simp [fault, h, h1]
      have t1 : (32768 : Int) < f.text.length := by omega
      clear h h1
      go_enter Tryz.func39, Tryz.ntmps39
      go_wp2
      go_ret
      rw [HF.out]
      exact ⟨rfl, HBO.out _⟩
    · have HF : Hid (fault f = 0) := by show _ = _; simp [fault, h, h1]
      have t1 : decide ((32768 : Int) < f.text.length) = false := by simp; omega
      clear h h1
      go_enter Tryz.func39, Tryz.ntmps39
      go_wp2
      go_ret
      rw [HF.out]
      exact ⟨rfl, HBO.out _⟩
  · rw [h]
    have HE : Hid (fault f = namesE f.list) := by show _ = _; simp [fault, h]
    clear h
    by_cases h1 : 64 < f.list.length
    · have HF : Hid (fault f = 6) := by show _ = _; rw [HE.out]; simp [namesE, h1]
      have t1 : (64 : Int) < f.list.length := by omega
      clear h1
      go_enter Tryz.func39, Tryz.ntmps39
      go_wp2
      go_ret
      rw [HF.out]
      exact ⟨rfl, HBO.out _⟩
    · have HE2 : Hid (fault f = if f.list.all nameOk then 0 else 4) := by show _ = _; rw [HE.out]; simp [namesE, h1]
      have t1 : decide ((64 : Int) < f.list.length) = false := by simp; omega
      have HS := hid hsz
      have HT := hid hT
      clear hT hsz HE
      go_enter Tryz.func39, Tryz.ntmps39
      go_wp2
      generalize hW : w.alloc _ = w1
      have HT1 : Hid (Lies w1 B lA (sv f.list)) := by subst hW; exact HT.out.alloc hB _
      have HB1 : Hid (Below w.heap.size w w1) := by subst hW; exact HBO.out _
      clear hW HT
      go_loop [43] (fun i => ∃ k : Nat, k ≤ f.list.length ∧ i = .int .i64 k ∧ Hid ((f.list.take k).all nameOk = true)) (fun i => f.list.length - (intOf i).toNat)
      case atStart => exact ⟨0, Nat.zero_le _, rfl, rfl⟩
      case round =>
        obtain ⟨k, hk, rfl, HA⟩ := hrel
        by_cases hlt : k < f.list.length
        · obtain ⟨b, o, rfl, hb, hcell⟩ := HT1.out (by intro e; have := congrArg List.length e; simp [sv] at this; rw [this] at hlt; simp at hlt)
          have hck : w1.cell? ⟨b, o + k, none⟩ = some (.string f.list[k]) := hcell k _ (by simp [sv, hlt])
          have hszk := HS.out f.list[k] (List.getElem_mem hlt)
          clear hcell
          by_cases hb : nameOk f.list[k] = true
          · have HS' : Hid ((f.list.take (k + 1)).all nameOk = true) := by show _ = _; rw [take_snoc _ _ hlt, List.all_append, HA.out]; simp [hb]
            have HB := hid hb; clear hb
            go_wp2_with (go_at_call 71; refine (oname_any _ _ hszk).mono ?_; rintro e w' ⟨he, rfl⟩; rw [HB.out] at he; subst he)
            go_round
            case rel => exact ⟨k + 1, by omega, by go_num, HS'.out⟩
            case measure => simp [intOf]; omega
          · have HB : Hid (nameOk f.list[k] = false) := by show _ = _; simpa using hb
            have HF : Hid (f.list.all nameOk = false) := by show _ = _; rw [List.all_eq_false]; exact ⟨_, List.getElem_mem hlt, hb⟩
            clear hb
            go_wp2_with (go_at_call 71; refine (oname_any _ _ hszk).mono ?_; rintro e w' ⟨he, rfl⟩; rw [HB.out] at he; subst he)
            go_ret
            rw [HE2.out, HF.out]
            exact ⟨rfl, HB1.out⟩
        · have hks : k = f.list.length := by omega
          have HF : Hid (f.list.all nameOk = true) := by have h := HA.out; rw [hks, List.take_length] at h; exact h
          clear hks
          go_wp2
          go_ret
          rw [HE2.out, HF.out]
          exact ⟨rfl, HB1.out⟩
  · rw [h]
    by_cases h1 : 33792 < f.text.length
    · have HF : Hid (fault f = 6) := by show _ = _; simp [fault, h, h1]
      have t1 : (33792 : Int) < f.text.length := by omega
      clear h h1
      go_enter Tryz.func39, Tryz.ntmps39
      go_wp2
      go_ret
      rw [HF.out]
      exact ⟨rfl, HBO.out _⟩
    · have HF : Hid (fault f = 0) := by show _ = _; simp [fault, h, h1]
      have t1 : decide ((33792 : Int) < f.text.length) = false := by simp; omega
      clear h h1
      go_enter Tryz.func39, Tryz.ntmps39
      go_wp2
      go_ret
      rw [HF.out]
      exact ⟨rfl, HBO.out _⟩

def ORowR (w : World) (bs : List UInt8) (e : Ending) (w' : World) : Prop :=
  ∃ A c, e = .returned (.slice A bs.length c) ∧ w'.ownsRow w.heap.size 5 1 (.slice A bs.length c) bs.length (bv bs) ∧ Below w.heap.size w w'

theorem four_w (n : Nat) (h : n < 4294967296) (w : World) :
    Calls Tryz.prog 72 #[.int .u32 (IntKind.u32.wrap n)] w fun e w' => ∃ A c, e = .returned (.slice A 4 c) ∧ w'.ownsRow w.heap.size 5 1 (.slice A 4 c) 4 (bv (four n)) ∧ Below w.heap.size w w' := by
  have e : IntKind.u32.wrap (n : Int) = n := by
    simp [IntKind.wrap, IntKind.bits, IntKind.signed]
    omega
  rw [e]
  exact four_any n h w

set_option maxHeartbeats 2000000 in
set_option maxRecDepth 100000 in
theorem one_any (w : World) (B : Nat) (v : Value) (f : Fd) (hv : FdV w B v f) (hB : B ≤ w.heap.size) (hk : 1 ≤ f.kind ∧ f.kind ≤ 6) (hf : fault f = 0) :
    Calls Tryz.prog 40 #[v] w (ORowR w (enc f)) := by
  obtain ⟨tA, tc, lA, lc, rfl, hn, _, htl, hll, ht, hT, hL, hsz⟩ := hv
  have hbo : ∀ o, Below w.heap.size w (w.alloc o) := fun o => (Below.refl _ _).alloc (Nat.le_refl _) _
  have HBO := hid hbo
  clear hbo
  unfold maxLen at htl hll
  obtain ⟨i5, hi5, hz5, hz51, hz52⟩ := info_parts Tryz.info5
  have hc : f.kind = 1 ∨ f.kind = 2 ∨ f.kind = 3 ∨ f.kind = 4 ∨ f.kind = 5 ∨ f.kind = 6 := by omega
  clear hk
  rcases hc with h | h | h | h | h | h
  · have h1 : f.n ≤ 255 := by
      simp only [fault, h, if_true] at hf
      split at hf <;> omega
    have HE : Hid (enc f = [UInt8.ofNat f.n]) := by show _ = _; simp [enc, h]
    have HV : Hid (bv [UInt8.ofNat f.n] = [.int .u8 f.n]) := by show _ = _; simp [bv]; omega
    rw [h, HE.out]
    clear h hf
    go_enter Tryz.func40, Tryz.ntmps40
    go_wp2
    go_ret
    refine ⟨_, _, rfl, ?_, (HBO.out _).alloc (by simp) _⟩
    rw [HV.out]
    have h := World.ownsRow_lit (base := w.heap.size) (e := 5) (size := 1) (w.alloc (.cells #[.int .i64 1, .int .u32 f.n, .slice tA f.text.length tc, .slice lA f.list.length lc] 74)) #[.int .u8 f.n] 1 (by simp) (by unfold maxLen; omega) rfl
    simpa using h
  · have h1 : f.n ≤ 1 := by
      simp only [fault, h] at hf
      simp at hf
      omega
    have HE : Hid (enc f = [UInt8.ofNat f.n]) := by show _ = _; simp [enc, h]
    have HV : Hid (bv [UInt8.ofNat f.n] = [.int .u8 f.n]) := by show _ = _; simp [bv]; omega
    rw [h, HE.out]
    clear h hf
    go_enter Tryz.func40, Tryz.ntmps40
    go_wp2
    go_ret
    refine ⟨_, _, rfl, ?_, (HBO.out _).alloc (by simp) _⟩
    rw [HV.out]
    have h := World.ownsRow_lit (base := w.heap.size) (e := 5) (size := 1) (w.alloc (.cells #[.int .i64 2, .int .u32 f.n, .slice tA f.text.length tc, .slice lA f.list.length lc] 74)) #[.int .u8 f.n] 1 (by simp) (by unfold maxLen; omega) rfl
    simpa using h
  · have HE : Hid (enc f = four f.n) := by show _ = _; simp [enc, h]
    rw [h, HE.out]
    clear h hf
    go_enter Tryz.func40, Tryz.ntmps40
    go_wp2_with (first
      | (go_at_call 72
         ((with_reducible refine (four_any f.n hn _).mono ?_); rintro e w2 ⟨A2, c2, rfl, ho2, hb2⟩)))
    go_ret
    exact ⟨_, _, rfl, own_mono ho2 (by simp), (HBO.out _).trans (hb2.mono (by simp))⟩
  · have hl4 : f.text.length ≤ 32768 := by
      simp only [fault, h] at hf
      simp at hf
      exact hf
    have HE : Hid (enc f = four f.text.length ++ f.text) := by show _ = _; simp [enc, h]
    have HT := hid hT
    rw [h]
    clear h hf hT hL
    go_enter Tryz.func40, Tryz.ntmps40
    go_wp2
    generalize hW : w.alloc _ = w1
    have hbx : Box w1 w.heap.size 74 #[.int .i64 4, .int .u32 f.n, .slice tA f.text.length tc, .slice lA f.list.length lc] := by subst hW; exact Box.new w 74 _
    have HB1 : Hid (Below w.heap.size w w1.drew) := by subst hW; exact bel_drewN (HBO.out _) 1
    have HT1 : Hid (Lies w1.drew B tA (bv f.text)) := HT.out.below (HB1.out.mono hB)
    have c12 : w1.cell? ⟨w.heap.size, 2, none⟩ = some (.slice tA f.text.length tc) := hbx.cell 2
    have hz1 : w.heap.size ≤ w1.heap.size := HB1.out.size
    have HX1 : Hid (Box w1.drew w.heap.size 74 #[.int .i64 4, .int .u32 f.n, .slice tA f.text.length tc, .slice lA f.list.length lc]) := hbx
    clear hbx hW HT
    go_region_law (first
      | (go_simp
         go_at_call 72
         ((with_reducible refine (four_w f.text.length (by omega) _).mono ?_); rintro e w2 ⟨A2, c2, rfl, ho2, hb2⟩)
         have hx2 := box_below HX1.out hb2
         have c22 : w2.cell? ⟨w.heap.size, 2, none⟩ = some (.slice tA f.text.length tc) := hx2.cell 2
         have HO2 := hid (own_mono ho2 hz1)
         have HB2 := hid (HB1.out.trans (hb2.mono hz1))
         have HT2 := hid (HT1.out.below (hb2.mono (Nat.le_trans hB hz1)))
         have hz2 : w.heap.size ≤ w2.heap.size := HB2.out.size
         clear ho2 hb2 hx2)
      | (refine step_app _ rfl (.tmp 24) (.tmp 26) 25 rfl w.heap.size 5 i5 _ 1 1 Tryz.underlying25 hi5 hz5 hz51 hz52 rfl (by decide) A2 4 c2 (bv (four f.text.length)) rfl HO2.out B tA f.text.length tc (bv f.text) rfl (by simp [bv]) HT2.out (bv_one _) (by unfold maxLen; omega) (by omega) hz2 ?_
         intro A8 c8 w8 ho8 hg8
         have HB8 := hid (oapp_bel HB2.out HO2.out hg8)
         have HO8 := hid ho8
         clear ho8 hg8))
    all_goals
      go_wp2
      go_ret
      have e : (enc f).length = 4 + f.text.length := by rw [HE.out, List.length_append, four_len]
      refine ⟨A8, c8, ?_, ?_, HB8.out⟩
      · rw [e]; rfl
      · rw [e, HE.out, bv_append]
        exact HO8.out
  · simp only [fault, h, namesE] at hf
    simp at hf
    have h64 : f.list.length ≤ 64 := by
      by_cases hh : 64 < f.list.length
      · simp [hh] at hf
      · omega
    have hall : f.list.all nameOk = true := by
      rw [if_neg (by omega)] at hf
      simpa using hf
    have HJ := hid (joined_len f.list hall h64)
    have HE : Hid (enc f = four (joined f.list).length ++ joined f.list) := by show _ = _; simp [enc, h]
    have HA := hid hall
    rw [h]
    clear h hf hT hall
    have HL := hid hL
    clear hL
    go_enter Tryz.func40, Tryz.ntmps40
    go_wp2_with (first
      | (go_at_call 73
         ((with_reducible refine (joined_any _ lA lc f.list ((HL.out.alloc hB _).more (by simp; omega)) h64 HA.out).mono ?_); rintro e w2 ⟨A2, c2, rfl, ho2, hb2⟩)
         obtain ⟨n, HN⟩ : ∃ n, Hid ((joined f.list).length = n) := ⟨_, hid rfl⟩
         have hn4 : n ≤ 4160 := by have := HJ.out; rw [HN.out] at this; exact this
         rw [HN.out] at ho2 ⊢
         have HO2 := hid (own_mono (b' := w.heap.size) ho2 (by simp))
         have HB2 := hid ((HBO.out _).trans (hb2.mono (by simp)))
         have hz2 : w.heap.size ≤ w2.heap.size := HB2.out.size
         clear ho2 hb2)
      | (go_at_call 72
         ((with_reducible refine (four_any n (by omega) _).mono ?_); rintro e w3 ⟨A3, c3, rfl, ho3, hb3⟩)
         have HL3 := hid ((Lies.own HO2.out).below hb3)
         have HO3 := hid (own_mono ho3 hz2)
         have HB3 := hid (HB2.out.trans (hb3.mono hz2))
         have hz3 : w.heap.size ≤ w3.heap.size := HB3.out.size
         clear ho3 hb3)
      | (at_builtin
         (
           refine wpList_app _ rfl (.tmp 36) (.tmp 37) 25 rfl w.heap.size 5 i5 _ 1 1 Tryz.underlying25 hi5 hz5 hz51 hz52 rfl (by decide) A3 4 c3 (bv (four n)) rfl HO3.out w2.heap.size A2 n c2 (bv (joined f.list)) rfl ?g1 HL3.out (bv_one _) ?g3 ?g4 ?g5 ?_
           case g1 => rw [bv_length, HN.out, Nat.mul_one]
           case g3 => unfold maxLen; omega
           case g4 => omega
           case g5 => omega
           intro A8 c8 w8 ho8 hg8
           have HB8 := hid (oapp_bel HB3.out HO3.out hg8)
           have HO8 := hid ho8
           clear ho8 hg8)))
    go_ret
    have e : (enc f).length = 4 + n := by rw [HE.out, List.length_append, four_len, HN.out]
    refine ⟨A8, c8, ?_, ?_, HB8.out⟩
    · rw [e]; rfl
    · rw [e, HE.out, bv_append, HN.out]
      exact HO8.out
  · have hl6 : f.text.length ≤ 33792 := by
      simp only [fault, h] at hf
      simp at hf
      exact hf
    have HE : Hid (enc f = f.text) := by show _ = _; simp [enc, h]
    have HT := hid hT
    rw [h]
    clear h hf hT hL
    go_enter Tryz.func40, Tryz.ntmps40
    go_wp2_with (first
      | (at_builtin
         (
           refine wpList_app _ rfl (.tmp 39) (.tmp 41) 25 rfl w.heap.size 5 i5 _ 1 1 Tryz.underlying25 hi5 hz5 hz51 hz52 rfl (by decide) _ 0 0 [] rfl (lit_own (by simp) (by simp)) B tA f.text.length tc (bv f.text) rfl ?g1 ?g2 (bv_one _) ?g3 ?g4 ?g5 ?_
           case g1 => rw [bv_length, Nat.mul_one]
           case g2 => exact (HT.out.alloc hB _).alloc (by simp; omega) _
           case g3 => unfold maxLen; omega
           case g4 => omega
           case g5 => simp; omega
           intro A8 c8 w8 ho8 hg8
           simp only [Nat.zero_add, List.nil_append] at ho8 ⊢
           have HB8 := hid ((HBO.out _).trans ((lit_grown (by simp) hg8).mono (by simp)))
           have HO8 := hid ho8
           clear ho8 hg8)))
    go_ret
    refine ⟨A8, c8, ?_, ?_, HB8.out⟩
    · rw [HE.out]; rfl
    · rw [HE.out]
      exact HO8.out

theorem own_fin {w2 wr w8 : World} {base k : Nat} {A' tA lA : Option Addr} {c' tc lc : Nat} {fs : List Fd} {cs : List Value} {f : Fd} {o1 o2 o3 : Obj}
    (hbw : Below w2.heap.size w2 wr) (hro : wr.ownsRow w2.heap.size 74 4 (.slice A' k c') k cs) (hfl : FlatF wr base fs cs)
    (ho : wr.ownsRow base 5 1 (.slice tA f.text.length tc) f.text.length (bv f.text) ∧ wr.ownsRow base 9 1 (.slice lA f.list.length lc) f.list.length (sv f.list))
    (hg8 : (((wr.alloc o1).alloc o2).alloc o3).grownBy w8 (Value.slice A' k c').ownBlock) :
    FlatF w8 base (fs ++ [f]) (cs ++ [.int .i64 f.kind, .int .u32 f.n, .slice tA f.text.length tc, .slice lA f.list.length lc]) ∧ Below w2.heap.size w2 w8 := by
  have hro7 := ((hro.alloc o1).alloc o2).alloc o3
  have k8 : Kept w2.heap.size [74] wr w8 := ((((Kept.refl _ _ _).alloc _).alloc _).alloc _).grown hg8 (fun k hk => by obtain ⟨a, cs, b⟩ := own_box hro7 k hk; exact ⟨a, 74, cs, by simp, b⟩)
  exact ⟨FlatF.snoc (f := f) (k8.own ho.1 (by decide)) (k8.own ho.2 (by decide)) fs cs (FlatF.kept k8 (by decide) (by decide) _ _ hfl), hbw.trans (k8.below hbw.size)⟩

theorem fds_wf {w : World} {B : Nat} {A : Option Addr} {l : List Fd} (h : FdsV w B A l) : ∀ f ∈ l, Wf f := fun f hf => by
  obtain ⟨i, hi, rfl⟩ := List.getElem_of_mem hf
  obtain ⟨b, o, rfl, hb, hc⟩ := h (by rintro rfl; cases hf)
  obtain ⟨tA, tc, lA, lc, hfd, _⟩ := hc i hi
  obtain ⟨_, _, _, _, _, h1, h2, _, _, _, _, _, h3⟩ := hfd
  exact ⟨h1, h2, h3⟩
theorem enc_len (f : Fd) (hk : 1 ≤ f.kind ∧ f.kind ≤ 6) (hf : fault f = 0) : (enc f).length ≤ 33792 := by
  have h : f.kind = 1 ∨ f.kind = 2 ∨ f.kind = 3 ∨ f.kind = 4 ∨ f.kind = 5 ∨ f.kind = 6 := by omega
  rcases h with h | h | h | h | h | h
  · simp [enc, h]
  · simp [enc, h]
  · simp [enc, h, four_len]
  · simp only [fault, h] at hf
    simp at hf
    simp [enc, h, four_len]
    omega
  · simp only [fault, h, namesE] at hf
    simp at hf
    have h64 : f.list.length ≤ 64 := by
      by_cases hh : 64 < f.list.length
      · simp [hh] at hf
      · omega
    have hall : f.list.all nameOk = true := by
      rw [if_neg (by omega)] at hf
      simpa using hf
    have := joined_len f.list hall h64
    simp [enc, h, four_len]
    omega
  · simp only [fault, h] at hf
    simp at hf
    simp [enc, h]
    omega
theorem Tryz.info3 : (Tryz.prog.info? 3).map (fun i => (i.zero, i.size, i.bytes)) = some (some (.int .i64 0), 1, 8) := by kernel_rfl

theorem one1 (k : Int) : ∀ u ∈ (#[Value.int .i64 k] : Array Value).toList, u.oneCell' = true := by
  intro u hu
  simp only [List.mem_cons, List.mem_nil_iff, or_false] at hu
  subst hu
  rfl
theorem kinds_fin {w3 wr w8 : World} {k : Nat} {A' : Option Addr} {c' : Nat} {xs : List Value} {o1 : Obj} {cs : Array Value} {g : Nat} (hg : g = wr.heap.size) (hro : wr.ownsRow w3.heap.size 3 1 (.slice A' k c') k xs) (hbw : Below w3.heap.size w3 wr)
    (hg8 : ((wr.alloc (.cells cs 74)).alloc o1).grownBy w8 (Value.slice A' k c').ownBlock) : Below w3.heap.size w3 w8 ∧ Box w8 g 74 cs := by
  subst hg
  have hro7 := (hro.alloc (.cells cs 74)).alloc o1
  have k8 : Kept w3.heap.size [3] ((wr.alloc (.cells cs 74)).alloc o1) w8 := (Kept.refl _ _ _).grown hg8 (fun k hk => by obtain ⟨a, cs, b⟩ := own_box hro7 k hk; exact ⟨a, 3, cs, by simp, b⟩)
  have hb7 : Below w3.heap.size w3 ((wr.alloc (.cells cs 74)).alloc o1) := (hbw.alloc hbw.size _).alloc (by have := hbw.size; simp; omega) _
  refine ⟨hb7.trans (k8.below (by have := hbw.size; simp; omega)), k8.box (box_below (Box.new wr 74 cs) ((Below.refl _ _).alloc (Nat.le_refl _) _)) (by decide)⟩

theorem kinds_n (W : World) (A : Option Addr) (c n : Nat) (ks : List Int) (b : Bool) (hk : Hid (Lies W W.heap.size A (ks.map (Value.int .i64)))) (hn : ks.length = n) (hl : n ≤ 1000000) (hb : Hid (kindsB (ks.map kfd) = b)) :
    Calls Tryz.prog 38 #[.slice A n c] W fun e w' => e = .returned (.bool b) ∧ W = w' := by
  subst hn
  refine (kinds_any W A c ks hk.out hl).mono ?_
  rw [hb.out]
  exact fun e w' h => h
theorem fault_n (W : World) (B : Nat) (v : Value) (f : Fd) (er : Int) (hv : Hid (FdV W B v f)) (hB : B ≤ W.heap.size) (hk : Hid (1 ≤ f.kind ∧ f.kind ≤ 6)) (he : Hid (fault f = er)) :
    Calls Tryz.prog 39 #[v] W fun e w' => e = .returned (.int .i64 er) ∧ Hid (Below W.heap.size W w') := by
  refine (fault_any W B v f hv.out hB hk.out).mono ?_
  rw [he.out]
  exact fun e w' h => h
theorem one_n (W : World) (B : Nat) (v : Value) (f : Fd) (n : Nat) (hv : Hid (FdV W B v f)) (hB : B ≤ W.heap.size) (hk : Hid (1 ≤ f.kind ∧ f.kind ≤ 6)) (hf : Hid (fault f = 0)) (hn : (enc f).length = n) :
    Calls Tryz.prog 40 #[v] W fun e w' => ∃ A c, e = .returned (.slice A n c) ∧ Hid (w'.ownsRow W.heap.size 5 1 (.slice A n c) n (bv (enc f))) ∧ Hid (Below W.heap.size W w') := by
  subst hn
  exact one_any W B v f hv.out hB hk.out hf.out

set_option maxHeartbeats 4000000 in
set_option maxRecDepth 100000 in
theorem rwrite_any (w : World) (A : Option Addr) (c : Nat) (l : List Fd) (hl : FdsV w w.heap.size A l) (hn : l.length ≤ 1000) :
    Calls Tryz.prog 24 #[.slice A l.length c] w (WriteR w (writeF l)) := by
  have HL := hid hl
  have HWF := hid (fds_wf hl)
  clear hl
  obtain ⟨i3, hi3, hz3, hz31, hz32⟩ := info_parts Tryz.info3
  obtain ⟨i5, hi5, hz5, hz51, hz52⟩ := info_parts Tryz.info5
  go_enter Tryz.func24, Tryz.ntmps24
  go_wp2
  go_loopw [13, 4] (fun i v wr => ∃ (k : Nat) (A' : Option Addr) (c' : Nat), k ≤ l.length ∧ i = .int .i64 k ∧ v = .slice A' k c' ∧ wr.ownsRow w.heap.size 3 1 (.slice A' k c') k ((l.take k).map (fun f => Value.int .i64 f.kind)) ∧ Below w.heap.size w wr) (fun i _ _ => l.length - (intOf i).toNat)
  case atStart => exact ⟨0, none, 0, Nat.zero_le _, rfl, rfl, World.ownsRow_nil _ _ _ _, Below.refl _ _⟩
  case round =>
    obtain ⟨k, A', c', hk, rfl, rfl, hro, hbw⟩ := hrel
    have HRO := hid hro
    have HBW := hid hbw
    have hszr : w.heap.size ≤ wr.heap.size := hbw.size
    by_cases hlt : k < l.length
    · obtain ⟨b, o, rfl, hb3, hcells⟩ := HL.out (by intro e; rw [e] at hlt; simp at hlt)
      obtain ⟨tA, tc, lA, lc, hfd, e0, e1, e2, e3⟩ := hcells k hlt
      have c0 := (hbw.cell (p := ⟨b, _, none⟩) hb3).trans e0
      have c1 := (hbw.cell (p := ⟨b, _, none⟩) hb3).trans e1
      have c2' := (hbw.cell (p := ⟨b, _, none⟩) hb3).trans e2
      have c3' := (hbw.cell (p := ⟨b, _, none⟩) hb3).trans e3
      clear e0 e1 e2 e3 hcells hfd
      have HT : Hid (l.take (k + 1) = l.take k ++ [l[k]]) := take_snoc _ _ hlt
      obtain ⟨f, Hf⟩ : ∃ f, Hid (l[k] = f) := ⟨_, hid rfl⟩
      have hwf := HWF.out l[k] (List.getElem_mem hlt)
      rw [Hf.out] at c0 c1 c2' c3' HT hwf
      obtain ⟨hfn, hfk, _⟩ := hwf
      clear hro hbw Hf
      go_wp2_with (first
        | (at_builtin
           (
             have hl7 := lit_lies (wr.alloc (.cells #[.int .i64 f.kind, .int .u32 f.n, .slice tA f.text.length tc, .slice lA f.list.length lc] 74)) #[.int .i64 f.kind] 3 (0, 0) (wr.heap.size + 1) (by simp)
             refine wpList_app _ rfl (.tmp 17) (.tmp 20) 96 rfl w.heap.size 3 i3 _ 1 8 Tryz.underlying96 hi3 hz3 hz31 hz32 rfl (by decide) A' k c' ((l.take k).map (fun f => Value.int .i64 f.kind)) ?a1 ?a2 ?aB ?aA 1 1 ?an ?a3 ?a4 ?a5 ?a6 ?g3 ?g4 ?g5 ?_
             case a2 => exact (HRO.out.alloc _).alloc _
             case aB => exact wr.heap.size + 1 + 1
             case aA => exact some ⟨wr.heap.size + 1, 0, none⟩
             case an => exact (#[.int .i64 f.kind] : Array Value).toList
             case a1 => rfl
             case a5 => exact hl7
             case a3 => rfl
             case a4 => rfl
             case a6 => exact one1 _
             case g3 => unfold maxLen; omega
             case g4 => omega
             case g5 => simp; omega
             intro A8 c8 w4 ho4 hg4
             have HB4 := hid (kinds_fin rfl HRO.out HBW.out hg4).1
             have HO4 := hid ho4
             clear ho4 hg4 hl7)))
      go_roundw
      case rel =>
        refine ⟨k + 1, A8, c8, by omega, by go_num, rfl, ?_, HB4.out⟩
        rw [HT.out, List.map_append]
        exact HO4.out
      case measure => simp [intOf]; omega
    · have hd : l.take k = l := List.take_of_length_le (by omega)
      have hk' : k = l.length := by omega
      subst hk'
      rw [hd] at HRO
      have HKL : Hid (Lies wr wr.heap.size A' ((l.map Fd.kind).map (Value.int .i64))) := by
        have h := Lies.own HRO.out
        rw [List.map_map]
        exact h
      have hm2 : (l.map Fd.kind).length = l.length := by simp
      obtain ⟨kb, HKB⟩ : ∃ z, Hid (kindsB l = z) := ⟨_, hid rfl⟩
      have HKB2 : Hid (kindsB ((l.map Fd.kind).map kfd) = kb) := by show _ = _; rw [kindsB_kfd, HKB.out]
      clear hro hbw HRO
      cases kb with
      | false =>
        have HE : Hid (writeF l = (2, [])) := by show _ = _; rw [writeF, if_neg (by rw [HKB.out]; simp)]
        go_wp2_with (first
          | (go_at_call 38
             ((with_reducible refine (kinds_n _ _ c' l.length (l.map Fd.kind) false HKL hm2 (by omega) HKB2).mono ?_); rintro e w' ⟨rfl, rfl⟩)))
        go_ret2
        rw [HE.out]
        exact writeR_err _ _ _ HBW.out
      | true =>
        have HE : Hid (writeF l = wrF [] l) := by show _ = _; rw [writeF, if_pos HKB.out]
        go_wp2_with (first
          | (go_at_call 38
             ((with_reducible refine (kinds_n _ _ c' l.length (l.map Fd.kind) true HKL hm2 (by omega) HKB2).mono ?_); rintro e w' ⟨rfl, rfl⟩)))
        go_loopw [28, 7] (fun i v wr => ∃ (k n : Nat) (A' : Option Addr) (c' : Nat) (acc : List UInt8), k ≤ l.length ∧ i = .int .i64 k ∧ v = .slice A' n c' ∧ wr.ownsRow w.heap.size 5 1 (.slice A' n c') n (bv acc) ∧ Below w.heap.size w wr ∧ n ≤ 33792 ∧ Hid (acc.length = n) ∧ Hid (wrF [] l = wrF acc (l.drop k))) (fun i _ _ => l.length - (intOf i).toNat)
        case atStart => exact ⟨0, 0, none, 0, [], Nat.zero_le _, rfl, rfl, World.ownsRow_nil _ _ _ _, HBW.out, Nat.zero_le _, rfl, rfl⟩
        case round =>
          clear HKL HKB2 HBW hszr
          obtain ⟨k, n, A9, c9, acc, hk, rfl, rfl, hro, hbw, hn3, HN, HP⟩ := hrel
          have HRO := hid hro
          have HBW := hid hbw
          have hszs : w.heap.size ≤ wr.heap.size := hbw.size
          by_cases hlt : k < l.length
          · obtain ⟨b, o, rfl, hb3, hcells⟩ := HL.out (by intro e; rw [e] at hlt; simp at hlt)
            obtain ⟨tA, tc, lA, lc, hfd, e0, e1, e2, e3⟩ := hcells k hlt
            have c0 := (hbw.cell (p := ⟨b, _, none⟩) hb3).trans e0
            have c1 := (hbw.cell (p := ⟨b, _, none⟩) hb3).trans e1
            have c2' := (hbw.cell (p := ⟨b, _, none⟩) hb3).trans e2
            have c3' := (hbw.cell (p := ⟨b, _, none⟩) hb3).trans e3
            clear e0 e1 e2 e3 hcells
            have hkk := (kindsB_iff l).1 HKB.out k hlt
            simp only [kindB, Bool.and_eq_true, decide_eq_true_eq] at hkk
            have HKK := hid hkk.1
            have HD : Hid (wrF [] l = wrF acc (l[k] :: l.drop (k + 1))) := by show _ = _; rw [HP.out, List.drop_eq_getElem_cons hlt]
            obtain ⟨f, Hf⟩ : ∃ f, Hid (l[k] = f) := ⟨_, hid rfl⟩
            have hwf := HWF.out l[k] (List.getElem_mem hlt)
            rw [Hf.out] at c0 c1 c2' c3' hwf HD HKK hfd
            obtain ⟨hfn, hfk, _⟩ := hwf
            have HFD1 : Hid (∀ o, FdV (wr.alloc o) w.heap.size (.agg #[.int .i64 f.kind, .int .u32 f.n, .slice tA f.text.length tc, .slice lA f.list.length lc]) f) := fun o => hfd.keep (hbw.alloc hszs _)
            obtain ⟨fa, HF⟩ : ∃ z, Hid (fault f = z) := ⟨_, hid rfl⟩
            clear hro hbw Hf hfd hkk HP
            by_cases h0 : fa = 0
            · subst h0
              obtain ⟨m, HM⟩ : ∃ z, Hid ((enc f).length = z) := ⟨_, hid rfl⟩
              have hm3 : m ≤ 33792 := by have := enc_len f HKK.out HF.out; rw [HM.out] at this; exact this
              by_cases hov : 33792 < n + m
              · have HE2 : Hid (wrF [] l = (6, [])) := by
                  show _ = _
                  rw [HD.out, wrF, if_pos HF.out, if_pos (by rw [List.length_append, HN.out, HM.out]; exact hov)]
                have t1 : (33792 : Int) < (n : Int) + m := by omega
                go_wp2_with (first
                  | (go_at_call 39
                     ((with_reducible refine (fault_n _ w.heap.size _ f 0 (hid (HFD1.out _)) (by simp; omega) HKK HF).mono ?_); rintro e w4 ⟨rfl, HB4x⟩)
                     have hx4 := box_below (Box.new wr 74 _) HB4x.out
                     have c40 : w4.cell? ⟨wr.heap.size, 0, none⟩ = some (.int .i64 f.kind) := hx4.cell 0
                     have c41 : w4.cell? ⟨wr.heap.size, 1, none⟩ = some (.int .u32 f.n) := hx4.cell 1
                     have c42 : w4.cell? ⟨wr.heap.size, 2, none⟩ = some (.slice tA f.text.length tc) := hx4.cell 2
                     have c43 : w4.cell? ⟨wr.heap.size, 3, none⟩ = some (.slice lA f.list.length lc) := hx4.cell 3
                     have HB4 : Hid (Below w.heap.size w w4) := (HBW.out.alloc hszs _).trans (HB4x.out.mono (by simp; omega))
                     have HFD4 := hid ((HFD1.out _).keep (HB4x.out.mono (by simp; omega)))
                     have HRO4 := hid (own_keep (HRO.out.alloc _) HB4x.out)
                     have hz4 : w.heap.size ≤ w4.heap.size := HB4.out.size
                     clear hx4 HB4x)
                  | (go_at_call 40
                     ((with_reducible refine (one_n _ w.heap.size _ f m HFD4 hz4 HKK HF HM.out).mono ?_); rintro e w5 ⟨A5, c5, rfl, HO5, HB5x⟩)
                     have HB5 : Hid (Below w.heap.size w w5) := HB4.out.trans (HB5x.out.mono hz4)
                     have HRO5 := hid (own_keep HRO4.out HB5x.out)
                     have HL5 := hid (Lies.own HO5.out)
                     have hz5' : w.heap.size ≤ w5.heap.size := HB5.out.size
                     clear HB5x)
                  | (at_builtin
                     (
                       refine wpList_app _ rfl (.tmp 37) (.tmp 39) 25 rfl w.heap.size 5 i5 _ 1 1 Tryz.underlying25 hi5 hz5 hz51 hz52 rfl (by decide) A9 n c9 (bv acc) rfl HRO5.out w5.heap.size A5 m c5 (bv (enc f)) rfl ?g1 HL5.out (bv_one _) ?g3 ?g4 ?g5 ?_
                       case g1 => rw [bv_length, HM.out, Nat.mul_one]
                       case g3 => unfold maxLen; omega
                       case g4 => omega
                       case g5 => omega
                       intro A8 c8 w8 ho8 hg8
                       have HB8 := hid (oapp_bel HB5.out HRO5.out hg8)
                       clear ho8 hg8)))
                go_ret2
                rw [HE.out, HE2.out]
                exact writeR_err _ _ _ HB8.out
              · have HE2 : Hid (wrF [] l = wrF (acc ++ enc f) (l.drop (k + 1))) := by
                  show _ = _
                  rw [HD.out, wrF, if_pos HF.out, if_neg (by rw [List.length_append, HN.out, HM.out]; exact hov)]
                have t1 : decide ((33792 : Int) < (n : Int) + m) = false := by simp; omega
                have hov' : n + m ≤ 33792 := by omega
                clear hov
                go_wp2_with (first
                  | (go_at_call 39
                     ((with_reducible refine (fault_n _ w.heap.size _ f 0 (hid (HFD1.out _)) (by simp; omega) HKK HF).mono ?_); rintro e w4 ⟨rfl, HB4x⟩)
                     have hx4 := box_below (Box.new wr 74 _) HB4x.out
                     have c40 : w4.cell? ⟨wr.heap.size, 0, none⟩ = some (.int .i64 f.kind) := hx4.cell 0
                     have c41 : w4.cell? ⟨wr.heap.size, 1, none⟩ = some (.int .u32 f.n) := hx4.cell 1
                     have c42 : w4.cell? ⟨wr.heap.size, 2, none⟩ = some (.slice tA f.text.length tc) := hx4.cell 2
                     have c43 : w4.cell? ⟨wr.heap.size, 3, none⟩ = some (.slice lA f.list.length lc) := hx4.cell 3
                     have HB4 : Hid (Below w.heap.size w w4) := (HBW.out.alloc hszs _).trans (HB4x.out.mono (by simp; omega))
                     have HFD4 := hid ((HFD1.out _).keep (HB4x.out.mono (by simp; omega)))
                     have HRO4 := hid (own_keep (HRO.out.alloc _) HB4x.out)
                     have hz4 : w.heap.size ≤ w4.heap.size := HB4.out.size
                     clear hx4 HB4x)
                  | (go_at_call 40
                     ((with_reducible refine (one_n _ w.heap.size _ f m HFD4 hz4 HKK HF HM.out).mono ?_); rintro e w5 ⟨A5, c5, rfl, HO5, HB5x⟩)
                     have HB5 : Hid (Below w.heap.size w w5) := HB4.out.trans (HB5x.out.mono hz4)
                     have HRO5 := hid (own_keep HRO4.out HB5x.out)
                     have HL5 := hid (Lies.own HO5.out)
                     have hz5' : w.heap.size ≤ w5.heap.size := HB5.out.size
                     clear HB5x)
                  | (at_builtin
                     (
                       refine wpList_app _ rfl (.tmp 37) (.tmp 39) 25 rfl w.heap.size 5 i5 _ 1 1 Tryz.underlying25 hi5 hz5 hz51 hz52 rfl (by decide) A9 n c9 (bv acc) rfl HRO5.out w5.heap.size A5 m c5 (bv (enc f)) rfl ?g1 HL5.out (bv_one _) ?g3 ?g4 ?g5 ?_
                       case g1 => rw [bv_length, HM.out, Nat.mul_one]
                       case g3 => unfold maxLen; omega
                       case g4 => omega
                       case g5 => omega
                       intro A8 c8 w8 ho8 hg8
                       have HB8 := hid (oapp_bel HB5.out HRO5.out hg8)
                       have HO8 := hid ho8
                       clear ho8 hg8)))
                go_roundw
                case rel =>
                  refine ⟨k + 1, n + m, A8, c8, acc ++ enc f, by omega, by go_num, by first | rfl | go_num, ?_, HB8.out, hov', ?_, HE2⟩
                  · rw [bv_append]; exact HO8.out
                  · show _ = _
                    rw [List.length_append, HN.out, HM.out]
                case measure => simp [intOf]; omega
            · have HE2 : Hid (wrF [] l = (fa, [])) := by
                show _ = _
                rw [HD.out, wrF, HF.out, if_neg h0]
              have t1 : (fa != 0) = true := by simpa using h0
              clear h0
              go_wp2_with (first
                | (go_at_call 39
                   ((with_reducible refine (fault_n _ w.heap.size _ f fa (hid (HFD1.out _)) (by simp; omega) HKK HF).mono ?_); rintro e w4 ⟨rfl, HB4x⟩)
                   have HB4 : Hid (Below w.heap.size w w4) := (HBW.out.alloc hszs _).trans (HB4x.out.mono (by simp; omega))
                   clear HB4x))
              go_ret2
              rw [HE.out, HE2.out]
              exact writeR_err _ _ _ HB4.out
          · have hd : l.drop k = [] := List.drop_of_length_le (by omega)
            have HE2 : Hid (wrF [] l = (0, acc)) := by show _ = _; rw [HP.out, hd, wrF]
            clear hd hro hbw
            go_wp2
            go_ret2
            rw [HE.out, HE2.out]
            refine ⟨A9, c9, ?_, ?_, HBW.out⟩
            · rw [HN.out]; rfl
            · show wr.ownsRow _ _ _ (.slice A9 acc.length c9) acc.length _
              rw [HN.out]
              exact HRO.out

end Go.Proofs.YtfpkjocoifoigaaGreatDoor
