import Derived.Test.YtggcampdkgfmgaaVB
namespace Go.Proofs.Ytggcampdkgfmgaa.W1
open Go.RowKit

set_option maxHeartbeats 800000 in
set_option maxRecDepth 100000 in
theorem putString_any (base g : Nat) (bs : List UInt8) (w : World) (v : Value) (f : Fd) (hv : FdV w base v f) (hs : WSt w base g bs) (hl : bs.length ≤ 100000) :
    Calls Try.prog 42 #[.pointer (some ⟨g, 0, none⟩), v] w (PutR base g bs (if 32768 < f.text.length then 6 else 0) (four f.text.length ++ f.text) w) := by
  obtain ⟨tA, tc, lA, lc, rfl, hn, _, ht, _, _, hT, _⟩ := hv
  have k0 : ∀ o, Kept base [71, 5] w (w.alloc o) := fun o => (Kept.refl _ _ _).alloc o
  have s0 : ∀ o, WSt (w.alloc o) base g bs := fun o => hs.kept (B := 0) (T := []) ((Kept.refl _ _ _).alloc o) (by simp) (by simp)
  have hw0 := hs.lt
  by_cases h : 32768 < f.text.length
  · rw [if_pos h]
    go_enter Try.func42, Try.ntmps42
    go_wp2
    go_ret
    exact ⟨rfl, k0 _, by simp⟩
  · rw [if_neg h]
    obtain ⟨i0, hi0, hz0, hz1, hz2⟩ := info_parts Try.info5
    have HL := hid hl; clear hl
    have HT := hid hT; clear hT
    go_enter Try.func42, Try.ntmps42
    go_wp2_with (go_at_call 50; refine (number_any base g bs f.text.length (by omega) _ (s0 _) (by have := HL.out; omega)).mono ?_; rintro e w1 ⟨rfl, hw1, hk1⟩)
    have hbx : Box w1 w.heap.size 46 #[Value.int IntKind.i64 f.kind, Value.int IntKind.u32 f.n, Value.slice tA f.text.length tc, Value.slice lA f.list.length lc] := hk1.box (Box.new w 46 _) (by decide)
    have hk2 : Kept base [71, 5] w w1.drew := ((k0 _).trans hk1).drew
    obtain ⟨hbg, A, c, hx, ho⟩ := hw1
    have hlt := hx.lt
    have hl4 : (bs ++ four f.text.length).length = bs.length + 4 := by simp [four]
    have HL4 := hid hl4; clear hl4
    obtain ⟨bs1, HB⟩ : ∃ bs1, Hid (bs ++ four f.text.length = bs1) := ⟨_, rfl⟩
    rw [HB.out] at hx ho HL4
    have ho1 : w1.drew.ownsRow base 5 1 (.slice A bs1.length c) bs1.length (bv bs1) := ho
    have hT1 : Lies w1.drew base tA (bv f.text) := HT.out.below (hk2.below hw0)
    have hc1 : w1.cell? ⟨g, 0, none⟩ = some (.slice A bs1.length c) := hx.cell 0
    have hc0 : w1.cell? ⟨w.heap.size, 2, none⟩ = some (.slice tA f.text.length tc) := hbx.cell 2
    have hb1 : base ≤ w1.drew.heap.size := Nat.le_trans hw0 hk2.size
    have HT1 := hid hT1; clear hT1
    have HK1 := hid hk2; clear hk2
    clear hk1
    go_region_law (
      refine step_app _ rfl (.tmp 19) (.tmp 21) 27 rfl base 5 i0 _ 1 1 Try.underlying27 hi0 hz0 hz1 hz2 rfl (by decide) A bs1.length c (bv bs1) rfl ho1 base tA f.text.length tc (bv f.text) rfl (by simp [bv]) HT1.out (bv_one _) (by have := HL.out; have := HL4.out; unfold maxLen; omega) (by have := HL.out; have := HL4.out; omega) hb1 ?_
      intro A' c' w' ho' hg
      have hx2 : Box w' g 71 #[.slice A bs1.length c] := hx.same (hg.block g hx.lt (fun e => own_ne ho hx (by decide) e.symm))
      have hc2 : w'.cell? ⟨g, 0, none⟩ = some (.slice A bs1.length c) := hx2.cell 0
      have hf2 : w'.frozen? ⟨g, 0, none⟩ = false := hx2.frozen 0
      have HF := hid (wst_store (w := w1.drew) (cs := f.text) hbg hx ho1 HK1.out hg ho'))
    all_goals
      go_wp2
      go_ret
      have e : bs1 ++ f.text = bs ++ (four f.text.length ++ f.text) := by rw [← HB.out, List.append_assoc]
      refine ⟨rfl, HF.out.2, fun _ => ?_⟩
      rw [← e]
      exact HF.out.1

theorem nameByte_iff (c : UInt8) : nameByte c = true ↔ 33 ≤ c.toNat ∧ c.toNat ≤ 126 ∧ c.toNat ≠ 44 := by simp [nameByte]; omega
theorem nameOk_bad (s : ByteArray) (k : Nat) (h : k < s.size) (hb : nameByte s[k] = false) : nameOk s = false := by
  have : s.data.toList.all nameByte = false := by
    rw [List.all_eq_false]
    exact ⟨s[k], by simp [ByteArray.getElem_eq_getElem_data], by simp [hb]⟩
  simp [nameOk, this]
theorem nameOk_len (s : ByteArray) (h : ¬(1 ≤ s.size ∧ s.size ≤ 64)) : nameOk s = false := by
  simp only [nameOk, Bool.and_eq_false_iff, decide_eq_false_iff_not]
  omega
theorem nameOk_all (s : ByteArray) (h1 : 1 ≤ s.size) (h2 : s.size ≤ 64) (h : s.data.toList.all nameByte = true) : nameOk s = true := by
  simp [nameOk, h1, h2, h]

set_option maxHeartbeats 400000 in
set_option maxRecDepth 100000 in
theorem nameRight_any (s : ByteArray) (w : World) (hs : s.size ≤ maxLen) :
    Calls Try.prog 51 #[.string s] w fun e w' => e = .returned (.bool (nameOk s)) ∧ w = w' := by
  unfold maxLen at hs
  by_cases h0 : 1 ≤ s.size ∧ s.size ≤ 64
  · obtain ⟨h1, h2⟩ := h0
    have hd1 : decide ((s.size : Int) < 1) = false := by simp; omega
    have hd2 : decide (64 < (s.size : Int)) = false := by simp; omega
    go_enter Try.func51, Try.ntmps51
    go_wp2
    go_loop [15] (fun i => ∃ k : Nat, k ≤ s.size ∧ i = .int .i64 k ∧ (s.data.toList.take k).all nameByte = true) (fun i => s.size - (intOf i).toNat)
    case atStart => exact ⟨0, Nat.zero_le _, rfl, rfl⟩
    case round =>
      obtain ⟨k, hk, rfl, hal⟩ := hrel
      have HA := hid hal; clear hal
      by_cases hlt : k < s.size
      · by_cases hb : nameByte s[k] = true
        · have hbi := (nameByte_iff _).1 hb
          have hts := take_snoc s.data.toList k (by simpa using hlt)
          have hS : (s.data.toList.take (k + 1)).all nameByte = true := by
            rw [hts, List.all_append, HA.out]
            simp [← ByteArray.getElem_eq_getElem_data, hb]
          have HS := hid hS
          clear hts hb hS
          have ha : (33 : Int) ≤ s[k].toNat := by omega
          have hb : (s[k].toNat : Int) ≤ 126 := by omega
          have hc : ((s[k].toNat : Int) == 44) = false := by simp; omega
          clear hbi
          go_wp2
          go_round
          case rel => exact ⟨k + 1, by omega, by go_num, HS.out⟩
          case measure => simp [intOf]; omega
        · have HF := hid (nameOk_bad s k hlt (by simpa using hb))
          have HB : Hid (¬ (33 ≤ s[k].toNat ∧ s[k].toNat ≤ 126 ∧ s[k].toNat ≠ 44)) := fun h => hb ((nameByte_iff _).2 h)
          clear hb
          go_wp2
          all_goals first
            | (go_ret; exact ⟨ret_bool HF.out.symm, rfl⟩)
            | (exfalso; have h1 := HB.out; simp at *; omega)
      · have hks : k = s.size := by omega
        have HK := hid hks
        clear hks
        go_wp2
        go_ret
        exact ⟨ret_bool (nameOk_all s h1 h2 (by have h := HA.out; rw [HK.out, List.take_of_length_le (by simp)] at h; exact h)).symm, rfl⟩
  · have HF := hid (nameOk_len s h0)
    rcases Nat.lt_or_ge s.size 1 with h1 | h1
    · have hd1 : (s.size : Int) < 1 := by omega
      clear h0 h1
      go_enter Try.func51, Try.ntmps51
      go_wp2
      go_ret
      exact ⟨ret_bool HF.out.symm, rfl⟩
    · have hd1 : (1 : Int) ≤ s.size := by omega
      have hd2 : (64 : Int) < s.size := by omega
      clear h0 h1
      go_enter Try.func51, Try.ntmps51
      go_wp2
      go_ret
      exact ⟨ret_bool HF.out.symm, rfl⟩
end Go.Proofs.Ytggcampdkgfmgaa.W1
