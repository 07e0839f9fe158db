import Derived.Test.YtdplngplljejhaaDoorNB
namespace Go.Proofs.YtdplngplljejhaaDoor
open Go.RowKit

set_option maxHeartbeats 400000 in
set_option maxRecDepth 100000 in
/-- The document's own word on a name is the program's. -/
theorem name_any (s : ByteArray) (w : World) (hs : s.size ≤ maxLen) :
    Calls Tryd.prog 100 #[.string s] w fun e w' => e = .returned (.bool (nameOk s)) ∧ w = w' := by
  unfold maxLen at hs
  by_cases h0 : 1 ≤ s.size ∧ s.size ≤ 64
  · obtain ⟨h1, h2⟩ := h0
    have hd1 : decide ((s.size : Int) < 1) = false := by simp; omega
    have hd2 : decide (64 < (s.size : Int)) = false := by simp; omega
    go_enter Tryd.func100, Tryd.ntmps100
    go_wp2
    go_loop [3] (fun i => ∃ k : Nat, k ≤ s.size ∧ i = .int .i64 k ∧ (s.data.toList.take k).all nameByte = true) (fun i => s.size - (intOf i).toNat)
    case atStart => exact ⟨0, Nat.zero_le _, rfl, rfl⟩
    case round =>
      obtain ⟨k, hk, rfl, hal⟩ := hrel
      have HA := hid hal; clear hal
      by_cases hlt : k < s.size
      · by_cases hb : nameByte s[k] = true
        · have hbi := (nameByte_iff _).1 hb
          have hts := take_snoc s.data.toList k (by simpa using hlt)
          have hS : (s.data.toList.take (k + 1)).all nameByte = true := by
            rw [hts, List.all_append, HA.out]
            simp [← ByteArray.getElem_eq_getElem_data, hb]
          have HS := hid hS
          clear hts hb hS
          have ha : (33 : Int) ≤ s[k].toNat := by omega
          have hb : (s[k].toNat : Int) ≤ 126 := by omega
          have hc : ((s[k].toNat : Int) == 44) = false := by simp; omega
          clear hbi
          go_wp2
          go_round
          case rel => exact ⟨k + 1, by omega, by go_num, HS.out⟩
          case measure => simp [intOf]; omega
        · have HF := hid (nameOk_bad s k hlt (by simpa using hb))
          have HB : Hid (¬ (33 ≤ s[k].toNat ∧ s[k].toNat ≤ 126 ∧ s[k].toNat ≠ 44)) := fun h => hb ((nameByte_iff _).2 h)
          clear hb
          go_wp2
          all_goals first
            | (go_ret; exact ⟨ret_bool HF.out.symm, rfl⟩)
            | (exfalso; have h1 := HB.out; simp at *; omega)
      · have hks : k = s.size := by omega
        have HK := hid hks
        clear hks
        go_wp2
        go_ret
        exact ⟨ret_bool (nameOk_all s h1 h2 (by have h := HA.out; rw [HK.out, List.take_of_length_le (by simp)] at h; exact h)).symm, rfl⟩
  · have HF := hid (nameOk_len s h0)
    rcases Nat.lt_or_ge s.size 1 with h1 | h1
    · have hd1 : (s.size : Int) < 1 := by omega
      clear h0 h1
      go_enter Tryd.func100, Tryd.ntmps100
      go_wp2
      go_ret
      exact ⟨ret_bool HF.out.symm, rfl⟩
    · have hd1 : (1 : Int) ≤ s.size := by omega
      have hd2 : (64 : Int) < s.size := by omega
      clear h0 h1
      go_enter Tryd.func100, Tryd.ntmps100
      go_wp2
      go_ret
      exact ⟨ret_bool HF.out.symm, rfl⟩

set_option maxHeartbeats 800000 in
set_option maxRecDepth 100000 in
theorem kinds_any (w : World) (A : Option Addr) (c : Nat) (ks : List Int) (hk : Lies w w.heap.size A (ks.map (Value.int .i64))) (hl : ks.length ≤ 1000000) :
    Calls Tryd.prog 41 #[.slice A ks.length c] w fun e w' => e = .returned (.bool (kindsB (ks.map kfd))) ∧ w = w' := by
  have HK := hid hk
  clear hk
  go_enter Tryd.func41, Tryd.ntmps41
  go_wp2
  go_loop [7] (fun i => ∃ k : Nat, k ≤ ks.length ∧ i = .int .i64 k ∧ Hid (∀ j (h : j < ks.length), j < k → kindB ks[j] j ks.length = true)) (fun i => ks.length - (intOf i).toNat)
  case atStart => exact ⟨0, Nat.zero_le _, rfl, fun j _ h => absurd h (by omega)⟩
  case round =>
    obtain ⟨k, hk, rfl, HP⟩ := hrel
    by_cases hlt : k < ks.length
    · obtain ⟨b, o, rfl, hbw, hcells⟩ := HK.out (by intro e; have := congrArg List.length e; simp at this; subst this; simp at hlt)
      have c0 : w.cell? ⟨b, o + k, none⟩ = some (.int .i64 ks[k]) := hcells k _ (by simp [hlt])
      clear hcells
      by_cases hg : kindB ks[k] k ks.length = true
      · have HG : Hid (∀ j (h : j < ks.length), j < k + 1 → kindB ks[j] j ks.length = true) := fun j hj hjk => by
          by_cases e : j = k
          · subst e; exact hg
          · exact HP.out j hj (by omega)
        simp only [kindB, Bool.and_eq_true, Bool.or_eq_true, decide_eq_true_eq] at hg
        obtain ⟨⟨g1, g2⟩, g3⟩ := hg
        generalize ks[k] = kd at *
        by_cases h6 : kd = 6
        · subst h6
          have hkn : k + 1 = ks.length := by
            rcases g3 with g | g
            · exact absurd rfl g
            · exact g
          have t1 : ((k : Int) != (ks.length : Int) - 1) = false := by simp; omega
          clear g3 hkn g1 g2
          go_wp2
          go_round
          case rel => exact ⟨k + 1, by omega, by go_num, HG.out⟩
          case measure => simp [intOf]; omega
        · have t1 : (kd == 6) = false := by simpa using h6
          clear g3 h6
          go_wp2
          go_round
          case rel => exact ⟨k + 1, by omega, by go_num, HG.out⟩
          case measure => simp [intOf]; omega
      · have HF : Hid (kindsB (ks.map kfd) = false) := by
          show _ = _
          rw [Bool.eq_false_iff]
          intro h
          have := (kindsB_iff _).1 h k (by simpa using hlt)
          simp only [List.getElem_map, kfd, List.length_map] at this
          exact hg this
        simp only [kindB, Bool.and_eq_true, Bool.or_eq_true, decide_eq_true_eq] at hg
        generalize ks[k] = kd at *
        by_cases g1 : kd < 1
        · clear hg
          go_wp2
          go_ret
          exact ⟨ret_bool HF.out.symm, rfl⟩
        · have g1' : 1 ≤ kd := by omega
          clear g1
          by_cases g2 : 6 < kd
          · clear hg
            go_wp2
            go_ret
            exact ⟨ret_bool HF.out.symm, rfl⟩
          · have g2' : kd ≤ 6 := by omega
            have g6 : kd = 6 := by
              by_cases h : kd = 6
              · exact h
              · exact absurd ⟨⟨g1', g2'⟩, .inl h⟩ hg
            subst g6
            have hkn : k + 1 ≠ ks.length := fun h => hg ⟨⟨g1', g2'⟩, .inr h⟩
            have t1 : ((k : Int) != (ks.length : Int) - 1) = true := by simp; omega
            clear hg g2 hkn
            go_wp2
            go_ret
            exact ⟨ret_bool HF.out.symm, rfl⟩
    · have HF : Hid (kindsB (ks.map kfd) = true) := (kindsB_iff _).2 fun j hj => by
        have := HP.out j (by simpa using hj) (by simp at hj; omega)
        simpa [kfd] using this
      go_wp2
      go_ret
      exact ⟨ret_bool HF.out.symm, rfl⟩

theorem oapp_bel {w wr w' : World} {e : TypeId} {n c : Nat} {A : Option Addr} {xs : List Value} (hbw : Below w.heap.size w wr) (hro : wr.ownsRow w.heap.size e 1 (.slice A n c) n xs) (hg : wr.grownBy w' (Value.slice A n c).ownBlock) : Below w.heap.size w w' :=
  hbw.trans (((Kept.refl w.heap.size [e] wr).grown hg (fun k hk => by obtain ⟨a, cs, b⟩ := own_box hro k hk; exact ⟨a, e, cs, by simp, b⟩)).below hbw.size)
theorem ret_u32 {x : Int} {n : Nat} (h : x = n) : Ending.returned (.int .u32 x) = .returned (.int .u32 n) := by rw [h]

set_option maxHeartbeats 1000000 in
set_option maxRecDepth 100000 in
theorem number_r (w : World) (B : Nat) (A : Option Addr) (c : Nat) (left : List UInt8) (hb : Lies w B A (bv left)) (h : 4 ≤ left.length) (hl : left.length ≤ 1000000) :
    Calls Tryd.prog 70 #[.slice A left.length c] w fun e w' => e = .returned (.int .u32 (num4 left)) ∧ Quiet w w' := by
  match left, h with
  | a :: b :: x :: d :: r, _ =>
    obtain ⟨bk, o, rfl, hbk, hcells⟩ := hb (by simp [bv])
    have c0 : w.cell? ⟨bk, o, none⟩ = some (.int .u8 a.toNat) := hcells 0 _ rfl
    have c1 : w.cell? ⟨bk, o + 1, none⟩ = some (.int .u8 b.toNat) := hcells 1 _ rfl
    have c2 : w.cell? ⟨bk, o + 2, none⟩ = some (.int .u8 x.toNat) := hcells 2 _ rfl
    have c3 : w.cell? ⟨bk, o + 3, none⟩ = some (.int .u8 d.toNat) := hcells 3 _ rfl
    clear hcells hb
    have h0 := a.toNat_lt
    have h1 := b.toNat_lt
    have h2 := x.toNat_lt
    have h3 := d.toNat_lt
    have hlen : (a :: b :: x :: d :: r).length = r.length + 4 := rfl
    rw [hlen] at hl ⊢
    have l0 : (0 : Int) < (r.length : Int) + 4 := by omega
    have l1 : (1 : Int) < (r.length : Int) + 4 := by omega
    have l2 : (2 : Int) < (r.length : Int) + 4 := by omega
    have l3 : (3 : Int) < (r.length : Int) + 4 := by omega
    go_enter Tryd.func70, Tryd.ntmps70
    go_wp2
    go_quiet (fail)
    go_wp2
    go_ret
    refine ⟨ret_u32 ?_, _, rfl⟩
    simp only [num4, List.getD, List.getElem?_cons_zero, List.getElem?_cons_succ, Option.getD_some]
    omega

/-- The names of a text, and what is wrong with them. -/
def splF (tx : List UInt8) : Int × List ByteArray := if tx = [] then (0, []) else if 64 < (spl tx).length then (6, []) else if (spl tx).all nameOk then (0, spl tx) else (4, [])

theorem cutC_snoc_comma : ∀ p : List UInt8, cutC (p ++ [44]) = cutC p ++ [[]]
  | [] => rfl
  | x :: p => by
    have ih := cutC_snoc_comma p
    obtain ⟨y, r, e⟩ := cutC_cons p
    by_cases hx : x = 44
    · subst hx
      rw [List.cons_append, cutC_comma, cutC_comma, ih]; rfl
    · rw [e] at ih
      rw [List.cons_append, cutC_other x _ hx y (r ++ [[]]) ih, cutC_other x p hx y r e]; rfl
theorem cutC_snoc_other (b : UInt8) (hb : b ≠ 44) : ∀ p : List UInt8, ∃ i t, cutC p = i ++ [t] ∧ cutC (p ++ [b]) = i ++ [t ++ [b]]
  | [] => ⟨[], [], rfl, by rw [List.nil_append, cutC_other b [] hb [] [] rfl]; rfl⟩
  | x :: p => by
    obtain ⟨i, t, h1, h2⟩ := cutC_snoc_other b hb p
    by_cases hx : x = 44
    · subst hx
      exact ⟨[] :: i, t, by rw [cutC_comma, h1]; rfl, by rw [List.cons_append, cutC_comma, h2]; rfl⟩
    · cases i with
      | nil => exact ⟨[], x :: t, by rw [cutC_other x p hx t [] h1]; rfl, by rw [List.cons_append, cutC_other x _ hx (t ++ [b]) [] h2]; rfl⟩
      | cons y i => exact ⟨(x :: y) :: i, t, by rw [cutC_other x p hx y (i ++ [t]) h1]; rfl, by rw [List.cons_append, cutC_other x _ hx y (i ++ [t ++ [b]]) h2]; rfl⟩

theorem conv_one (w : World) (g : Nat) (b : UInt8) (hg : g = w.heap.size) : (convert 22 9 (.slice (some ⟨g, 0, none⟩) 1 1)).run Tryd.prog (w.alloc (.cells #[.int .u8 b.toNat] 5)) = .ok (.string ⟨#[b]⟩) (w.alloc (.cells #[.int .u8 b.toNat] 5)) := by
  refine conv_any _ g 0 1 [b] fun j u hu => ?_
  rw [Nat.zero_add, lit_cell w #[.int .u8 b.toNat] 5 (0, 0) g j hg]
  simpa [bv] using hu

theorem conv_two (w : World) (g : Nat) (b : UInt8) (hg : g = w.heap.size) : (convert 22 9 (.slice (some ⟨g, 0, none⟩) 1 1)).run Tryd.prog (w.alloc (.cells #[.int .u8 b.toNat] 5)).drew = .ok (.string ⟨#[b]⟩) (w.alloc (.cells #[.int .u8 b.toNat] 5)).drew := by
  refine conv_any _ g 0 1 [b] fun j u hu => ?_
  rw [Nat.zero_add]
  have := lit_cell w #[.int .u8 b.toNat] 5 (0, 0) g j hg
  rw [show (w.alloc (.cells #[.int .u8 b.toNat] 5)).drew.cell? ⟨g, j, none⟩ = (w.alloc (.cells #[.int .u8 b.toNat] 5)).cell? ⟨g, j, none⟩ from rfl, this]
  simpa [bv] using hu

set_option maxHeartbeats 2000000 in
set_option maxRecDepth 100000 in
theorem rsplit_any (w : World) (A : Option Addr) (c : Nat) (tx : List UInt8) (hb : Lies w w.heap.size A (bv tx)) (hl : tx.length ≤ 32768) :
    Calls Tryd.prog 71 #[.slice A tx.length c] w fun e w' => ∃ A' c', e = .returned (.tuple #[.slice A' (splF tx).2.length c', .int .i64 (splF tx).1]) ∧
      w'.ownsRow w.heap.size 9 1 (.slice A' (splF tx).2.length c') (splF tx).2.length (sv (splF tx).2) ∧ Below w.heap.size w w' := by
  have HB := hid hb
  clear hb
  by_cases h0 : tx = []
  · have HE : Hid (splF tx = (0, [])) := by show _ = _; rw [splF, if_pos h0]
    have hl0 : tx.length = 0 := by rw [h0]; rfl
    rw [hl0]
    clear h0 hl0 hl
    go_enter Tryd.func71, Tryd.ntmps71
    go_wp2
    go_ret2
    rw [HE.out]
    exact ⟨none, 0, rfl, World.ownsRow_nil _ _ _ _, Below.refl _ _⟩
  · have HE : Hid (splF tx = if 64 < (spl tx).length then (6, []) else if (spl tx).all nameOk then (0, spl tx) else (4, [])) := by show _ = _; rw [splF, if_neg h0]
    have hpos : 0 < tx.length := by
      rcases Nat.eq_zero_or_pos tx.length with h | h
      · exact absurd (List.eq_nil_of_length_eq_zero h) h0
      · exact h
    have t1 : ((tx.length : Int) == 0) = false := by simp; exact h0
    obtain ⟨b, o, rfl, hbb, hcells⟩ := HB.out (by simpa [bv] using h0)
    have HC := hid hcells
    obtain ⟨i9, hi9, hz9, hz91, hz92⟩ := info_parts Tryd.info9
    clear HB hcells h0
    go_enter Tryd.func71, Tryd.ntmps71
    go_wp2
    go_loopw [15, 4] (fun i v wr => ∃ (k p : Nat) (A' : Option Addr) (c' : Nat) (ss : List ByteArray), k ≤ tx.length ∧ i = .int .i64 k ∧ v = .slice A' (p + 1) c' ∧ p ≤ k ∧ wr.ownsRow w.heap.size 9 1 (.slice A' (p + 1) c') (p + 1) (sv ss) ∧ Below w.heap.size w wr ∧ Hid (ss.map (·.data.toList) = cutC (tx.take k)) ∧ Hid (∀ s ∈ ss, s.size ≤ k)) (fun i _ _ => tx.length - (intOf i).toNat)
    case atStart =>
      refine ⟨0, 0, _, 1, [⟨#[]⟩], Nat.zero_le _, rfl, rfl, Nat.le_refl _, ?_, (Below.refl _ _).alloc (Nat.le_refl _) _, ?_, ?_⟩
      · exact World.ownsRow_lit w #[.string ⟨#[]⟩] 1 (Nat.le_refl _) (by unfold maxLen; omega) rfl
      · show _ = _
        simp [cutC]
      · intro s hs
        simp only [List.mem_cons, List.mem_nil_iff, or_false] at hs
        subst hs
        exact Nat.zero_le _
    case round =>
      obtain ⟨k, p, A', c', ss, hk, rfl, rfl, hpk, hro, hbw, HS, HZ⟩ := hrel
      have HRO := hid hro
      have HBW := hid hbw
      have hszr : w.heap.size ≤ wr.heap.size := hbw.size
      have hsl : ss.length = p + 1 := by have := hro.1; simpa [sv] using this
      by_cases hlt : k < tx.length
      · have c0 : wr.cell? ⟨b, o + k, none⟩ = some (.int .u8 tx[k].toNat) := (hbw.cell (p := ⟨b, _, none⟩) hbb).trans (HC.out k _ (by simp [bv, hlt]))
        have HT : Hid (tx.take (k + 1) = tx.take k ++ [tx[k]]) := take_snoc _ _ hlt
        obtain ⟨x, Hx⟩ : ∃ z, Hid (tx[k] = z) := ⟨_, hid rfl⟩
        rw [Hx.out] at c0 HT
        clear hro hbw Hx
        by_cases hx : x = 44
        · subst hx
          have HS2 : Hid ((ss ++ [(⟨#[]⟩ : ByteArray)]).map (fun s : ByteArray => s.data.toList) = cutC (tx.take (k + 1))) := by
            show _ = _
            rw [HT.out, cutC_snoc_comma, List.map_append, HS.out]
            simp
          have HZ2 : Hid (∀ s ∈ ss ++ [(⟨#[]⟩ : ByteArray)], s.size ≤ k + 1) := fun s hs => by
            rcases List.mem_append.1 hs with h | h
            · exact Nat.le_succ_of_le (HZ.out s h)
            · simp only [List.mem_cons, List.mem_nil_iff, or_false] at h
              subst h
              exact Nat.zero_le _
          have c0' : wr.cell? ⟨b, o + k, none⟩ = some (.int .u8 44) := c0
          clear c0
          go_wp2_with (first
            | (at_builtin
               (
                 have hl7 := lit_lies wr #[.string ⟨#[]⟩] 9 (0, 0) wr.heap.size rfl
                 refine wpList_app _ rfl (.tmp 21) (.tmp 22) 78 rfl w.heap.size 9 i9 _ 1 16 Tryd.underlying78 hi9 hz9 hz91 hz92 rfl (by decide) A' (p + 1) c' (sv ss) rfl (HRO.out.alloc _) (wr.heap.size + 1) (some ⟨wr.heap.size, 0, none⟩) 1 1 (sv [⟨#[]⟩]) rfl rfl hl7 (sv_one _) ?g3 ?g4 ?g5 ?_
                 case g3 => unfold maxLen; omega
                 case g4 => omega
                 case g5 => simp; omega
                 intro A8 c8 w8 ho8 hg8
                 have HB8 := hid (oapp_bel (HBW.out.alloc hszr _) (HRO.out.alloc _) hg8)
                 have HO8 := hid ho8
                 clear ho8 hg8 hl7)))
          go_roundw
          case rel =>
            refine ⟨k + 1, p + 1, A8, c8, ss ++ [⟨#[]⟩], by omega, by go_num, rfl, by omega, ?_, HB8.out, HS2, HZ2⟩
            have e : sv (ss ++ [⟨#[]⟩]) = sv ss ++ sv [⟨#[]⟩] := by simp [sv]
            rw [e]
            exact HO8.out
          case measure => simp [intOf]; omega
        · have t2 : ((x.toNat : Int) == 44) = false := by
            have : x.toNat ≠ 44 := fun h => hx (UInt8.toNat_inj.1 h)
            simp
            omega
          obtain ⟨g, rfl⟩ : ∃ g, A' = some ⟨g, 0, none⟩ := by
            rcases HRO.out.2 with ⟨_, h0⟩ | ⟨g, cap, cur, hv, _⟩
            · omega
            · injection hv with hv
              exact ⟨g, hv⟩
          obtain ⟨i, t, q1, q2⟩ := cutC_snoc_other x hx (tx.take k)
          obtain ⟨s, Hsp⟩ : ∃ z, Hid (ss[p]'(by omega) = z) := ⟨_, hid rfl⟩
          have cp : wr.cell? ⟨g, p, none⟩ = some (.string s) := by
            rw [HRO.out.cellAt p (by omega), ← Hsp.out]
            simp [sv, hsl]
          have fp : wr.frozen? ⟨g, p, none⟩ = false := HRO.out.frozenAt p
          have hs1 : s.size ≤ k := HZ.out s (by rw [← Hsp.out]; exact List.getElem_mem _)
          have hglt : g < wr.heap.size := World.block_lt_of_cell? wr _ cp
          have hcv := conv_one wr.drew wr.heap.size x rfl
          have hcv2 := conv_two wr wr.heap.size x rfl
          have hwp : IntKind.i64.wrap (p : Int) = p := by
            simp [IntKind.wrap, IntKind.bits, IntKind.signed]
            omega
          have hadd : ∀ W : World, (Op.stringOp .add s ⟨#[x]⟩).run Tryd.prog W = .ok (.string (s ++ ⟨#[x]⟩)) W := fun W => run_string_add_sum (P := Tryd.prog) W s ⟨#[x]⟩ (by
            have : (⟨#[x]⟩ : ByteArray).size = 1 := rfl
            omega)
          have hi1 : (p : Int) + 1 - 1 = p := by omega
          have hi2 : (p : Int) < (p : Int) + 1 := by omega
          have HQ1 := hid q1
          have HQ2 := hid q2
          have HSX : Hid ((ss.set p (s ++ ⟨#[x]⟩)).map (fun s : ByteArray => s.data.toList) = cutC (tx.take (k + 1))) := by
            show _ = _
            have hi : i.length = p := by
              have h := congrArg List.length (HS.out.trans q1)
              simp at h
              omega
            have ht : s.data.toList = t := by
              have h : (ss.map (fun s : ByteArray => s.data.toList))[p]? = (i ++ [t])[p]? := by rw [← q1, ← HS.out]
              rw [List.getElem?_map, List.getElem?_eq_getElem (by omega), Hsp.out] at h
              simp [hi] at h
              exact h
            rw [HT.out, q2, List.map_set, HS.out.trans q1]
            rw [← hi, List.set_append]
            simp [ByteArray.data_append, ht]
          have HZX : Hid (∀ u ∈ ss.set p (s ++ ⟨#[x]⟩), u.size ≤ k + 1) := fun u hu => by
            rcases List.mem_or_eq_of_mem_set hu with h | h
            · exact Nat.le_succ_of_le (HZ.out u h)
            · subst h
              rw [ByteArray.size_append]
              have : (⟨#[x]⟩ : ByteArray).size = 1 := rfl
              omega
          have HV : Hid (sv (ss.set p (s ++ ⟨#[x]⟩)) = (sv ss).set p (.string (s ++ ⟨#[x]⟩))) := by show _ = _; simp [sv, List.map_set]
          clear q1 q2 hx HE HC
          go_wp2
          go_region
          go_wp2
          go_roundw
          case rel =>
            refine ⟨k + 1, p, _, c', ss.set p (s ++ ⟨#[x]⟩), by omega, by go_num, rfl, by omega, ?_, ?_, HSX, HZX⟩
            · rw [HV.out]
              exact (HRO.out.stored p _).1.alloc _
            · exact bel_drewN ((oapp_bel HBW.out HRO.out (HRO.out.stored p _).2).alloc (by simp [World.setCell]; omega) _) 1
          case measure => simp [intOf]; omega
      · have hk' : k = tx.length := by omega
        subst hk'
        have hss : ss = spl tx := by
          apply bytes_inj
          rw [spl_cut, HS.out, List.take_length]
        have HSS := hid hss
        have HZ2 : Hid (∀ s ∈ spl tx, s.size ≤ maxLen) := fun s hs => by
          have := HZ.out s (by rw [HSS.out]; exact hs)
          unfold maxLen
          omega
        rw [hss] at HRO hsl
        have HLS : Hid (Lies wr wr.heap.size A' (sv (spl tx))) := Lies.own HRO.out
        clear hro hbw hss HS HZ
        by_cases h64 : 64 < p + 1
        · have HE2 : Hid (splF tx = (6, [])) := by show _ = _; rw [HE.out, if_pos (by rw [hsl]; exact h64)]
          have t2 : (64 : Int) < (p : Int) + 1 := by omega
          go_wp2
          go_ret2
          rw [HE2.out]
          exact ⟨none, 0, rfl, World.ownsRow_nil _ _ _ _, HBW.out⟩
        · have HE2 : Hid (splF tx = if (spl tx).all nameOk then (0, spl tx) else (4, [])) := by show _ = _; rw [HE.out, if_neg (by rw [hsl]; exact h64)]
          have t2 : decide ((64 : Int) < (p : Int) + 1) = false := by simp; omega
          clear h64
          go_wp2
          go_loop [41] (fun i => ∃ q : Nat, q ≤ p + 1 ∧ i = .int .i64 q ∧ Hid (((spl tx).take q).all nameOk = true)) (fun i => p + 1 - (intOf i).toNat)
          case atStart => exact ⟨0, Nat.zero_le _, rfl, rfl⟩
          case round =>
            obtain ⟨q, hq, rfl, HA⟩ := hrel
            by_cases hlq : q < p + 1
            · have hlq2 : q < (spl tx).length := by omega
              obtain ⟨b2, o2, rfl, hb2, hcell⟩ := HLS.out (by intro e; have := congrArg List.length e; simp [sv] at this; rw [this] at hlq2; simp at hlq2)
              have hck : wr.cell? ⟨b2, o2 + q, none⟩ = some (.string (spl tx)[q]) := hcell q _ (by simp [sv, hlq2])
              have hszk := HZ2.out (spl tx)[q] (List.getElem_mem hlq2)
              clear hcell
              by_cases hb : nameOk (spl tx)[q] = true
              · have HS' : Hid (((spl tx).take (q + 1)).all nameOk = true) := by show _ = _; rw [take_snoc _ _ hlq2, List.all_append, HA.out]; simp [hb]
                have HB := hid hb; clear hb
                go_wp2_with (go_at_call 100; refine (name_any _ _ hszk).mono ?_; rintro e w' ⟨he, rfl⟩; rw [HB.out] at he; subst he)
                go_round
                case rel => exact ⟨q + 1, by omega, by go_num, HS'.out⟩
                case measure => simp [intOf]; omega
              · have HB : Hid (nameOk (spl tx)[q] = false) := by show _ = _; simpa using hb
                have HF : Hid ((spl tx).all nameOk = false) := by show _ = _; rw [List.all_eq_false]; exact ⟨_, List.getElem_mem hlq2, hb⟩
                clear hb
                go_wp2_with (go_at_call 100; refine (name_any _ _ hszk).mono ?_; rintro e w' ⟨he, rfl⟩; rw [HB.out] at he; subst he)
                go_ret2
                rw [HE2.out, HF.out]
                exact ⟨none, 0, rfl, World.ownsRow_nil _ _ _ _, HBW.out⟩
            · have hks : q = p + 1 := by omega
              have HF : Hid ((spl tx).all nameOk = true) := by have h := HA.out; rw [hks, ← hsl, List.take_length] at h; exact h
              clear hks
              go_wp2
              go_ret2
              rw [HE2.out, HF.out]
              refine ⟨A', c', ?_, ?_, HBW.out⟩
              · simp [hsl]
              · show wr.ownsRow _ _ _ (.slice A' (spl tx).length c') (spl tx).length _
                rw [hsl]
                exact HRO.out

/-- What the document's taking of a field answers. -/
def TakeQ (k : Int) (left : List UInt8) (w : World) (e : Ending) (w' : World) : Prop :=
  ∃ (f : Fd) (n : Nat) (tA lA : Option Addr) (tc lc : Nat), e = .returned (.tuple #[.agg #[.int .i64 k, .int .u32 f.n, .slice tA f.text.length tc, .slice lA f.list.length lc], .int .i64 n, .int .i64 (getF k left).1]) ∧ Below w.heap.size w w' ∧
    ((getF k left).1 = 0 → f = { (getF k left).2.1 with kind := k } ∧ n ≤ left.length ∧ (getF k left).2.2 = left.drop n ∧ w'.ownsRow w.heap.size 5 1 (.slice tA f.text.length tc) f.text.length (bv f.text) ∧ w'.ownsRow w.heap.size 9 1 (.slice lA f.list.length lc) f.list.length (sv f.list))
theorem takeQ_bad {k er : Int} {left : List UInt8} {w w' : World} (h : (getF k left).1 = er) (h0 : er ≠ 0) (m n : Nat) (hb : Below w.heap.size w w') :
    TakeQ k left w (.returned (.tuple #[.agg #[.int .i64 k, .int .u32 m, .slice none 0 0, .slice none 0 0], .int .i64 n, .int .i64 er])) w' :=
  ⟨⟨k, m, [], []⟩, n, none, none, 0, 0, by rw [h]; rfl, hb, fun h1 => absurd (h.symm.trans h1) h0⟩
theorem namesF_spl {left tx rs : List UInt8} (h : textF left = (0, tx, rs)) : (namesF left).1 = (splF tx).1 ∧ ((splF tx).1 = 0 → namesF left = (0, ⟨0, 0, [], (splF tx).2⟩, rs)) := by
  unfold namesF splF
  rw [h]
  simp only [if_true]
  by_cases h0 : tx = []
  · simp [h0, zf]
  · simp only [if_neg h0]
    by_cases h1 : 64 < (spl tx).length
    · simp [h1]
    · simp only [if_neg h1]
      by_cases h2 : (spl tx).all nameOk = true
      · simp [h2]
      · simp [h2]

set_option maxHeartbeats 2000000 in
set_option maxRecDepth 100000 in
theorem rtake1 (w : World) (A : Option Addr) (c : Nat) (left : List UInt8) (hb : Lies w w.heap.size A (bv left)) (hl : left.length ≤ 1000000) :
    Calls Tryd.prog 42 #[.int .i64 1, .slice A left.length c] w (TakeQ 1 left w) := by
  have hbo : ∀ o o2, Below w.heap.size w ((w.alloc o).alloc o2) := fun o o2 => ((Below.refl _ _).alloc (Nat.le_refl _) _).alloc (by simp) _
  have HBO := hid hbo
  clear hbo
  cases left with
  | nil =>
    have HE : Hid ((getF 1 []).1 = 3) := rfl
    have hl0 : ([] : List UInt8).length = 0 := rfl
    rw [hl0]
    clear hb hl hl0
    go_enter Tryd.func42, Tryd.ntmps42
    go_wp2
    refine bodyPost_ret (v := .tuple #[.agg #[.int .i64 1, .int .u32 0, .slice none 0 0, .slice none 0 0], .int .i64 0, .int .i64 3]) (by simp [results, Tryd.results42, go_sem]) rfl ?_
    exact takeQ_bad HE.out (by decide) 0 0 (HBO.out _ _)
  | cons a r =>
    obtain ⟨b, o, rfl, hbb, hcells⟩ := hb (by simp [bv])
    have c0 : w.cell? ⟨b, o, none⟩ = some (.int .u8 a.toNat) := hcells 0 _ rfl
    clear hcells hb
    have ha : a.toNat < 256 := a.toNat_lt
    have hlen : (a :: r).length = r.length + 1 := rfl
    rw [hlen] at hl ⊢
    clear hlen
    have t1 : decide (((r.length : Int) + 1) < 1) = false := by simp; omega
    have t2 : (0 : Int) < (r.length : Int) + 1 := by omega
    go_enter Tryd.func42, Tryd.ntmps42
    go_wp2
    refine bodyPost_ret (v := .tuple #[.agg #[.int .i64 1, .int .u32 a.toNat, .slice none 0 0, .slice none 0 0], .int .i64 1, .int .i64 0]) (by simp [results, Tryd.results42, go_sem]) rfl ?_
    refine ⟨⟨1, a.toNat, [], []⟩, 1, none, none, 0, 0, rfl, HBO.out _ _, fun _ => ⟨?_, by simp, rfl, World.ownsRow_nil _ _ _ _, World.ownsRow_nil _ _ _ _⟩⟩
    rfl

set_option maxHeartbeats 2000000 in
set_option maxRecDepth 100000 in
theorem rtake2 (w : World) (A : Option Addr) (c : Nat) (left : List UInt8) (hb : Lies w w.heap.size A (bv left)) (hl : left.length ≤ 1000000) :
    Calls Tryd.prog 42 #[.int .i64 2, .slice A left.length c] w (TakeQ 2 left w) := by
  have hbo : ∀ o o2, Below w.heap.size w ((w.alloc o).alloc o2) := fun o o2 => ((Below.refl _ _).alloc (Nat.le_refl _) _).alloc (by simp) _
  have HBO := hid hbo
  clear hbo
  cases left with
  | nil =>
    have HE : Hid ((getF 2 []).1 = 3) := rfl
    have hl0 : ([] : List UInt8).length = 0 := rfl
    rw [hl0]
    clear hb hl hl0
    go_enter Tryd.func42, Tryd.ntmps42
    go_wp2
    refine bodyPost_ret (v := .tuple #[.agg #[.int .i64 2, .int .u32 0, .slice none 0 0, .slice none 0 0], .int .i64 0, .int .i64 3]) (by simp [results, Tryd.results42, go_sem]) rfl ?_
    exact takeQ_bad HE.out (by decide) 0 0 (HBO.out _ _)
  | cons a r =>
    obtain ⟨b, o, rfl, hbb, hcells⟩ := hb (by simp [bv])
    have c0 : w.cell? ⟨b, o, none⟩ = some (.int .u8 a.toNat) := hcells 0 _ rfl
    clear hcells hb
    have ha : a.toNat < 256 := a.toNat_lt
    have hlen : (a :: r).length = r.length + 1 := rfl
    rw [hlen] at hl ⊢
    clear hlen
    have t1 : decide (((r.length : Int) + 1) < 1) = false := by simp; omega
    have t2 : (0 : Int) < (r.length : Int) + 1 := by omega
    obtain ⟨m, HM⟩ : ∃ m, Hid (min a.toNat 1 = m) := ⟨_, rfl⟩
    have hm : min (a.toNat : Int) 1 = m := by have := HM.out; omega
    go_enter Tryd.func42, Tryd.ntmps42
    go_wp2
    refine bodyPost_ret (v := .tuple #[.agg #[.int .i64 2, .int .u32 m, .slice none 0 0, .slice none 0 0], .int .i64 1, .int .i64 0]) (by simp [results, Tryd.results42, go_sem]) rfl ?_
    refine ⟨⟨2, m, [], []⟩, 1, none, none, 0, 0, rfl, HBO.out _ _, fun _ => ⟨?_, by simp, rfl, World.ownsRow_nil _ _ _ _, World.ownsRow_nil _ _ _ _⟩⟩
    rw [← HM.out]; rfl

theorem box_other {w : World} {g g' i : Nat} {t : TypeId} {cs : Array Value} (h : Box w g t cs) (hne : g ≠ g') (u : Value) : Box (w.setCell ⟨g', i, none⟩ u) g t cs :=
  h.same (Below.heap_setCell _ _ _ _ hne)
/-- The two boxes that the document's taking of a field lays first. -/
def Two (w w4 : World) (k : Int) : Prop := Below w.heap.size w w4 ∧ Box w4 w.heap.size 80 #[.int .i64 0, .int .u32 0, .slice none 0 0, .slice none 0 0] ∧ Box w4 (w.heap.size + 1) 80 #[.int .i64 k, .int .u32 0, .slice none 0 0, .slice none 0 0]
theorem two_lay (w : World) (k : Int) : Two w ((w.alloc (.cells #[.int .i64 0, .int .u32 0, .slice none 0 0, .slice none 0 0] 80)).alloc (.cells #[.int .i64 k, .int .u32 0, .slice none 0 0, .slice none 0 0] 80)) k := by
  refine ⟨((Below.refl _ _).alloc (Nat.le_refl _) _).alloc (by simp) _, box_below (Box.new w 80 _) ((Below.refl _ _).alloc (Nat.le_refl _) _), ?_⟩
  have := Box.new (w.alloc (.cells #[.int .i64 0, .int .u32 0, .slice none 0 0, .slice none 0 0] 80)) 80 #[.int .i64 k, .int .u32 0, .slice none 0 0, .slice none 0 0]
  simpa using this
theorem Two.later {w w4 w5 : World} {k : Int} (h : Two w w4 k) (hb : Below w4.heap.size w4 w5) : Two w w5 k :=
  ⟨h.1.trans (hb.mono h.1.size), box_below h.2.1 hb, box_below h.2.2 hb⟩
theorem two_four {w w4 : World} {k : Int} (h : Two w w4 k) (i : Nat) (u a b c d : Value) : Below w.heap.size w (((((w4.setCell ⟨w.heap.size + 1, i, none⟩ u).setCell ⟨w.heap.size, 0, none⟩ a).setCell ⟨w.heap.size, 1, none⟩ b).setCell ⟨w.heap.size, 2, none⟩ c).setCell ⟨w.heap.size, 3, none⟩ d) := by
  have k4 : Kept w.heap.size [] w w4 := by
    refine ⟨h.1.os, h.1.tape, h.1.output, h.1.size, fun b hb _ => h.1.block b hb⟩
  exact (((k4.new_ (p := ⟨w.heap.size + 1, i, none⟩) (Nat.le_succ _) u).four (Nat.le_refl _) a b c d).below (Nat.le_refl _))
theorem two_plain {w w4 : World} {k : Int} (h : Two w w4 k) (a b c d : Value) : Below w.heap.size w ((((w4.setCell ⟨w.heap.size, 0, none⟩ a).setCell ⟨w.heap.size, 1, none⟩ b).setCell ⟨w.heap.size, 2, none⟩ c).setCell ⟨w.heap.size, 3, none⟩ d) := by
  have k4 : Kept w.heap.size [] w w4 := by
    refine ⟨h.1.os, h.1.tape, h.1.output, h.1.size, fun b hb _ => h.1.block b hb⟩
  exact ((k4.four (Nat.le_refl _) a b c d).below (Nat.le_refl _))
theorem two_own {w w4 : World} {k : Int} (h : Two w w4 k) {base m : Nat} {e : TypeId} {size : Nat} {v : Value} {xs : List Value} (ho : w4.ownsRow base e size v m xs) (he : e ≠ 80) (i : Nat) (u a b c d : Value) :
    (((((w4.setCell ⟨w.heap.size + 1, i, none⟩ u).setCell ⟨w.heap.size, 0, none⟩ a).setCell ⟨w.heap.size, 1, none⟩ b).setCell ⟨w.heap.size, 2, none⟩ c).setCell ⟨w.heap.size, 3, none⟩ d).ownsRow base e size v m xs := by
  have ho5 := ((Kept.refl 0 [80] w4).store (i := i) h.2.2 (Nat.zero_le _) (by simp) u).own ho (by simpa using he)
  exact own_four ho5 (own_ne ho5 (box_other (i := i) h.2.1 (by omega) u) he) a b c d

set_option maxHeartbeats 2000000 in
set_option maxRecDepth 100000 in
theorem rtake6 (w : World) (A : Option Addr) (c : Nat) (left : List UInt8) (hb : Lies w w.heap.size A (bv left)) (hl : left.length ≤ 1000000) :
    Calls Tryd.prog 42 #[.int .i64 6, .slice A left.length c] w (TakeQ 6 left w) := by
  have hbo : ∀ o o2, Below w.heap.size w ((w.alloc o).alloc o2) := fun o o2 => ((Below.refl _ _).alloc (Nat.le_refl _) _).alloc (by simp) _
  have HBO := hid hbo
  have HB := hid hb
  clear hbo hb
  by_cases h1 : 33792 < left.length
  · have HE : Hid ((getF 6 left).1 = 6) := by show _ = _; simp [getF, restF, h1]
    have t1 : (33792 : Int) < left.length := by omega
    clear h1
    go_enter Tryd.func42, Tryd.ntmps42
    go_wp2
    refine bodyPost_ret (v := .tuple #[.agg #[.int .i64 6, .int .u32 0, .slice none 0 0, .slice none 0 0], .int .i64 0, .int .i64 6]) (by simp [results, Tryd.results42, go_sem]) rfl ?_
    exact takeQ_bad HE.out (by decide) 0 0 (HBO.out _ _)
  · have HE : Hid (getF 6 left = (0, ⟨0, 0, left, []⟩, [])) := by show _ = _; simp [getF, restF, h1]
    have t1 : decide ((33792 : Int) < left.length) = false := by simp; omega
    have h1' : left.length ≤ 33792 := by omega
    clear h1
    obtain ⟨i5, hi5, hz5, hz51, hz52⟩ := info_parts Tryd.info5
    have HT0 := hid (two_lay w 6)
    go_enter Tryd.func42, Tryd.ntmps42
    go_wp2_with (first
      | (at_builtin
         (
           refine wpList_app _ rfl (.tmp 39) (.tmp 40) 22 rfl w.heap.size 5 i5 _ 1 1 Tryd.underlying22 hi5 hz5 hz51 hz52 rfl (by decide) _ 0 0 [] rfl (lit_own (by simp; omega) (by simp)) w.heap.size A left.length c (bv left) rfl ?g1 ?g2 (bv_one _) ?g3 ?g4 ?g5 ?_
           case g1 => rw [bv_length, Nat.mul_one]
           case g2 => exact HB.out.below ((HBO.out _ _).alloc (by simp; omega) _)
           case g3 => unfold maxLen; omega
           case g4 => omega
           case g5 => simp; omega
           intro A8 c8 w4 ho8 hg8
           simp only [Nat.zero_add, List.nil_append] at ho8 ⊢
           have hT := HT0.out.later (lit_grown (by simp) hg8)
           have HO8 := hid ho8
           have HT4 := hid hT
           have g2 : w4.cell? ⟨w.heap.size + 1, 2, none⟩ = some (.slice none 0 0) := hT.2.2.cell 2
           have gf2 : w4.frozen? ⟨w.heap.size + 1, 2, none⟩ = false := hT.2.2.frozen 2
           have hx5 := hT.2.2.store 2 (.slice A8 left.length c8)
           have hr5 := box_other (i := 2) hT.2.1 (g' := w.heap.size + 1) (by omega) (.slice A8 left.length c8)
           have e0 : (w4.setCell ⟨w.heap.size + 1, 2, none⟩ (.slice A8 left.length c8)).cell? ⟨w.heap.size + 1, 0, none⟩ = some (.int .i64 6) := hx5.cell 0
           have e1 : (w4.setCell ⟨w.heap.size + 1, 2, none⟩ (.slice A8 left.length c8)).cell? ⟨w.heap.size + 1, 1, none⟩ = some (.int .u32 0) := hx5.cell 1
           have e2 : (w4.setCell ⟨w.heap.size + 1, 2, none⟩ (.slice A8 left.length c8)).cell? ⟨w.heap.size + 1, 2, none⟩ = some (.slice A8 left.length c8) := hx5.cell 2
           have e3 : (w4.setCell ⟨w.heap.size + 1, 2, none⟩ (.slice A8 left.length c8)).cell? ⟨w.heap.size + 1, 3, none⟩ = some (.slice none 0 0) := hx5.cell 3
           have d0 : (w4.setCell ⟨w.heap.size + 1, 2, none⟩ (.slice A8 left.length c8)).cell? ⟨w.heap.size, 0, none⟩ = some (.int .i64 0) := hr5.cell 0
           have d1 : (w4.setCell ⟨w.heap.size + 1, 2, none⟩ (.slice A8 left.length c8)).cell? ⟨w.heap.size, 1, none⟩ = some (.int .u32 0) := hr5.cell 1
           have d2 : (w4.setCell ⟨w.heap.size + 1, 2, none⟩ (.slice A8 left.length c8)).cell? ⟨w.heap.size, 2, none⟩ = some (.slice none 0 0) := hr5.cell 2
           have d3 : (w4.setCell ⟨w.heap.size + 1, 2, none⟩ (.slice A8 left.length c8)).cell? ⟨w.heap.size, 3, none⟩ = some (.slice none 0 0) := hr5.cell 3
           have f0 : (w4.setCell ⟨w.heap.size + 1, 2, none⟩ (.slice A8 left.length c8)).frozen? ⟨w.heap.size, 0, none⟩ = false := hr5.frozen 0
           have f1 : (w4.setCell ⟨w.heap.size + 1, 2, none⟩ (.slice A8 left.length c8)).frozen? ⟨w.heap.size, 1, none⟩ = false := hr5.frozen 1
           have f2 : (w4.setCell ⟨w.heap.size + 1, 2, none⟩ (.slice A8 left.length c8)).frozen? ⟨w.heap.size, 2, none⟩ = false := hr5.frozen 2
           have f3 : (w4.setCell ⟨w.heap.size + 1, 2, none⟩ (.slice A8 left.length c8)).frozen? ⟨w.heap.size, 3, none⟩ = false := hr5.frozen 3
           have hblt := hr5.lt
           clear hx5 hr5
           clear ho8 hg8 hT)))
    refine bodyPost_ret (v := .tuple #[.agg #[.int .i64 6, .int .u32 0, .slice A8 left.length c8, .slice none 0 0], .int .i64 left.length, .int .i64 0]) (by simp [results, Tryd.results42, go_sem, d0, d1, d2, d3]) rfl ?_
    refine ⟨⟨6, 0, left, []⟩, left.length, A8, none, c8, 0, ?_, two_four HT4.out _ _ _ _ _ _, fun _ => ⟨?_, Nat.le_refl _, ?_, two_own HT4.out HO8.out (by decide) _ _ _ _ _ _, World.ownsRow_nil _ _ _ _⟩⟩
    · rw [HE.out]; rfl
    · rw [HE.out]
    · rw [HE.out]; simp

set_option maxHeartbeats 2000000 in
set_option maxRecDepth 100000 in
theorem rtake3 (w : World) (A : Option Addr) (c : Nat) (left : List UInt8) (hb : Lies w w.heap.size A (bv left)) (hl : left.length ≤ 1000000) :
    Calls Tryd.prog 42 #[.int .i64 3, .slice A left.length c] w (TakeQ 3 left w) := by
  have hbo : ∀ o o2, Below w.heap.size w ((w.alloc o).alloc o2) := fun o o2 => ((Below.refl _ _).alloc (Nat.le_refl _) _).alloc (by simp) _
  have HBO := hid hbo
  have HB := hid hb
  clear hbo hb
  by_cases h1 : left.length < 4
  · have HE : Hid ((getF 3 left).1 = 3) := by show _ = _; simp [getF, u32F, h1]
    have t1 : (left.length : Int) < 4 := by omega
    clear h1
    go_enter Tryd.func42, Tryd.ntmps42
    go_wp2
    refine bodyPost_ret (v := .tuple #[.agg #[.int .i64 3, .int .u32 0, .slice none 0 0, .slice none 0 0], .int .i64 0, .int .i64 3]) (by simp [results, Tryd.results42, go_sem]) rfl ?_
    exact takeQ_bad HE.out (by decide) 0 0 (HBO.out _ _)
  · have HE : Hid (getF 3 left = (0, ⟨0, num4 left, [], []⟩, left.drop 4)) := by show _ = _; simp [getF, u32F, h1]
    have t1 : decide ((left.length : Int) < 4) = false := by simp; omega
    have h1' : 4 ≤ left.length := by omega
    clear h1
    have HT0 := hid (two_lay w 3)
    go_enter Tryd.func42, Tryd.ntmps42
    go_wp2_with (first
      | (go_at_call 70
         ((with_reducible refine (number_r _ w.heap.size A c left (HB.out.below (HBO.out _ _)) h1' hl).mono ?_); rintro e w4 ⟨rfl, d, hW⟩)
         have hT := HT0.out.later (w5 := w4) (by rw [hW]; exact bel_drewN (Below.refl _ _) d)
         have HT4 := hid hT
         obtain ⟨n, HN⟩ : ∃ n, Hid (num4 left = n) := ⟨_, hid rfl⟩
         rw [HN.out]
         have g1 : w4.cell? ⟨w.heap.size + 1, 1, none⟩ = some (.int .u32 0) := hT.2.2.cell 1
         have gf1 : w4.frozen? ⟨w.heap.size + 1, 1, none⟩ = false := hT.2.2.frozen 1
         have hx5 := hT.2.2.store 1 (.int .u32 n)
         have hr5 := box_other (i := 1) hT.2.1 (g' := w.heap.size + 1) (by omega) (.int .u32 n)
         have e0 : (w4.setCell ⟨w.heap.size + 1, 1, none⟩ (.int .u32 n)).cell? ⟨w.heap.size + 1, 0, none⟩ = some (.int .i64 3) := hx5.cell 0
         have e1 : (w4.setCell ⟨w.heap.size + 1, 1, none⟩ (.int .u32 n)).cell? ⟨w.heap.size + 1, 1, none⟩ = some (.int .u32 n) := hx5.cell 1
         have e2 : (w4.setCell ⟨w.heap.size + 1, 1, none⟩ (.int .u32 n)).cell? ⟨w.heap.size + 1, 2, none⟩ = some (.slice none 0 0) := hx5.cell 2
         have e3 : (w4.setCell ⟨w.heap.size + 1, 1, none⟩ (.int .u32 n)).cell? ⟨w.heap.size + 1, 3, none⟩ = some (.slice none 0 0) := hx5.cell 3
         have d0 : (w4.setCell ⟨w.heap.size + 1, 1, none⟩ (.int .u32 n)).cell? ⟨w.heap.size, 0, none⟩ = some (.int .i64 0) := hr5.cell 0
         have d1 : (w4.setCell ⟨w.heap.size + 1, 1, none⟩ (.int .u32 n)).cell? ⟨w.heap.size, 1, none⟩ = some (.int .u32 0) := hr5.cell 1
         have d2 : (w4.setCell ⟨w.heap.size + 1, 1, none⟩ (.int .u32 n)).cell? ⟨w.heap.size, 2, none⟩ = some (.slice none 0 0) := hr5.cell 2
         have d3 : (w4.setCell ⟨w.heap.size + 1, 1, none⟩ (.int .u32 n)).cell? ⟨w.heap.size, 3, none⟩ = some (.slice none 0 0) := hr5.cell 3
         have f0 : (w4.setCell ⟨w.heap.size + 1, 1, none⟩ (.int .u32 n)).frozen? ⟨w.heap.size, 0, none⟩ = false := hr5.frozen 0
         have f1 : (w4.setCell ⟨w.heap.size + 1, 1, none⟩ (.int .u32 n)).frozen? ⟨w.heap.size, 1, none⟩ = false := hr5.frozen 1
         have f2 : (w4.setCell ⟨w.heap.size + 1, 1, none⟩ (.int .u32 n)).frozen? ⟨w.heap.size, 2, none⟩ = false := hr5.frozen 2
         have f3 : (w4.setCell ⟨w.heap.size + 1, 1, none⟩ (.int .u32 n)).frozen? ⟨w.heap.size, 3, none⟩ = false := hr5.frozen 3
         have hblt := hr5.lt
         clear hx5 hr5
         clear hW hT))
    refine bodyPost_ret (v := .tuple #[.agg #[.int .i64 3, .int .u32 n, .slice none 0 0, .slice none 0 0], .int .i64 4, .int .i64 0]) (by simp [results, Tryd.results42, go_sem, d0, d1, d2, d3]) rfl ?_
    refine ⟨⟨3, n, [], []⟩, 4, none, none, 0, 0, ?_, two_four HT4.out _ _ _ _ _ _, fun _ => ⟨?_, h1', ?_, World.ownsRow_nil _ _ _ _, World.ownsRow_nil _ _ _ _⟩⟩
    · rw [HE.out]; rfl
    · rw [HE.out, HN.out]
    · rw [HE.out]

end Go.Proofs.YtdplngplljejhaaDoor
