import Derived.Test.YtlmdbcmaophhnaaDoorZA
namespace Go.Proofs.YtlmdbcmaophhnaaDoor
open Go.RowKit

/-- The names of a text, and what is wrong with them. -/
def splF (tx : List UInt8) : Int × List ByteArray := if tx = [] then (0, []) else if 64 < (spl tx).length then (6, []) else if (spl tx).all nameOk then (0, spl tx) else (4, [])

theorem cutC_snoc_comma : ∀ p : List UInt8, cutC (p ++ [44]) = cutC p ++ [[]]
  | [] => rfl
  | x :: p => by
    have ih := cutC_snoc_comma p
    obtain ⟨y, r, e⟩ := cutC_cons p
    by_cases hx : x = 44
    · subst hx
      rw [List.cons_append, cutC_comma, cutC_comma, ih]; rfl
    · rw [e] at ih
      rw [List.cons_append, cutC_other x _ hx y (r ++ [[]]) ih, cutC_other x p hx y r e]; rfl
theorem cutC_snoc_other (b : UInt8) (hb : b ≠ 44) : ∀ p : List UInt8, ∃ i t, cutC p = i ++ [t] ∧ cutC (p ++ [b]) = i ++ [t ++ [b]]
  | [] => ⟨[], [], rfl, by rw [List.nil_append, cutC_other b [] hb [] [] rfl]; rfl⟩
  | x :: p => by
    obtain ⟨i, t, h1, h2⟩ := cutC_snoc_other b hb p
    by_cases hx : x = 44
    · subst hx
      exact ⟨[] :: i, t, by rw [cutC_comma, h1]; rfl, by rw [List.cons_append, cutC_comma, h2]; rfl⟩
    · cases i with
      | nil => exact ⟨[], x :: t, by rw [cutC_other x p hx t [] h1]; rfl, by rw [List.cons_append, cutC_other x _ hx (t ++ [b]) [] h2]; rfl⟩
      | cons y i => exact ⟨(x :: y) :: i, t, by rw [cutC_other x p hx y (i ++ [t]) h1]; rfl, by rw [List.cons_append, cutC_other x _ hx y (i ++ [t ++ [b]]) h2]; rfl⟩

theorem conv_one (w : World) (g : Nat) (b : UInt8) (hg : g = w.heap.size) : (convert 23 9 (.slice (some ⟨g, 0, none⟩) 1 1)).run Tryd.prog (w.alloc (.cells #[.int .u8 b.toNat] 5)) = .ok (.string ⟨#[b]⟩) (w.alloc (.cells #[.int .u8 b.toNat] 5)) := by
  refine conv_any _ g 0 1 [b] fun j u hu => ?_
  rw [Nat.zero_add, lit_cell w #[.int .u8 b.toNat] 5 (0, 0) g j hg]
  simpa [bv] using hu

theorem conv_two (w : World) (g : Nat) (b : UInt8) (hg : g = w.heap.size) : (convert 23 9 (.slice (some ⟨g, 0, none⟩) 1 1)).run Tryd.prog (w.alloc (.cells #[.int .u8 b.toNat] 5)).drew = .ok (.string ⟨#[b]⟩) (w.alloc (.cells #[.int .u8 b.toNat] 5)).drew := by
  refine conv_any _ g 0 1 [b] fun j u hu => ?_
  rw [Nat.zero_add]
  have := lit_cell w #[.int .u8 b.toNat] 5 (0, 0) g j hg
  rw [show (w.alloc (.cells #[.int .u8 b.toNat] 5)).drew.cell? ⟨g, j, none⟩ = (w.alloc (.cells #[.int .u8 b.toNat] 5)).cell? ⟨g, j, none⟩ from rfl, this]
  simpa [bv] using hu

set_option maxHeartbeats 2000000 in
set_option maxRecDepth 100000 in
theorem rsplit_any (w : World) (A : Option Addr) (c : Nat) (tx : List UInt8) (hb : Lies w w.heap.size A (bv tx)) (hl : tx.length ≤ 32768) :
    Calls Tryd.prog 65 #[.slice A tx.length c] w fun e w' => ∃ A' c', e = .returned (.tuple #[.slice A' (splF tx).2.length c', .int .i64 (splF tx).1]) ∧
      w'.ownsRow w.heap.size 9 1 (.slice A' (splF tx).2.length c') (splF tx).2.length (sv (splF tx).2) ∧ Below w.heap.size w w' := by
  have HB := hid hb
  clear hb
  by_cases h0 : tx = []
  · have HE : Hid (splF tx = (0, [])) := by show _ = _; rw [splF, if_pos h0]
    have hl0 : tx.length = 0 := by rw [h0]; rfl
    rw [hl0]
    clear h0 hl0 hl
    go_enter Tryd.func65, Tryd.ntmps65
    go_wp2
    go_ret2
    rw [HE.out]
    exact ⟨none, 0, rfl, World.ownsRow_nil _ _ _ _, Below.refl _ _⟩
  · have HE : Hid (splF tx = if 64 < (spl tx).length then (6, []) else if (spl tx).all nameOk then (0, spl tx) else (4, [])) := by show _ = _; rw [splF, if_neg h0]
    have hpos : 0 < tx.length := by
      rcases Nat.eq_zero_or_pos tx.length with h | h
      · exact absurd (List.eq_nil_of_length_eq_zero h) h0
      · exact h
    have t1 : ((tx.length : Int) == 0) = false := by simp; exact h0
    obtain ⟨b, o, rfl, hbb, hcells⟩ := HB.out (by simpa [bv] using h0)
    have HC := hid hcells
    obtain ⟨i9, hi9, hz9, hz91, hz92⟩ := info_parts Tryd.info9
    clear HB hcells h0
    go_enter Tryd.func65, Tryd.ntmps65
    go_wp2
    go_loopw [15, 4] (fun i v wr => ∃ (k p : Nat) (A' : Option Addr) (c' : Nat) (ss : List ByteArray), k ≤ tx.length ∧ i = .int .i64 k ∧ v = .slice A' (p + 1) c' ∧ p ≤ k ∧ wr.ownsRow w.heap.size 9 1 (.slice A' (p + 1) c') (p + 1) (sv ss) ∧ Below w.heap.size w wr ∧ Hid (ss.map (·.data.toList) = cutC (tx.take k)) ∧ Hid (∀ s ∈ ss, s.size ≤ k)) (fun i _ _ => tx.length - (intOf i).toNat)
    case atStart =>
      refine ⟨0, 0, _, 1, [⟨#[]⟩], Nat.zero_le _, rfl, rfl, Nat.le_refl _, ?_, (Below.refl _ _).alloc (Nat.le_refl _) _, ?_, ?_⟩
      · exact World.ownsRow_lit w #[.string ⟨#[]⟩] 1 (Nat.le_refl _) (by unfold maxLen; omega) rfl
      · show _ = _
        simp [cutC]
      · intro s hs
        simp only [List.mem_cons, List.mem_nil_iff, or_false] at hs
        subst hs
        exact Nat.zero_le _
    case round =>
      obtain ⟨k, p, A', c', ss, hk, rfl, rfl, hpk, hro, hbw, HS, HZ⟩ := hrel
      have HRO := hid hro
      have HBW := hid hbw
      have hszr : w.heap.size ≤ wr.heap.size := hbw.size
      have hsl : ss.length = p + 1 := by have := hro.1; simpa [sv] using this
      by_cases hlt : k < tx.length
      · have c0 : wr.cell? ⟨b, o + k, none⟩ = some (.int .u8 tx[k].toNat) := (hbw.cell (p := ⟨b, _, none⟩) hbb).trans (HC.out k _ (by simp [bv, hlt]))
        have HT : Hid (tx.take (k + 1) = tx.take k ++ [tx[k]]) := take_snoc _ _ hlt
        obtain ⟨x, Hx⟩ : ∃ z, Hid (tx[k] = z) := ⟨_, hid rfl⟩
        rw [Hx.out] at c0 HT
        clear hro hbw Hx
        by_cases hx : x = 44
        · subst hx
          have HS2 : Hid ((ss ++ [(⟨#[]⟩ : ByteArray)]).map (fun s : ByteArray => s.data.toList) = cutC (tx.take (k + 1))) := by
            show _ = _
            rw [HT.out, cutC_snoc_comma, List.map_append, HS.out]
            simp
          have HZ2 : Hid (∀ s ∈ ss ++ [(⟨#[]⟩ : ByteArray)], s.size ≤ k + 1) := fun s hs => by
            rcases List.mem_append.1 hs with h | h
            · exact Nat.le_succ_of_le (HZ.out s h)
            · simp only [List.mem_cons, List.mem_nil_iff, or_false] at h
              subst h
              exact Nat.zero_le _
          have c0' : wr.cell? ⟨b, o + k, none⟩ = some (.int .u8 44) := c0
          clear c0
          go_wp2_with (first
            | (at_builtin
               (
                 have hl7 := lit_lies wr #[.string ⟨#[]⟩] 9 (0, 0) wr.heap.size rfl
                 refine wpList_app _ rfl (.tmp 21) (.tmp 22) 48 rfl w.heap.size 9 i9 _ 1 16 Tryd.underlying48 hi9 hz9 hz91 hz92 rfl (by decide) A' (p + 1) c' (sv ss) rfl (HRO.out.alloc _) (wr.heap.size + 1) (some ⟨wr.heap.size, 0, none⟩) 1 1 (sv [⟨#[]⟩]) rfl rfl hl7 (sv_one _) ?g3 ?g4 ?g5 ?_
                 case g3 => unfold maxLen; omega
                 case g4 => omega
                 case g5 => simp; omega
                 intro A8 c8 w8 ho8 hg8
                 have HB8 := hid (app_bel (HBW.out.alloc hszr _) (HRO.out.alloc _) hg8)
                 have HO8 := hid ho8
                 clear ho8 hg8 hl7)))
          go_roundw
          case rel =>
            refine ⟨k + 1, p + 1, A8, c8, ss ++ [⟨#[]⟩], by omega, by go_num, rfl, by omega, ?_, HB8.out, HS2, HZ2⟩
            have e : sv (ss ++ [⟨#[]⟩]) = sv ss ++ sv [⟨#[]⟩] := by simp [sv]
            rw [e]
            exact HO8.out
          case measure => simp [intOf]; omega
        · have t2 : ((x.toNat : Int) == 44) = false := by
            have : x.toNat ≠ 44 := fun h => hx (UInt8.toNat_inj.1 h)
            simp
            omega
          obtain ⟨g, rfl⟩ : ∃ g, A' = some ⟨g, 0, none⟩ := by
            rcases HRO.out.2 with ⟨_, h0⟩ | ⟨g, cap, cur, hv, _⟩
            · omega
            · injection hv with hv
              exact ⟨g, hv⟩
          obtain ⟨i, t, q1, q2⟩ := cutC_snoc_other x hx (tx.take k)
          obtain ⟨s, Hsp⟩ : ∃ z, Hid (ss[p]'(by omega) = z) := ⟨_, hid rfl⟩
          have cp : wr.cell? ⟨g, p, none⟩ = some (.string s) := by
            rw [HRO.out.cellAt p (by omega), ← Hsp.out]
            simp [sv, hsl]
          have fp : wr.frozen? ⟨g, p, none⟩ = false := HRO.out.frozenAt p
          have hs1 : s.size ≤ k := HZ.out s (by rw [← Hsp.out]; exact List.getElem_mem _)
          have hglt : g < wr.heap.size := World.block_lt_of_cell? wr _ cp
          have hcv := conv_one wr.drew wr.heap.size x rfl
          have hcv2 := conv_two wr wr.heap.size x rfl
          have hwp : IntKind.i64.wrap (p : Int) = p := by
            simp [IntKind.wrap, IntKind.bits, IntKind.signed]
            omega
          have hadd : ∀ W : World, (Op.stringOp .add s ⟨#[x]⟩).run Tryd.prog W = .ok (.string (s ++ ⟨#[x]⟩)) W := fun W => run_string_add_sum (P := Tryd.prog) W s ⟨#[x]⟩ (by
            have : (⟨#[x]⟩ : ByteArray).size = 1 := rfl
            omega)
          have hi1 : (p : Int) + 1 - 1 = p := by omega
          have hi2 : (p : Int) < (p : Int) + 1 := by omega
          have HQ1 := hid q1
          have HQ2 := hid q2
          have HSX : Hid ((ss.set p (s ++ ⟨#[x]⟩)).map (fun s : ByteArray => s.data.toList) = cutC (tx.take (k + 1))) := by
            show _ = _
            have hi : i.length = p := by
              have h := congrArg List.length (HS.out.trans q1)
              simp at h
              omega
            have ht : s.data.toList = t := by
              have h : (ss.map (fun s : ByteArray => s.data.toList))[p]? = (i ++ [t])[p]? := by rw [← q1, ← HS.out]
              rw [List.getElem?_map, List.getElem?_eq_getElem (by omega), Hsp.out] at h
              simp [hi] at h
              exact h
            rw [HT.out, q2, List.map_set, HS.out.trans q1]
            rw [← hi, List.set_append]
            simp [ByteArray.data_append, ht]
          have HZX : Hid (∀ u ∈ ss.set p (s ++ ⟨#[x]⟩), u.size ≤ k + 1) := fun u hu => by
            rcases List.mem_or_eq_of_mem_set hu with h | h
            · exact Nat.le_succ_of_le (HZ.out u h)
            · subst h
              rw [ByteArray.size_append]
              have : (⟨#[x]⟩ : ByteArray).size = 1 := rfl
              omega
          have HV : Hid (sv (ss.set p (s ++ ⟨#[x]⟩)) = (sv ss).set p (.string (s ++ ⟨#[x]⟩))) := by show _ = _; simp [sv, List.map_set]
          clear q1 q2 hx HE HC
          go_wp2
          go_region
          go_wp2
          go_roundw
          case rel =>
            refine ⟨k + 1, p, _, c', ss.set p (s ++ ⟨#[x]⟩), by omega, by go_num, rfl, by omega, ?_, ?_, HSX, HZX⟩
            · rw [HV.out]
              exact (HRO.out.stored p _).1.alloc _
            · exact bel_drewN ((app_bel HBW.out HRO.out (HRO.out.stored p _).2).alloc (by simp [World.setCell]; omega) _) 1
          case measure => simp [intOf]; omega
      · have hk' : k = tx.length := by omega
        subst hk'
        have hss : ss = spl tx := by
          apply bytes_inj
          rw [spl_cut, HS.out, List.take_length]
        have HSS := hid hss
        have HZ2 : Hid (∀ s ∈ spl tx, s.size ≤ maxLen) := fun s hs => by
          have := HZ.out s (by rw [HSS.out]; exact hs)
          unfold maxLen
          omega
        rw [hss] at HRO hsl
        have HLS : Hid (Lies wr wr.heap.size A' (sv (spl tx))) := Lies.own HRO.out
        clear hro hbw hss HS HZ
        by_cases h64 : 64 < p + 1
        · have HE2 : Hid (splF tx = (6, [])) := by show _ = _; rw [HE.out, if_pos (by rw [hsl]; exact h64)]
          have t2 : (64 : Int) < (p : Int) + 1 := by omega
          go_wp2
          go_ret2
          rw [HE2.out]
          exact ⟨none, 0, rfl, World.ownsRow_nil _ _ _ _, HBW.out⟩
        · have HE2 : Hid (splF tx = if (spl tx).all nameOk then (0, spl tx) else (4, [])) := by show _ = _; rw [HE.out, if_neg (by rw [hsl]; exact h64)]
          have t2 : decide ((64 : Int) < (p : Int) + 1) = false := by simp; omega
          clear h64
          go_wp2
          go_loop [41] (fun i => ∃ q : Nat, q ≤ p + 1 ∧ i = .int .i64 q ∧ Hid (((spl tx).take q).all nameOk = true)) (fun i => p + 1 - (intOf i).toNat)
          case atStart => exact ⟨0, Nat.zero_le _, rfl, rfl⟩
          case round =>
            obtain ⟨q, hq, rfl, HA⟩ := hrel
            by_cases hlq : q < p + 1
            · have hlq2 : q < (spl tx).length := by omega
              obtain ⟨b2, o2, rfl, hb2, hcell⟩ := HLS.out (by intro e; have := congrArg List.length e; simp [sv] at this; rw [this] at hlq2; simp at hlq2)
              have hck : wr.cell? ⟨b2, o2 + q, none⟩ = some (.string (spl tx)[q]) := hcell q _ (by simp [sv, hlq2])
              have hszk := HZ2.out (spl tx)[q] (List.getElem_mem hlq2)
              clear hcell
              by_cases hb : nameOk (spl tx)[q] = true
              · have HS' : Hid (((spl tx).take (q + 1)).all nameOk = true) := by show _ = _; rw [take_snoc _ _ hlq2, List.all_append, HA.out]; simp [hb]
                have HB := hid hb; clear hb
                go_wp2_with (go_at_call 55; refine (name_any _ _ hszk).mono ?_; rintro e w' ⟨he, rfl⟩; rw [HB.out] at he; subst he)
                go_round
                case rel => exact ⟨q + 1, by omega, by go_num, HS'.out⟩
                case measure => simp [intOf]; omega
              · have HB : Hid (nameOk (spl tx)[q] = false) := by show _ = _; simpa using hb
                have HF : Hid ((spl tx).all nameOk = false) := by show _ = _; rw [List.all_eq_false]; exact ⟨_, List.getElem_mem hlq2, hb⟩
                clear hb
                go_wp2_with (go_at_call 55; refine (name_any _ _ hszk).mono ?_; rintro e w' ⟨he, rfl⟩; rw [HB.out] at he; subst he)
                go_ret2
                rw [HE2.out, HF.out]
                exact ⟨none, 0, rfl, World.ownsRow_nil _ _ _ _, HBW.out⟩
            · have hks : q = p + 1 := by omega
              have HF : Hid ((spl tx).all nameOk = true) := by have h := HA.out; rw [hks, ← hsl, List.take_length] at h; exact h
              clear hks
              go_wp2
              go_ret2
              rw [HE2.out, HF.out]
              refine ⟨A', c', ?_, ?_, HBW.out⟩
              · simp [hsl]
              · show wr.ownsRow _ _ _ (.slice A' (spl tx).length c') (spl tx).length _
                rw [hsl]
                exact HRO.out
end Go.Proofs.YtlmdbcmaophhnaaDoor
