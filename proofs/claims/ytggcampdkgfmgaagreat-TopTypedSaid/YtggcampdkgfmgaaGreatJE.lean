import Derived.Test.YtggcampdkgfmgaaGreatJB
import Derived.Lib.SliceRun
import Derived.BigQuiet
import Derived.Deep.QuietTactic
import Derived.Laws.Bits64b
import Derived.Laws.Externs
import Derived.Lib.SlBuf
import Derived.Lib.MakeNoZero
import Derived.BigGuard
namespace Go.Proofs.YtggcampdkgfmgaaGreat.L11
open Go.RowKit

/-! How a byte is shown: the program's and the document's. -/
theorem hat_off (c : UInt8) : hatB false c = false := rfl
theorem hat_ctl {e : Bool} {c : UInt8} (h : ctlB c = false) : hatB e c = false := by
  simp only [ctlB, Bool.or_eq_false_iff, decide_eq_false_iff_not] at h
  simp [hatB, h.1, h.2]
theorem hat_on {c : UInt8} (h : ctlB c = true) (h9 : c.toNat ≠ 9) (h10 : c.toNat ≠ 10) (e : Bool) : hatB e c = e := by
  simp only [ctlB, Bool.or_eq_true, decide_eq_true_eq] at h
  cases e
  · rfl
  · simp [hatB, h9, h10]
    omega
set_option maxRecDepth 100000 in
theorem ctl_b (w : World) (c : UInt8) {b : Bool} (h : ctlB c = b) : Calls Tryz.prog 179 #[.int .u8 (c.toNat : Int)] w fun e w' => e = .returned (.bool b) ∧ w' = w := by
  subst h
  unfold ctlB
  by_cases h1 : c.toNat < 32
  · have k1 : (c.toNat : Int) < (32 : Int) := by omega
    simp only [h1, decide_true, Bool.true_or]
    go_enter Tryz.func179, Tryz.ntmps179
    go_wp2
    go_ret
    exact ⟨rfl, rfl⟩
  · have k1 : ¬ (c.toNat : Int) < (32 : Int) := by omega
    by_cases h2 : c.toNat = 127
    · have k2 : (c.toNat : Int) = 127 := by omega
      simp only [h2, decide_true, Bool.or_true]
      go_enter Tryz.func179, Tryz.ntmps179
      go_wp2
      go_ret
      exact ⟨rfl, rfl⟩
    · have k2 : (((c.toNat : Int)) == 127) = false := beq_eq_false_iff_ne.2 (by omega)
      simp only [h1, h2, decide_false, Bool.or_false]
      go_enter Tryz.func179, Tryz.ntmps179
      go_wp2
      go_ret
      exact ⟨rfl, rfl⟩
set_option maxRecDepth 100000 in
theorem goesOn_b (w : World) (c : UInt8) {b : Bool} (h : contB c = b) : Calls Tryz.prog 207 #[.int .u8 (c.toNat : Int)] w fun e w' => e = .returned (.bool b) ∧ w' = w := by
  subst h
  unfold contB
  by_cases h1 : 128 ≤ c.toNat
  · have k1 : (128 : Int) ≤ (c.toNat : Int) := by omega
    by_cases h2 : c.toNat ≤ 191
    · have k2 : (c.toNat : Int) ≤ (191 : Int) := by omega
      simp only [h1, h2, decide_true, Bool.and_self]
      go_enter Tryz.func207, Tryz.ntmps207
      go_wp2
      go_ret
      exact ⟨rfl, rfl⟩
    · have k2 : ¬ (c.toNat : Int) ≤ (191 : Int) := by omega
      simp only [h1, h2, decide_true, decide_false, Bool.and_false]
      go_enter Tryz.func207, Tryz.ntmps207
      go_wp2
      go_ret
      exact ⟨rfl, rfl⟩
  · have k1 : ¬ (128 : Int) ≤ (c.toNat : Int) := by omega
    simp only [h1, decide_false, Bool.false_and]
    go_enter Tryz.func207, Tryz.ntmps207
    go_wp2
    go_ret
    exact ⟨rfl, rfl⟩
set_option maxRecDepth 100000 in
set_option maxHeartbeats 2000000 in
theorem hasSign_b (w : World) {t : Tm} (ht : t.Ok) (c : UInt8) {s b : Bool} (hs60 : hasN t.f 60 = s) (hb : hatB s c = b) : Calls Tryz.prog 157 #[.agg t.cs, .int .u8 (c.toNat : Int)] w fun e w' => e = .returned (.bool b) ∧ Hid (Below w.heap.size w w') := by
  have hs := cs_size ht.len
  have K0 : Hid (Below w.heap.size w (w.alloc (.cells t.cs 26))) := hid ((Below.refl _ w).alloc (Nat.le_refl _) _)
  subst hb
  cases hc : ctlB c
  · rw [hat_ctl hc]
    go_enter Tryz.func157, Tryz.ntmps157
    go_wp2_with (first
      | (refine bx26 (by rfl) _ (by rfl) _ (by rfl) hs ?_
         intro G0)
      | (go_at_call 179
         (with_reducible refine (ctl_b _ c hc).mono ?_)
         rintro e u1 ⟨rfl, rfl⟩))
    go_ret
    exact ⟨rfl, K0⟩
  · by_cases h9 : c.toNat = 9
    · have e9 : (c.toNat : Int) = 9 := by omega
      have hq : hatB s c = false := by simp [hatB, h9]
      rw [hq]
      have hcc := hid hc
      clear hc
      have cb := fun w => ctl_b w c hcc.out
      rw [e9] at cb ⊢
      go_enter Tryz.func157, Tryz.ntmps157
      go_wp2_with (first
        | (refine bx26 (by rfl) _ (by rfl) _ (by rfl) hs ?_
           intro G0)
        | (go_at_call 179
           (with_reducible refine (cb _).mono ?_)
           rintro e u1 ⟨rfl, rfl⟩))
      go_ret
      exact ⟨rfl, K0⟩
    · by_cases h10 : c.toNat = 10
      · have e10 : (c.toNat : Int) = 10 := by omega
        have hq : hatB s c = false := by simp [hatB, h10]
        rw [hq]
        have hcc := hid hc
        clear hc
        have cb := fun w => ctl_b w c hcc.out
        rw [e10] at cb ⊢
        go_enter Tryz.func157, Tryz.ntmps157
        go_wp2_with (first
          | (refine bx26 (by rfl) _ (by rfl) _ (by rfl) hs ?_
             intro G0)
          | (go_at_call 179
             (with_reducible refine (cb _).mono ?_)
             rintro e u1 ⟨rfl, rfl⟩))
        go_ret
        exact ⟨rfl, K0⟩
      · have k9 : (((c.toNat : Int)) != 9) = true := bne_iff_ne.2 (by omega)
        have k10 : (((c.toNat : Int)) != 10) = true := bne_iff_ne.2 (by omega)
        rw [hat_on hc h9 h10]
        go_enter Tryz.func157, Tryz.ntmps157
        go_wp2_with (first
          | (refine bx26 (by rfl) _ (by rfl) _ (by rfl) hs ?_
             intro G0)
          | (refine ld26 (by rfl) _ (by rfl) _ (by rfl) t.cs G0.out hs ?_)
          | (go_at_call 179
             (with_reducible refine (ctl_b _ c hc).mono ?_)
             rintro e u1 ⟨rfl, rfl⟩)
          | (go_at_call 28
             (with_reducible refine (has_b _ ht hs60).mono ?_)
             rintro e u2 ⟨rfl, k⟩
             have K1 := bel_t K0 k.out))
        go_ret
        exact ⟨rfl, K1⟩
end Go.Proofs.YtggcampdkgfmgaaGreat.L11
namespace Go.Proofs.YtggcampdkgfmgaaGreat.L11
open Go.RowKit

set_option maxRecDepth 100000 in
theorem clone_any (w : World) (p : Addr) (n c : Nat) (bs : List UInt8) (hb : Hid (SlB w w.heap.size (some p) c bs)) (hn : bs.length = n) (hm : n ≤ 1000000) :
    Calls Tryz.prog 180 #[.slice (some p) n c] w (Own w bs) := by
  have he : ∀ w, (binOp .eql 27 (.slice (some p) n c) (.slice none 0 0)).run Tryz.prog w = .ok (.bool false) w := fun w => Lib.run_eql_slice_nil w 27 5 (some p) n c 0 0 Tryz.underlying27
  go_enter Tryz.func180, Tryz.ntmps180
  go_wp2_with (first
    | (at_builtin
       (refine app_copyo w (by rfl) (.tmp 5) (.tmp 6) rfl rfl (some p) n c bs rfl hb hn hm ?_)
       intro A2 c2 u2 K2 O2))
  go_ret
  exact ⟨_, _, _, rfl, hid hn, O2, K2⟩
set_option maxRecDepth 100000 in
theorem text_any (w : World) (p : Addr) (n c : Nat) (bs : List UInt8) (hb : Hid (SlB w w.heap.size (some p) c bs)) (hn : bs.length = n) (hm : n ≤ 1000000) :
    Calls Tryz.prog 158 #[.slice (some p) n c] w (Own w bs) := by
  go_enter Tryz.func158, Tryz.ntmps158
  go_wp2_with (first
    | (go_at_call 180
       (with_reducible refine (clone_any _ p n c bs hb hn hm).mono ?_)
       rintro e u1 ⟨A1, n1, c1, rfl, h1, o1, K1⟩))
  go_ret
  exact ⟨_, _, _, rfl, h1, o1, K1⟩
/-- 'text' of a literal. -/
theorem text_lit (w : World) (bs : List UInt8) (n : Nat) (cs : Array Value) (hc : (bv bs).toArray = cs) (hn : bs.length = n) (hm : n ≤ 1000000) (g : Nat) (hg : g = w.heap.size) :
    Calls Tryz.prog 158 #[.slice (some ⟨g, 0, none⟩) n n] (w.alloc (.cells cs 5)) (Own w bs) := by
  subst hg
  refine (text_any _ _ n n bs (hid (slb_lit w bs n cs hc hn (by unfold maxLen; omega))) hn hm).mono ?_
  rintro e w' ⟨A, m, c, rfl, h1, ho, hb⟩
  exact ⟨A, m, c, rfl, h1, hid (own_mono ho.out (by simp)), hid (((Below.refl _ w).alloc (Nat.le_refl _) _).trans (hb.out.mono (by simp)))⟩
theorem xor_all : ∀ n : Nat, n < 256 → bits .xor .u8 (n : Int) 64 = (((UInt8.ofNat n) ^^^ 64).toNat : Int) := by decide +kernel
theorem xor_v (c : UInt8) : bits .xor .u8 (c.toNat : Int) 64 = ((c ^^^ 64).toNat : Int) := by
  have := xor_all c.toNat c.toNat_lt
  rwa [UInt8.ofNat_toNat] at this
set_option maxRecDepth 100000 in
set_option maxHeartbeats 2000000 in
theorem show_any (w : World) {t : Tm} (ht : t.Ok) (c : UInt8) {s : Bool} (hs60 : Hid (hasN t.f 60 = s)) : Calls Tryz.prog 126 #[.agg t.cs, .int .u8 (c.toNat : Int)] w (Own w (showB s c)) := by
  have hs := cs_size ht.len
  have K0 : Hid (Below w.heap.size w (w.alloc (.cells t.cs 26))) := hid ((Below.refl _ w).alloc (Nat.le_refl _) _)
  have hx := xor_v c
  unfold showB
  cases hb : hatB s c
  · have HB := hid hb
    clear hb
    simp only [Bool.false_eq_true, if_false]
    go_enter Tryz.func126, Tryz.ntmps126
    go_wp2_with (first
      | (refine bx26 (by rfl) _ (by rfl) _ (by rfl) hs ?_
         intro G0)
      | (refine ld26 (by rfl) _ (by rfl) _ (by rfl) t.cs G0.out hs ?_)
      | (go_at_call 157
         (with_reducible refine (hasSign_b _ ht c hs60.out HB.out).mono ?_)
         rintro e u1 ⟨rfl, k1⟩
         have K1 := bel_t K0 k1.out)
      | (go_at_call 158
         (with_reducible refine (own_bel K1 (text_lit u1 [c] 1 #[.int .u8 (c.toNat : Int)] rfl rfl (by decide) _ rfl)).mono ?_)
         rintro e u2 ⟨A2, n2, c2, rfl, h2, o2, K2⟩))
    go_ret
    exact ⟨_, _, _, rfl, h2, o2, K2⟩
  · have HB := hid hb
    clear hb
    simp only [if_true]
    go_enter Tryz.func126, Tryz.ntmps126
    go_wp2_with (first
      | (refine bx26 (by rfl) _ (by rfl) _ (by rfl) hs ?_
         intro G0)
      | (refine ld26 (by rfl) _ (by rfl) _ (by rfl) t.cs G0.out hs ?_)
      | (go_at_call 157
         (with_reducible refine (hasSign_b _ ht c hs60.out HB.out).mono ?_)
         rintro e u1 ⟨rfl, k1⟩
         have K1 := bel_t K0 k1.out)
      | (go_at_call 158
         (with_reducible refine (own_bel K1 (text_lit u1 [94, c ^^^ 64] 2 #[.int .u8 94, .int .u8 ((c.toNat ^^^ 64 : Nat) : Int)] (by simp [bv]) rfl (by decide) _ rfl)).mono ?_)
         rintro e u2 ⟨A2, n2, c2, rfl, h2, o2, K2⟩))
    go_ret
    exact ⟨_, _, _, rfl, h2, o2, K2⟩
/-! The document's. -/
theorem hat_cases {c : UInt8} {s : Bool} (h : hatB s c = true) : s = true ∧ (c.toNat < 32 ∨ c.toNat = 127) := by
  simp only [hatB, Bool.and_eq_true, Bool.or_eq_true, decide_eq_true_eq] at h
  exact ⟨h.1, by omega⟩
end Go.Proofs.YtggcampdkgfmgaaGreat.L11
namespace Go.Proofs.YtggcampdkgfmgaaGreat.L11
open Go.RowKit

theorem lineB_at {e : Bool} {l : List UInt8} {k : Nat} {y : UInt8} (h : l[k]? = some y) : lineB e (l.take (k + 1)) = lineB e (l.take k) ++ showB e y := by
  obtain ⟨hk, rfl⟩ := List.getElem?_eq_some_iff.1 h
  exact lineB_take e l k hk
set_option maxRecDepth 100000 in
set_option maxHeartbeats 2000000 in
theorem line_any (w : World) {t : Tm} (ht : t.Ok) (A : Option Addr) (n c : Nat) (bs : List UInt8) {s : Bool} (hs60 : Hid (hasN t.f 60 = s)) (hb : Hid (SlB w w.heap.size A c bs)) (hn : bs.length = n) (hm : n ≤ 400000) :
    Calls Tryz.prog 185 #[.agg t.cs, .slice A n c] w (Own w (lineB s bs)) := by
  have hs := cs_size ht.len
  have K0 := old26 w t
  have HN := hid hn
  go_enter Tryz.func185, Tryz.ntmps185
  go_wp2_with (first
    | (refine bx26 (by rfl) _ (by rfl) _ (by rfl) hs ?_
       intro G0))
  go_loopw [10, 5] (fun i sh wr => ∃ (k m : Nat) (A2 : Option Addr) (c2 : Nat), k ≤ n ∧ m ≤ 2 * k ∧ i = .int .i64 k ∧ sh = .slice A2 m c2 ∧ Hid ((lineB s (bs.take k)).length = m) ∧ Hid (wr.ownsRow w.heap.size 5 1 (.slice A2 m c2) m (bv (lineB s (bs.take k)))) ∧ Hid (Below w.heap.size w wr) ∧ Hid (Box wr w.heap.size 26 t.cs)) (fun i _ _ => n - (intOf i).toNat)
  case atStart => exact ⟨0, 0, none, 0, Nat.zero_le _, Nat.zero_le _, rfl, rfl, hid rfl, hid (World.ownsRow_nil _ _ _ _), K0, G0⟩
  case round =>
    obtain ⟨k, m, A2, c2, hk, hm2, rfl, rfl, HM, HO, HB, HG⟩ := hrel
    by_cases hlt : k < n
    · have L1 := slb_at hb HB
      obtain ⟨b, o, y, rfl, hy, cy⟩ := slb_cell L1.out hn hlt
      have HL := hid (lineB_at (e := s) hy)
      have hl2 := (showB_len s y).2
      have HL2 := hid hl2
      clear hl2 hy
      obtain ⟨xs, hxs⟩ : ∃ xs, lineB s (bs.take k) = xs := ⟨_, rfl⟩
      rw [hxs] at HM HO HL
      clear hxs
      go_wp2_with (first
        | (refine ld26 (by rfl) _ (by rfl) _ (by rfl) t.cs HG.out hs ?_)
        | (go_at_call 126
           (with_reducible refine (show_any _ ht y hs60).mono ?_)
           rintro e u1 ⟨A1, n1, c1, rfl, h1, o1, k1⟩
           have hn1 : n1 ≤ 2 := by have := h1.out; have := HL2.out; omega
           have B1 := bel_t HB k1.out
           have G1 := hid (box_below HG.out k1.out)
           have O1 := hid (own_keep HO.out k1.out)
           have S1 := slb_own h1 o1
           have hz1 := B1.out.size
           clear k1)
        | (at_builtin
           (refine app_own u1 (by rfl) (.tmp 14) (.tmp 17) rfl w.heap.size m c2 A2 xs rfl O1 hz1 A1 n1 c1 (showB s y) rfl S1 h1.out (by omega) ?_)
           intro A3 c3 u3 O3 k3
           have B3 := bel_k B1 k3
           have G3 := box_k G1 k3))
      go_roundw
      case rel =>
        refine ⟨k + 1, m + n1, A3, c3, by omega, by omega, by go_num, rfl, ?_, ?_, B3, G3⟩
        · exact hid (by rw [HL.out, List.length_append, HM.out, h1.out])
        · rw [HL.out]; exact O3
      case measure => simp [intOf] <;> omega
    · have hkn : k = n := by omega
      have e : bs.take k = bs := List.take_of_length_le (by have := HN.out; omega)
      rw [e] at HM HO
      go_wp2
      go_ret
      exact ⟨_, _, _, rfl, HM, HO, HB⟩
end Go.Proofs.YtggcampdkgfmgaaGreat.L11
namespace Go.Proofs.YtggcampdkgfmgaaGreat.L11
open Go.RowKit

/-! The column behind a byte, and behind a line. -/
section
variable {e u : Bool} {N : Nat} {c : UInt8}
theorem stepN_9 (h : c.toNat = 9) : stepN e u N c = (N / 8 + 1) * 8 := by simp [stepN, h]
theorem stepN_hat (h9 : c.toNat ≠ 9) (h : hatB e c = true) : stepN e u N c = N + 2 := by simp [stepN, h9, h]
theorem stepN_ctl (h9 : c.toNat ≠ 9) (h : hatB e c = false) (hc : ctlB c = true) : stepN e u N c = N := by
  simp only [ctlB, Bool.or_eq_true, decide_eq_true_eq] at hc
  simp [stepN, h9, h, hc]
theorem ctl_no (hc : ctlB c = false) : ¬ (c.toNat < 32 ∨ c.toNat = 127) := by
  simp only [ctlB, Bool.or_eq_false_iff, decide_eq_false_iff_not] at hc
  omega
theorem stepN_cont (hc : ctlB c = false) (hk : contB c = true) : stepN e true N c = N := by
  have h := ctl_no hc
  simp only [contB, Bool.and_eq_true, decide_eq_true_eq] at hk
  have h9 : c.toNat ≠ 9 := by omega
  rw [stepN, if_neg h9, if_neg (by rw [hat_ctl hc]; decide), if_neg h, if_pos ⟨rfl, hk⟩]
theorem stepN_one (hc : ctlB c = false) (hk : (u && contB c) = false) : stepN e u N c = N + 1 := by
  have h := ctl_no hc
  have h9 : c.toNat ≠ 9 := by omega
  rw [stepN, if_neg h9, if_neg (by rw [hat_ctl hc]; decide), if_neg h, if_neg]
  rintro ⟨rfl, h1, h2⟩
  simp [contB, h1, h2] at hk
end
set_option maxRecDepth 100000 in
theorem inside_any (w : World) (col : Int) : Calls Tryz.prog 202 #[.int .i64 col] w fun e w' => e = .returned (.int .i64 (nrm col : Int)) ∧ w' = w := by
  by_cases h1 : col < 0
  · have hq : ((nrm col : Nat) : Int) = 0 := by unfold nrm; rw [if_pos (Or.inl h1)]; rfl
    rw [hq]
    go_enter Tryz.func202, Tryz.ntmps202
    go_wp2
    go_ret
    exact ⟨rfl, rfl⟩
  · by_cases h2 : 65535 < col
    · have hq : ((nrm col : Nat) : Int) = 0 := by unfold nrm; rw [if_pos (Or.inr h2)]; rfl
      rw [hq]
      go_enter Tryz.func202, Tryz.ntmps202
      go_wp2
      go_ret
      exact ⟨rfl, rfl⟩
    · have hq : ((nrm col : Nat) : Int) = col := by unfold nrm; rw [if_neg (by omega)]; omega
      rw [hq]
      go_enter Tryz.func202, Tryz.ntmps202
      go_wp2
      go_ret
      exact ⟨rfl, rfl⟩
set_option maxRecDepth 100000 in
set_option maxHeartbeats 4000000 in
theorem behind_any (w : World) {t : Tm} (ht : t.Ok) (N : Nat) (hN : N ≤ 1000000000) (c : UInt8) {s v : Bool} (hs60 : hasN t.f 60 = s) (hs42 : hasN t.f 42 = v) :
    Calls Tryz.prog 203 #[.agg t.cs, .int .i64 (N : Int), .int .u8 (c.toNat : Int)] w fun e w' => e = .returned (.int .i64 ((stepN s v N c : Nat) : Int)) ∧ Hid (Below w.heap.size w w') := by
  have hs := cs_size ht.len
  have K0 := old26 w t
  by_cases h9 : c.toNat = 9
  · have e9 : (c.toNat : Int) = 9 := by omega
    rw [stepN_9 h9, e9]
    go_enter Tryz.func203, Tryz.ntmps203
    go_wp2_with (first
      | (refine bx26 (by rfl) _ (by rfl) _ (by rfl) hs ?_
         intro G0))
    go_ret
    exact ⟨ret_i64 (by omega), K0⟩
  · have k9 : (((c.toNat : Int)) == 9) = false := beq_eq_false_iff_ne.2 (by omega)
    cases hh : hatB s c
    · cases hc : ctlB c
      · cases hk : contB c
        · have hq := hid (stepN_one (e := s) (u := v) (N := N) hc (by rw [hk]; exact Bool.and_false v))
          have HC := hid hc
          have HH := hid hh
          have HK := hid hk
          clear hc hh hk
          rw [hq.out]
          go_enter Tryz.func203, Tryz.ntmps203
          go_wp2_with (first
            | (refine bx26 (by rfl) _ (by rfl) _ (by rfl) hs ?_
               intro G0)
            | (refine ld26 (by rfl) _ (by rfl) _ (by rfl) t.cs G0.out hs ?_)
            | (go_at_call 157
               (with_reducible refine (hasSign_b _ ht c hs60 HH.out).mono ?_)
               rintro e u1 ⟨rfl, k1⟩
               have K1 := bel_t K0 k1.out)
            | (go_at_call 179
               (with_reducible refine (ctl_b _ c HC.out).mono ?_)
               rintro e u2 ⟨rfl, rfl⟩)
            | (go_at_call 207
               (with_reducible refine (goesOn_b _ c HK.out).mono ?_)
               rintro e u3 ⟨rfl, rfl⟩))
          go_ret
          exact ⟨ret_i64 (by omega), K1⟩
        · have HC := hid hc
          have HH := hid hh
          have HK := hid hk
          have hq : ((stepN s v N c : Nat) : Int) = (if v = true then (N : Int) else (N : Int) + 1) := by
            cases v
            · rw [stepN_one hc (Bool.false_and _)]; rfl
            · rw [stepN_cont hc hk]; rfl
          rw [hq]
          clear hc hh hk
          cases hv : v
          all_goals
            subst hv
            simp only [Bool.false_eq_true, if_false, if_true]
            go_enter Tryz.func203, Tryz.ntmps203
            go_wp2_with (first
              | (refine bx26 (by rfl) _ (by rfl) _ (by rfl) hs ?_
                 intro G0)
              | (refine ld26 (by rfl) _ (by rfl) _ (by rfl) t.cs G0.out hs ?_)
              | (refine ld26 (by rfl) _ (by rfl) _ (by rfl) t.cs G1.out hs ?_)
              | (go_at_call 157
                 (with_reducible refine (hasSign_b _ ht c hs60 HH.out).mono ?_)
                 rintro e u1 ⟨rfl, k1⟩
                 have K1 := bel_t K0 k1.out
                 have G1 := hid (box_below G0.out k1.out)
                 clear G0)
              | (go_at_call 179
                 (with_reducible refine (ctl_b _ c HC.out).mono ?_)
                 rintro e u2 ⟨rfl, hu2⟩
                 rw [hu2]
                 clear hu2)
              | (go_at_call 207
                 (with_reducible refine (goesOn_b _ c HK.out).mono ?_)
                 rintro e u3 ⟨rfl, hu3⟩
                 rw [hu3]
                 clear hu3)
              | (go_at_call 28
                 (with_reducible refine (has_b _ ht hs42).mono ?_)
                 rintro e u4 ⟨rfl, k4⟩
                 have K4 := bel_t K1 k4.out))
            go_ret
            exact ⟨rfl, K4⟩
      · have hq := hid (stepN_ctl (e := s) (u := v) (N := N) h9 hh hc)
        have HC := hid hc
        have HH := hid hh
        clear hc hh
        rw [hq.out]
        go_enter Tryz.func203, Tryz.ntmps203
        go_wp2_with (first
          | (refine bx26 (by rfl) _ (by rfl) _ (by rfl) hs ?_
             intro G0)
          | (refine ld26 (by rfl) _ (by rfl) _ (by rfl) t.cs G0.out hs ?_)
          | (go_at_call 157
             (with_reducible refine (hasSign_b _ ht c hs60 HH.out).mono ?_)
             rintro e u1 ⟨rfl, k1⟩
             have K1 := bel_t K0 k1.out)
          | (go_at_call 179
             (with_reducible refine (ctl_b _ c HC.out).mono ?_)
             rintro e u2 ⟨rfl, rfl⟩))
        go_ret
        exact ⟨rfl, K1⟩
    · have hq := hid (stepN_hat (e := s) (u := v) (N := N) h9 hh)
      have HH := hid hh
      clear hh
      rw [hq.out]
      go_enter Tryz.func203, Tryz.ntmps203
      go_wp2_with (first
        | (refine bx26 (by rfl) _ (by rfl) _ (by rfl) hs ?_
           intro G0)
        | (refine ld26 (by rfl) _ (by rfl) _ (by rfl) t.cs G0.out hs ?_)
        | (go_at_call 157
           (with_reducible refine (hasSign_b _ ht c hs60 HH.out).mono ?_)
           rintro e u1 ⟨rfl, k1⟩
           have K1 := bel_t K0 k1.out))
      go_ret
      exact ⟨ret_i64 (by omega), K1⟩
end Go.Proofs.YtggcampdkgfmgaaGreat.L11
namespace Go.Proofs.YtggcampdkgfmgaaGreat.L11
open Go.RowKit

section
variable {dst : Option Tmp} {x y : Operand} {ty r : TypeId} {pos : String} {after : Array Edge} {gd : Option (Nat × Bool)} {a : Act}
end
theorem q27 {u0 : World} {z : Gr u0} {col : Int} : Calls Tryz.prog 202 #[.int .i64 col] (grw z) fun e w'' => e = .returned (.int .i64 (nrm col : Int)) ∧ ∃ z' : Gr u0, w'' = grw z' := gr_call0 (inside_any _ col)
theorem q26 {u0 : World} {z : Gr u0} {t : Tm} (ht : t.Ok) {N : Nat} (hN : N ≤ 1000000000) {c : UInt8} {s v : Bool} (hs60 : Hid (hasN t.f 60 = s)) (hs42 : Hid (hasN t.f 42 = v)) {M : Nat} (hM : Hid (stepN s v N c = M)) :
    Calls Tryz.prog 203 #[.agg t.cs, .int .i64 (N : Int), .int .u8 (c.toNat : Int)] (grw z) fun e w'' => e = .returned (.int .i64 (M : Int)) ∧ ∃ z' : Gr u0, w'' = grw z' := by
  rw [← hM.out]
  exact gr_call (behind_any _ ht N hN c hs60.out hs42.out)
attribute [local go_sem ↓] wq_ld26
attribute [local go_sem] isP_v blkV_v aggV_v
end Go.Proofs.YtggcampdkgfmgaaGreat.L11
namespace Go.Proofs.YtggcampdkgfmgaaGreat.L11
open Go.RowKit

attribute [local go_sem ↓] wq_ld26
attribute [local go_sem] isP_v blkV_v aggV_v
end Go.Proofs.YtggcampdkgfmgaaGreat.L11
namespace Go.Proofs.YtggcampdkgfmgaaGreat.L11
open Go.RowKit

/-! The column behind a line: the program's and the document's. -/
theorem colsN_at {e u : Bool} {col : Nat} {l : List UInt8} {k : Nat} {y : UInt8} (h : l[k]? = some y) : colsN e u col (l.take (k + 1)) = stepN e u (colsN e u col (l.take k)) y := by
  obtain ⟨hk, rfl⟩ := List.getElem?_eq_some_iff.1 h
  exact colsN_take e u col l k hk
theorem colsN_tk {e u : Bool} {col : Nat} {l : List UInt8} {k : Nat} : colsN e u col (l.take k) ≤ col + 8 * k := by
  have h := (colsN_le e u (l.take k) col).2
  have := List.length_take_le k l
  omega
theorem behind_h (w : World) {t : Tm} (ht : t.Ok) (N : Nat) (hN : N ≤ 1000000000) (c : UInt8) {s v : Bool} (hs60 : Hid (hasN t.f 60 = s)) (hs42 : Hid (hasN t.f 42 = v)) {M : Nat} (hM : Hid (M = stepN s v N c)) :
    Calls Tryz.prog 203 #[.agg t.cs, .int .i64 (N : Int), .int .u8 (c.toNat : Int)] w fun e w' => e = .returned (.int .i64 (M : Int)) ∧ Hid (Below w.heap.size w w') := by
  obtain rfl := hM.out
  exact behind_any w ht N hN c hs60.out hs42.out
set_option maxRecDepth 100000 in
set_option maxHeartbeats 2000000 in
theorem cols_any (w : World) {t : Tm} (ht : t.Ok) (col : Int) (A : Option Addr) (n c : Nat) (bs : List UInt8) {s v : Bool} (hs60 : Hid (hasN t.f 60 = s)) (hs42 : Hid (hasN t.f 42 = v)) (hb : Hid (SlB w w.heap.size A c bs)) (hn : bs.length = n) (hm : n ≤ 1000000) :
    Calls Tryz.prog 196 #[.agg t.cs, .int .i64 col, .slice A n c] w fun e w' => e = .returned (.int .i64 ((colsN s v (nrm col) bs : Nat) : Int)) ∧ Hid (Below w.heap.size w w') := by
  have hs := cs_size ht.len
  have K0 := old26 w t
  have HN := hid hn
  have hN := nrm_le col
  obtain ⟨N, hq⟩ : ∃ N, Hid (nrm col = N) := ⟨_, hid rfl⟩
  have q2 := fun (w : World) => inside_any w col
  rw [hq.out] at hN q2 ⊢
  go_enter Tryz.func196, Tryz.ntmps196
  go_wp2_with (first
    | (refine bx26 (by rfl) _ (by rfl) _ (by rfl) hs ?_
       intro G0)
    | (go_at_call 202
       (with_reducible refine (q2 _).mono ?_)
       rintro e u0 ⟨rfl, rfl⟩))
  go_loopw [1, 13] (fun cl i wr => ∃ (k M : Nat), k ≤ n ∧ M ≤ N + 8 * k ∧ cl = .int .i64 M ∧ i = .int .i64 k ∧ Hid (colsN s v N (bs.take k) = M) ∧ Hid (Below w.heap.size w wr) ∧ Hid (Box wr w.heap.size 26 t.cs)) (fun _ i _ => n - (intOf i).toNat)
  case atStart => exact ⟨0, N, Nat.zero_le _, Nat.le_refl _, rfl, rfl, hid rfl, K0, G0⟩
  case round =>
    obtain ⟨k, M, hk, hM, rfl, rfl, HM, HB, HG⟩ := hrel
    by_cases hlt : k < n
    · have L1 := slb_at hb HB
      obtain ⟨b, o, y, rfl, hy, cy⟩ := slb_cell L1.out hn hlt
      have hst := colsN_at (e := s) (u := v) (col := N) hy
      have hb2 : colsN s v N (bs.take (k + 1)) ≤ N + 8 * (k + 1) := colsN_tk
      rw [HM.out] at hst
      obtain ⟨M2, HM2⟩ : ∃ M2, Hid (colsN s v N (bs.take (k + 1)) = M2) := ⟨_, hid rfl⟩
      rw [HM2.out] at hst hb2
      have HST := hid hst
      have hM1 : M ≤ 1000000000 := by omega
      clear hst hy
      go_wp2_with (first
        | (refine ld26 (by rfl) _ (by rfl) _ (by rfl) t.cs HG.out hs ?_)
        | (go_at_call 203
           (with_reducible refine (behind_h _ ht M hM1 y hs60 hs42 HST).mono ?_)
           rintro e u1 ⟨rfl, k1⟩
           have B1 := bel_t HB k1.out
           have G1 := hid (box_below HG.out k1.out)))
      go_roundw
      case rel => exact ⟨k + 1, M2, by omega, by omega, rfl, by go_num, HM2, B1, G1⟩
      case measure => simp [intOf] <;> omega
    · have e : bs.take k = bs := List.take_of_length_le (by have := HN.out; omega)
      rw [e] at HM
      obtain rfl := HM.out
      go_wp2
      go_ret
      exact ⟨rfl, HB⟩
end Go.Proofs.YtggcampdkgfmgaaGreat.L11
namespace Go.Proofs.YtggcampdkgfmgaaGreat.L11
open Go.RowKit

/-! bytes.Repeat of the three bytes. -/
theorem maskN (a : Nat) (ha : a < 18446744073709551616) : bits .and .u64 (a : Int) 4294967295 = ((a % 4294967296 : Nat) : Int) := by
  have h := bits_and_u64_nat a 4294967295 ha (by omega)
  have e : a &&& 4294967295 = a % 4294967296 := Nat.and_two_pow_sub_one_eq_mod a 32
  rw [e] at h
  exact h
set_option maxRecDepth 100000 in
theorem mul64_any (w : World) (n : Nat) (hn : n ≤ 1000000) :
    Calls Tryz.prog 209 #[.int .u64 3, .int .u64 (n : Int)] w fun e w' => e = .returned (.tuple #[.int .u64 0, .int .u64 (3 * (n : Int))]) ∧ w' = w := by
  have h3 : bits .and .u64 3 4294967295 = 3 := maskN 3 (by omega)
  have hy : bits .and .u64 (n : Int) 4294967295 = (n : Int) := by
    rw [maskN n (by omega), Nat.mod_eq_of_lt (by omega)]
  have hz : bits .and .u64 0 4294967295 = 0 := maskN 0 (by omega)
  have d1 : (n : Int) / 4294967296 = 0 := by omega
  have d2 : 3 * (n : Int) / 4294967296 = 0 := by omega
  go_enter Tryz.func209, Tryz.ntmps209
  go_wp2
  go_ret2
  exact ⟨rfl, rfl⟩
set_option maxRecDepth 100000 in
theorem mul_any (w : World) (n : Nat) (hn : n ≤ 1000000) :
    Calls Tryz.prog 204 #[.int .u64 3, .int .u64 (n : Int)] w fun e w' => e = .returned (.tuple #[.int .u64 0, .int .u64 (3 * (n : Int))]) ∧ w' = w := by
  go_enter Tryz.func204, Tryz.ntmps204
  go_wp2_with (first
    | (go_at_call 209
       (with_reducible refine (mul64_any _ n hn).mono ?_)
       rintro e u1 ⟨rfl, hu⟩
       rw [hu]))
  go_ret2
  exact ⟨rfl, rfl⟩
theorem Tryz.info5s : (Tryz.prog.info? 5).map (·.size) = some 1 := by kernel_rfl
theorem offB_take {j q : Nat} (h : q ≤ j) : (offB j).take (3 * q) = offB q := by
  obtain ⟨r, rfl⟩ : ∃ r, j = q + r := ⟨j - q, by omega⟩
  rw [offB_add, ← offB_len q, List.take_left]
theorem offB_more {j q : Nat} (h : q ≤ j) : offB j ++ (offB j).take (3 * q) = offB (j + q) := by rw [offB_take h, ← offB_add]
theorem buf_drew {w0 wr : World} {h N : Nat} {acc : List UInt8} (b : Lib.Buf w0 wr h N acc) : Lib.Buf w0 wr.drew h N acc := ⟨b.below.drew, b.there, b.free, b.holds, b.fits⟩
/-- 'copy(nb[bp:], nb[:m])': what is filled goes once more behind itself, as far as it fits. -/
theorem copy_self (w0 wr : World) (h N : Nat) (acc : List UInt8) (m k c : Nat) (hb : Lib.Buf w0 wr h N acc) (hm : m ≤ acc.length) (hk : k = Nat.min m (N - acc.length)) (hN : acc.length < N) :
    ∃ wr', (Builtin.copy_ #[27, 27] 3 #[Lib.tailV h N acc.length, .slice (some ⟨h, 0, none⟩) m c]).run Tryz.prog wr = .ok (.int .i64 (k : Int)) wr' ∧ Lib.Buf w0 wr' h N (acc ++ acc.take k) := by
  have hne : ¬ N = acc.length := by omega
  have hkm : k ≤ m := by rw [hk]; exact Nat.min_le_left _ _
  have hkN : k ≤ N - acc.length := by rw [hk]; exact Nat.min_le_right _ _
  obtain ⟨l, hl⟩ : ∃ l, acc.take k = l := ⟨_, rfl⟩
  have hll : l.length = k := by rw [← hl, List.length_take]; omega
  have hat : ∀ (j : Nat) x, l[j]? = some x → acc[j]? = some x := fun j x hj => by
    rw [← hl, List.getElem?_take] at hj
    split at hj
    · exact hj
    · cases hj
  have hr := run_copy_cells (P := Tryz.prog) wr 27 27 3 5 h acc.length (N - acc.length) (N - acc.length) ⟨h, 0, none⟩ m c (l.map fun x => Value.int .u8 (x.toNat : Int)) Tryz.underlying27 Tryz.info5s (by rw [List.length_map, hll]; exact hk)
    (fun j u hj => by
      rw [List.getElem?_map] at hj
      obtain ⟨x, hx, rfl⟩ := Option.map_eq_some_iff.1 hj
      have := hb.holds j x (hat j x hx)
      rw [Addr.add_lit, Nat.zero_add]
      exact this)
    (fun j hj => by rw [List.length_map] at hj; exact hb.there _ (by omega)) (fun j hj => by rw [List.length_map] at hj; exact hb.free _ (by omega))
    (fun u hu' => by obtain ⟨x, _, rfl⟩ := List.mem_map.1 hu'; rfl)
  rw [List.length_map, hll] at hr
  rw [hl]
  refine ⟨_, by unfold Lib.tailV; rw [if_neg hne]; exact hr, ?_⟩
  have hin := World.cell?_setCells_in h (l.map fun x => Value.int .u8 (x.toNat : Int)) acc.length wr (fun j hj => by rw [List.length_map] at hj; exact hb.there _ (by omega))
  have hout := World.cell?_setCells_out h (l.map fun x => Value.int .u8 (x.toNat : Int)) acc.length wr
  refine ⟨?_, ?_, ?_, ?_, by rw [List.length_append]; omega⟩
  · exact Lib.below_setCells h (Nat.le_refl _) _ _ hb.below
  · intro j hj
    by_cases h1 : acc.length ≤ j ∧ j < acc.length + l.length
    · obtain ⟨d, rfl⟩ : ∃ d, j = acc.length + d := ⟨j - acc.length, by omega⟩
      rw [hin d (by rw [List.length_map]; omega)]
      rfl
    · rw [hout ⟨h, j, none⟩ (fun _ _ => by rw [List.length_map]; show j < _ ∨ _ ≤ j; omega)]
      exact hb.there j hj
  · intro j hj
    rw [World.frozen?_setCells]
    exact hb.free j hj
  · intro j x hx
    by_cases h1 : j < acc.length
    · rw [List.getElem?_append_left h1] at hx
      rw [hout ⟨h, j, none⟩ (fun _ _ => Or.inl h1)]
      exact hb.holds j x hx
    · rw [List.getElem?_append_right (by omega)] at hx
      obtain ⟨d, rfl⟩ : ∃ d, j = acc.length + d := ⟨j - acc.length, by omega⟩
      rw [Nat.add_sub_cancel_left] at hx
      have hd : d < l.length := (List.getElem?_eq_some_iff.1 hx).1
      rw [hin d (by rw [List.length_map]; exact hd)]
      simp [List.getElem_map, (List.getElem?_eq_some_iff.1 hx).2]
/-- A buffer filled to the brim reads as its bytes. -/
theorem buf_slb {w0 wr : World} {h N : Nat} {acc : List UInt8} (hb : Lib.Buf w0 wr h N acc) (hN : acc.length = N) (hm : N ≤ maxLen) : SlB wr wr.heap.size (some ⟨h, 0, none⟩) N acc := by
  refine ⟨by omega, hm, (fun e => by cases e), fun hne => ?_⟩
  have hpos : 0 < N := by
    rw [← hN]
    refine List.length_pos_iff.2 ?_
    rintro rfl
    exact hne rfl
  have hlt : h < wr.heap.size := by
    obtain ⟨v, hv⟩ := Option.isSome_iff_exists.1 (hb.there 0 hpos)
    exact World.block_lt_of_cell? wr _ hv
  refine ⟨h, 0, rfl, hlt, fun j u hj => ?_⟩
  simp only [bv, List.getElem?_map] at hj
  obtain ⟨x, hx, rfl⟩ := Option.map_eq_some_iff.1 hj
  rw [Nat.zero_add]
  exact hb.holds j x hx
theorem slb_holds {w : World} {B : Nat} {p : Addr} {c : Nat} {bs : List UInt8} (h : SlB w B (some p) c bs) : Lib.HoldsBytes w (.slice (some p) bs.length c) bs := by
  refine ⟨some p, c, rfl, (fun e => by cases e), fun a ha i x hx => ?_⟩
  cases ha
  have hne : bv bs ≠ [] := by
    intro e
    have : bs = [] := by simpa [bv] using e
    rw [this] at hx
    simp at hx
  obtain ⟨b, o, he, _, hc⟩ := h.2.2.2 hne
  cases he
  rw [Addr.add_lit]
  exact hc i _ (by simp [bv, hx])
section
variable {P : Program}
theorem step_copy_run {ops : Array Oper} {o : Oper} {a : Act} {w : World} {K : Act → World → Prop} {Q : Exit → Act → World → Prop} {E : Prop} (hgd : o.guard = none) (d s : Operand) (t t' : TypeId)
    (ho : o.op = .call { callee := .builtin .copy, args := #[d, s], argTypes := #[t, t'] }) (v u : Value) (hd : a.eval d = v) (hs : a.eval s = u) {v' : Value} {w' : World}
    (hr : (Builtin.copy_ #[t, t'] o.type #[v, u]).run P w = .ok v' w') (h : K (a.put o.dst v') w') : if Region.wanted o (yielded ops a.tmps) = true then Oper.wp P o a w K Q else E := by
  have hw : Region.wanted o (yielded ops a.tmps) = true := by simp [Region.wanted, hgd]
  rw [if_pos hw]
  exact Lib.wp_copy_run w d s t t' ho v u hd hs hr h
end
end Go.Proofs.YtggcampdkgfmgaaGreat.L11
namespace Go.Proofs.YtggcampdkgfmgaaGreat.L11
open Go.RowKit

set_option maxRecDepth 100000 in
set_option maxHeartbeats 4000000 in
theorem repeat_any (w : World) (p : Addr) (c n : Nat) (hb : Hid (SlB w w.heap.size (some p) c [8, 32, 8])) (hn : n ≤ 300000) :
    Calls Tryz.prog 197 #[.slice (some p) 3 c, .int .i64 (n : Int)] w (Full w (offB n)) := by
  by_cases h0 : n = 0
  · subst h0
    go_enter Tryz.func197, Tryz.ntmps197
    go_wp2
    go_ret
    exact ⟨_, 0, rfl, hid rfl, hid (slb_lit w [] 0 #[] rfl rfl (by decide)), hid ((Below.refl _ w).alloc (Nat.le_refl _) _)⟩
  · obtain ⟨T, hT⟩ : ∃ T, 3 * n = T := ⟨_, rfl⟩
    have hTi : 3 * (n : Int) = (T : Int) := by omega
    have hmul := fun w => mul_any w n (by omega)
    rw [hTi] at hmul
    obtain ⟨D, hD1, hDn, hD⟩ : ∃ D, 1 ≤ D ∧ D ≤ n ∧ (¬ 8192 < T ∧ n = D ∨ 8192 < T ∧ D = 2730) := by
      by_cases h8 : 8192 < T
      · exact ⟨2730, by omega, by omega, Or.inr ⟨h8, rfl⟩⟩
      · exact ⟨n, by omega, by omega, Or.inl ⟨h8, rfl⟩⟩
    obtain ⟨cm, hcm⟩ : ∃ cm, 3 * D = cm := ⟨_, rfl⟩
    obtain ⟨cs, hrunM, hle, _⟩ := Lib.run_makeNoZero (P := Tryz.prog) w #[3] 27 5 Tryz.underlying27 T (by omega)
    have hcall : (callFunc 205 #[.int .i64 (T : Int)]).run Tryz.prog w = .ok (.value (.slice (some ⟨w.heap.size, 0, none⟩) T cs.size)) ((w.alloc (.cells cs 5)).drewN 2) := by
      rw [run_callFunc_extern Tryz.func205 (by kernel_rfl) (by kernel_rfl) (by kernel_rfl) (e := Extern.BytealgMakeNoZero.makeNoZero #[3] #[27]) (by kernel_rfl), hrunM]
      rfl
    clear hrunM
    have B0 := Lib.Buf.start w cs 5 T 2 hle
    obtain ⟨w1, hr1, B1⟩ := Lib.copy_part (P := Tryz.prog) w _ w.heap.size T [] [8, 32, 8] (.slice (some p) 3 c) 27 3 5 Tryz.underlying27 Tryz.info5s (Nat.le_refl _) B0 (slb_holds hb.out) (by show 0 + 3 ≤ T; omega)
    rw [List.length_nil, Lib.tailV_zero] at hr1
    have HB1 : Hid (Lib.Buf w w1 w.heap.size T (offB 1)) := hid B1
    clear B1 B0
    have t0 : (0 : Int) ≤ (T : Int) := by omega
    have t1 : (T : Int) ≤ (cs.size : Int) := by omega
    have t2 : ¬ ((9223372036854775807 : Int) < (T : Int)) := by omega
    have n0 : ((n : Int) == 0) = false := beq_eq_false_iff_ne.2 (by omega)
    have n1 : ¬ ((n : Int) < 0) := by omega
    rcases hD with ⟨h8, hDe⟩ | ⟨h8, hDe⟩
    · have k8 : ¬ ((8192 : Int) < (T : Int)) := by omega
      obtain rfl : T = cm := by omega
      subst hDe
      go_enter Tryz.func197, Tryz.ntmps197
      go_wp2_with (first
        | (go_at_call 204
           (with_reducible refine (hmul _).mono ?_)
           rintro e u1 ⟨rfl, hu⟩
           rw [hu]))
      clear hu u1 hmul hcall hr1
      go_loopw [10] (fun s10 wr => ∃ j bp : Nat, 1 ≤ j ∧ j ≤ n ∧ 3 * j ≤ bp ∧ bp ≤ 3 * j ∧ s10 = .int .i64 (bp : Int) ∧ Hid (Lib.Buf w wr w.heap.size T (offB j))) (fun s10 _ => T - (intOf s10).toNat)
      case atStart => exact ⟨1, 3, Nat.le_refl _, by omega, by omega, by omega, rfl, HB1⟩
      case round =>
        obtain ⟨j, bp, hj1, hjn, hbp1, hbp2, rfl, HB⟩ := hrel
        by_cases hlt : j < n
        · obtain ⟨m, mj, hm1, hm2, hmj, hmj2, hmin, hcs⟩ : ∃ m mj : Nat, m ≤ 3 * mj ∧ 3 * mj ≤ m ∧ 1 ≤ mj ∧ mj ≤ j ∧ min (bp : Int) (T : Int) = (m : Int) ∧ (bp ≤ T ∨ ¬ bp ≤ T) := by
            by_cases hle : bp ≤ T
            · exact ⟨bp, j, hbp2, hbp1, hj1, Nat.le_refl _, by omega, Or.inl hle⟩
            · exact ⟨T, n, by omega, by omega, by omega, by omega, by omega, Or.inr hle⟩
          obtain ⟨q, hq⟩ : ∃ q, q = min mj (n - j) := ⟨_, rfl⟩
          have hq1 : q ≤ mj := by omega
          have hq2 : q ≤ n - j := by omega
          have hq4 : 1 ≤ q := by omega
          have hbl : (offB j).length = bp := by rw [offB_len]; omega
          obtain ⟨w2, hr2, B2⟩ := copy_self w wr.drew w.heap.size T (offB j) m (3 * q) T (buf_drew HB.out) (by omega) (by rw [hbl]; show 3 * q = min m (T - bp); omega) (by omega)
          rw [offB_more (by omega)] at B2
          rw [hbl] at hr2
          obtain ⟨k, hk⟩ : ∃ k, 3 * q = k := ⟨_, rfl⟩
          rw [hk] at hr2
          have hk1 : 3 * q ≤ k := by omega
          have hk2 : k ≤ 3 * q := by omega
          have HB2 := hid B2
          have sl1 : ∀ W, (Instr.slice 27 (.slice (some ⟨w.heap.size, 0, none⟩) T T) (some (.int .i64 (bp : Int))) none none).run Tryz.prog W = .ok (Lib.tailV w.heap.size T bp) W := fun W => Lib.run_slice_tailV W 27 5 Tryz.underlying27 (fun w => by kernel_rfl) w.heap.size T bp (by omega)
          have hmT : (m : Int) ≤ (T : Int) := by omega
          have hbT : (bp : Int) < (T : Int) := by omega
          have hbT2 : (bp : Int) ≤ (T : Int) := by omega
          have hkk : j + q ≤ n := by omega
          clear B2 hq hk hbl
          rcases hcs with hle | hle
          all_goals
            go_wp2
            go_region
            go_wp2
            go_roundw
            case rel => exact ⟨j + q, bp + k, by omega, by omega, by omega, by omega, by go_num, HB2⟩
            case measure => simp [intOf] <;> omega
        · obtain rfl : j = n := by omega
          obtain rfl : bp = T := by omega
          clear hT
          go_wp2
          go_ret
          have hfull : (offB j).length = bp := by rw [offB_len]; omega
          exact ⟨⟨w.heap.size, 0, none⟩, bp, rfl, hid hfull, hid (buf_slb HB.out hfull (by unfold maxLen; omega)), hid HB.out.below⟩
    · have k8 : ((8192 : Int) < (T : Int)) := by omega
      subst hDe
      obtain rfl : 8190 = cm := by omega
      go_enter Tryz.func197, Tryz.ntmps197
      go_wp2_with (first
        | (go_at_call 204
           (with_reducible refine (hmul _).mono ?_)
           rintro e u1 ⟨rfl, hu⟩
           rw [hu]))
      clear hu u1 hmul hcall hr1
      go_loopw [10] (fun s10 wr => ∃ j bp : Nat, 1 ≤ j ∧ j ≤ n ∧ 3 * j ≤ bp ∧ bp ≤ 3 * j ∧ s10 = .int .i64 (bp : Int) ∧ Hid (Lib.Buf w wr w.heap.size T (offB j))) (fun s10 _ => T - (intOf s10).toNat)
      case atStart => exact ⟨1, 3, Nat.le_refl _, by omega, by omega, by omega, rfl, HB1⟩
      case round =>
        obtain ⟨j, bp, hj1, hjn, hbp1, hbp2, rfl, HB⟩ := hrel
        by_cases hlt : j < n
        · obtain ⟨m, mj, hm1, hm2, hmj, hmj2, hmin, hcs⟩ : ∃ m mj : Nat, m ≤ 3 * mj ∧ 3 * mj ≤ m ∧ 1 ≤ mj ∧ mj ≤ j ∧ min (bp : Int) (8190 : Int) = (m : Int) ∧ (bp ≤ 8190 ∨ ¬ bp ≤ 8190) := by
            by_cases hle : bp ≤ 8190
            · exact ⟨bp, j, hbp2, hbp1, hj1, Nat.le_refl _, by omega, Or.inl hle⟩
            · exact ⟨8190, 2730, by omega, by omega, by omega, by omega, by omega, Or.inr hle⟩
          obtain ⟨q, hq⟩ : ∃ q, q = min mj (n - j) := ⟨_, rfl⟩
          have hq1 : q ≤ mj := by omega
          have hq2 : q ≤ n - j := by omega
          have hq4 : 1 ≤ q := by omega
          have hbl : (offB j).length = bp := by rw [offB_len]; omega
          obtain ⟨w2, hr2, B2⟩ := copy_self w wr.drew w.heap.size T (offB j) m (3 * q) T (buf_drew HB.out) (by omega) (by rw [hbl]; show 3 * q = min m (T - bp); omega) (by omega)
          rw [offB_more (by omega)] at B2
          rw [hbl] at hr2
          obtain ⟨k, hk⟩ : ∃ k, 3 * q = k := ⟨_, rfl⟩
          rw [hk] at hr2
          have hk1 : 3 * q ≤ k := by omega
          have hk2 : k ≤ 3 * q := by omega
          have HB2 := hid B2
          have sl1 : ∀ W, (Instr.slice 27 (.slice (some ⟨w.heap.size, 0, none⟩) T T) (some (.int .i64 (bp : Int))) none none).run Tryz.prog W = .ok (Lib.tailV w.heap.size T bp) W := fun W => Lib.run_slice_tailV W 27 5 Tryz.underlying27 (fun w => by kernel_rfl) w.heap.size T bp (by omega)
          have hmT : (m : Int) ≤ (T : Int) := by omega
          have hbT : (bp : Int) < (T : Int) := by omega
          have hbT2 : (bp : Int) ≤ (T : Int) := by omega
          have hkk : j + q ≤ n := by omega
          clear B2 hq hk hbl
          rcases hcs with hle | hle
          all_goals
            go_wp2
            go_region
            go_wp2
            go_roundw
            case rel => exact ⟨j + q, bp + k, by omega, by omega, by omega, by omega, by go_num, HB2⟩
            case measure => simp [intOf] <;> omega
        · obtain rfl : j = n := by omega
          obtain rfl : bp = T := by omega
          clear hT
          go_wp2
          go_ret
          have hfull : (offB j).length = bp := by rw [offB_len]; omega
          exact ⟨⟨w.heap.size, 0, none⟩, bp, rfl, hid hfull, hid (buf_slb HB.out hfull (by unfold maxLen; omega)), hid HB.out.below⟩
end Go.Proofs.YtggcampdkgfmgaaGreat.L11
namespace Go.Proofs.YtggcampdkgfmgaaGreat.L11
open Go.RowKit

/-! What takes characters off the screen: the program's. -/
theorem cols_grow (u W : World) (hW : Below u.heap.size u W) {t : Tm} (ht : t.Ok) (col : Int) (A : Option Addr) (n c : Nat) (bs : List UInt8) {s v : Bool} (hs60 : Hid (hasN t.f 60 = s)) (hs42 : Hid (hasN t.f 42 = v)) (hb : Hid (SlB u u.heap.size A c bs)) (hn : Hid (bs.length = n)) (hm : n ≤ 1000000) {M : Nat} (hM : Hid (colsN s v (nrm col) bs = M)) :
    Calls Tryz.prog 196 #[.agg t.cs, .int .i64 col, .slice A n c] W fun e w' => e = .returned (.int .i64 (M : Int)) ∧ Below u.heap.size u w' ∧ Below W.heap.size W w' := by
  refine (cols_any W ht col A n c bs hs60 hs42 (slb_up hb hW) hn.out hm).mono ?_
  rintro e w' ⟨rfl, h⟩
  rw [hM.out]
  exact ⟨rfl, hW.trans (h.out.mono hW.size), h.out⟩
theorem concat_grow (u W : World) (hW : Below u.heap.size u W) (g : Nat) (A A2 : Option Addr) (n n2 c c2 : Nat) (xs ys : List UInt8) (hg : Box W g 27 #[.slice A n c, .slice A2 n2 c2]) (hx : Hid (SlB u u.heap.size A c xs)) (hy : Hid (SlB u u.heap.size A2 c2 ys)) (hn : Hid (xs.length = n)) (hn2 : Hid (ys.length = n2)) (hm : n + n2 ≤ 1000000) :
    Calls Tryz.prog 73 #[.slice (some ⟨g, 0, none⟩) 2 2] W fun e w' => ∃ A3 c3, e = .returned (.slice A3 (n + n2) c3) ∧ Hid ((xs ++ ys).length = n + n2) ∧ Hid (SlB w' w'.heap.size A3 c3 (xs ++ ys)) ∧ Below u.heap.size u w' ∧ Below W.heap.size W w' := by
  obtain rfl := hn.out
  obtain rfl := hn2.out
  have hl : LisV W W.heap.size (some ⟨g, 0, none⟩) [xs, ys] := fun _ => by
    refine ⟨g, 0, rfl, hg.lt, fun k hk => ?_⟩
    match k, hk with
    | 0, _ => exact ⟨A, c, (hg.cell 0), (slb_up hx hW).out⟩
    | 1, _ => exact ⟨A2, c2, (hg.cell 1), (slb_up hy hW).out⟩
  have hf : [xs, ys].flatten = xs ++ ys := by simp
  refine (concat_any W W.heap.size (some ⟨g, 0, none⟩) 2 [xs, ys] hl (Nat.le_refl _) (by show 2 ≤ 1000; decide) (by rw [hf, List.length_append]; omega)).mono ?_
  rw [hf]
  rintro e w' ⟨A3, c3, rfl, ho, hb⟩
  refine ⟨A3, c3, by rw [List.length_append], hid List.length_append, hid (own_slb (_n := 0) ho), hW.trans (hb.mono hW.size), hb⟩
attribute [local go_sem ↓] ex_ld26
attribute [local go_sem] isP_v blkV_v aggV_v
set_option maxRecDepth 100000 in
set_option maxHeartbeats 4000000 in
theorem rub_any (w : World) {t : Tm} (ht : t.Ok) (col : Int) (A A2 : Option Addr) (n n2 c c2 : Nat) (xs ys : List UInt8) {s v : Bool} (hs60 : Hid (hasN t.f 60 = s)) (hs42 : Hid (hasN t.f 42 = v)) (hx : Hid (SlB w w.heap.size A c xs)) (hy : Hid (SlB w w.heap.size A2 c2 ys)) (hn : Hid (xs.length = n)) (hn2 : Hid (ys.length = n2)) (hm : n + n2 ≤ 30000) :
    Calls Tryz.prog 184 #[.agg t.cs, .int .i64 col, .slice A n c, .slice A2 n2 c2] w (Full w (rubB s v (nrm col) xs ys)) := by
  have hs := cs_size ht.len
  have K0 := old26 w t
  have X0 := slb_at hx K0
  have Y0 := slb_at hy K0
  obtain ⟨M1, hM1⟩ : ∃ M, Hid (colsN s v (nrm col) (xs ++ ys) = M) := ⟨_, hid rfl⟩
  obtain ⟨M2, hM2⟩ : ∃ M, Hid (colsN s v (nrm col) xs = M) := ⟨_, hid rfl⟩
  have hle : M2 ≤ M1 ∧ M1 ≤ M2 + 8 * n2 := by
    have h1 := colsN_le s v ys (colsN s v (nrm col) xs)
    rw [← colsN_append, hM1.out, hM2.out, hn2.out] at h1
    exact h1
  have hrub : Hid (rubB s v (nrm col) xs ys = offB (M1 - M2)) := hid (by unfold rubB; rw [hM1.out, hM2.out])
  obtain ⟨d, hd⟩ : ∃ d, M1 - M2 = d := ⟨_, rfl⟩
  rw [hd] at hrub
  rw [hrub.out]
  have hdi : (M1 : Int) - (M2 : Int) = (d : Int) := by omega
  have hd3 : d ≤ 300000 := by omega
  clear hrub hle hd
  go_enter Tryz.func184, Tryz.ntmps184
  go_wp2_with (first
    | (refine bx26 (by rfl) _ (by rfl) _ (by rfl) hs ?_
       intro G0))
  generalize w.alloc (.cells t.cs 26) = u0 at G0 K0 X0 Y0 ⊢
  have bz : ∀ W, Below u0.heap.size u0 W → isB W w.heap.size = true ∧ cs26 W w.heap.size = t.cs := fun W h => ⟨isB_mk (box_below G0.out h) hs, cs26_of (box_below G0.out h)⟩
  go_region_held3 (fun u => isB u w.heap.size = true ∧ cs26 u w.heap.size = t.cs) (exact bz _ (by repeat (first | exact Below.refl _ _ | exact b7 | exact b6 | exact b5 | with_reducible apply bel_dr | with_reducible apply bel_al))) ((first
    | (go_at_call 73
       (with_reducible refine (concat_grow u0 _ ?c1 _ A A2 n n2 c c2 xs ys ?c2 X0 Y0 hn hn2 (by omega)).mono ?_)
       case c1 => repeat (first | exact Below.refl _ _ | exact b7 | with_reducible apply bel_dr | with_reducible apply bel_al)
       case c2 => first | exact box_nw rfl | exact box_dr (box_nw rfl) | exact z7 | exact box_dr z7
       rintro e u5 ⟨A5, c5, rfl, hn5, S5, b5, d5⟩)
    | (go_at_call 196
       (first
         | ((with_reducible refine (cols_grow u5 _ ?c3 ht col A5 (n + n2) c5 (xs ++ ys) hs60 hs42 S5 hn5 (by omega) hM1).mono ?_)
            case c3 => repeat (first | exact Below.refl _ _ | exact d7 | with_reducible apply bel_dr | with_reducible apply bel_al)
            rintro e u6 ⟨rfl, d56, d6⟩
            have b6 := b5.trans (d56.mono b5.size))
         | ((with_reducible refine (cols_grow u0 _ ?c4 ht col A n c xs hs60 hs42 X0 hn (by omega) hM2).mono ?_)
            case c4 => repeat (first | exact Below.refl _ _ | exact b6 | exact b5 | with_reducible apply bel_dr | with_reducible apply bel_al)
            rintro e u7 ⟨rfl, b7, d7⟩
            first | have z7 := box_below (box_nw (cs := #[.slice A n c, .slice A2 n2 c2]) (t := 27) rfl) d7 | have z7 := box_below (box_dr (box_nw (cs := #[.slice A n c, .slice A2 n2 c2]) (t := 27) rfl)) d7 | skip)))))
  all_goals
    clear bz
    first
    | (have K9 := bel_t K0 b7
       go_wp2_with (first
         | (go_at_call 158
            (with_reducible refine (own_bel K9 (text_lit u7 [8, 32, 8] 3 #[.int .u8 8, .int .u8 32, .int .u8 8] rfl rfl (by decide) _ rfl)).mono ?_)
            rintro e u8 ⟨A8, n8, c8, rfl, h8, o8, K8⟩
            obtain rfl : n8 = 3 := h8.out.symm
            obtain ⟨p8, rfl⟩ := own_some h8 o8 (by decide)
            have S8 := slb_own h8 o8)
         | (go_at_call 197
            (with_reducible refine (full_bel K8 (repeat_any u8 p8 c8 d S8 hd3)).mono ?_)
            rintro e u10 ⟨p10, n10, rfl, h10, S10, K10⟩))
       go_ret
       exact ⟨_, _, rfl, h10, S10, K10⟩)
    | (have K9 := bel_t K0 b6
       go_wp2_with (first
         | (go_at_call 158
            (with_reducible refine (own_bel K9 (text_lit u6 [8, 32, 8] 3 #[.int .u8 8, .int .u8 32, .int .u8 8] rfl rfl (by decide) _ rfl)).mono ?_)
            rintro e u8 ⟨A8, n8, c8, rfl, h8, o8, K8⟩
            obtain rfl : n8 = 3 := h8.out.symm
            obtain ⟨p8, rfl⟩ := own_some h8 o8 (by decide)
            have S8 := slb_own h8 o8)
         | (go_at_call 197
            (with_reducible refine (full_bel K8 (repeat_any u8 p8 c8 d S8 hd3)).mono ?_)
            rintro e u10 ⟨p10, n10, rfl, h10, S10, K10⟩))
       go_ret
       exact ⟨_, _, rfl, h10, S10, K10⟩)
end Go.Proofs.YtggcampdkgfmgaaGreat.L11
