import Derived.Test.YteeienmigoebmaaGreatDoorKD
import Derived.Test.YteeienmigoebmaaGreatDoorShelf
import Derived.Lib.SplitLaws
import Derived.Lib.IndexLaws
import Derived.Lib.IndexBytes
namespace Go.Proofs.YteeienmigoebmaaGreatDoor
namespace L19
open Go.RowKit L18

/-! Layer 19, the program's side: the library's functions in this layer's words. -/
/-- What the library's variables hold. -/
structure TabX (w : World) : Prop where
  tab : TabW w
  pow : Lib.TabIs Tryz.prog w "internal/strconv.uint64pow10" .u64 Lib.pow10Tab
  syn : ∃ t p, w.cell? ⟨2, 0, none⟩ = some (.iface t p)
  rng : ∃ t p, w.cell? ⟨3, 0, none⟩ = some (.iface t p)
  mx : ∃ m, w.cell? ⟨1, 0, none⟩ = some (.int .i64 m)
theorem tabIs_up {w w' : World} (h : Lib.TabIs Tryz.prog w "internal/strconv.uint64pow10" .u64 Lib.pow10Tab) (hb : Below w.heap.size w w') : Lib.TabIs Tryz.prog w' "internal/strconv.uint64pow10" .u64 Lib.pow10Tab := by
  have hg : Tryz.prog.globalNamed "internal/strconv.uint64pow10" = some 4 := by kernel_rfl
  unfold Lib.TabIs World.var? at h ⊢
  rw [hg] at h ⊢
  simp only [Option.bind_some] at h ⊢
  have hlt : 4 < w.heap.size := by
    rcases Nat.lt_or_ge 4 w.heap.size with h' | h'
    · exact h'
    · rw [Array.getElem?_eq_none h'] at h; cases h
  rw [hb.block _ hlt]
  exact h
theorem cell_up {w w' : World} {p : Addr} {v : Value} (h : w.cell? p = some v) (hb : Below w.heap.size w w') : w'.cell? p = some v := (hb.cell (World.block_lt_of_cell? w _ h)).trans h
theorem TabX.below {w w' : World} (h : Hid (TabX w)) (hb : Below w.heap.size w w') : Hid (TabX w') :=
  hid ⟨(TabW.below (hid h.out.tab) hb).out, tabIs_up h.out.pow hb, h.out.syn.imp fun _ h => h.imp fun _ h => cell_up h hb, h.out.rng.imp fun _ h => h.imp fun _ h => cell_up h hb, h.out.mx.imp fun _ h => cell_up h hb⟩
theorem TabX.w {w : World} (h : Hid (TabX w)) : Hid (TabW w) := hid h.out.tab
/-! Numbers. -/
theorem dec_digits : ∀ n : Nat, Lib.decDigits n = digits n := by
  intro n
  induction n using Nat.strongRecOn with
  | ind n ih =>
    by_cases h : n < 10
    · rw [Lib.decDigits_one h, digits_small (by omega)]
      rfl
    · rw [Lib.decDigits, dif_neg h, ih (n / 10) (by omega), digits_big (n := n) (by omega)]
      rfl
theorem itoa_digits (n : Nat) : Lib.itoa (n : Int) = digits n := by
  unfold Lib.itoa
  rw [if_neg (by omega), Int.toNat_natCast, dec_digits]
theorem val_mono : ∀ (s : List UInt8) (a : Nat), a ≤ valD a s
  | [], a => Nat.le_refl _
  | c :: r, a => by
    have := val_mono r (step10 a c)
    have h : a ≤ step10 a c := by unfold step10; omega
    exact Nat.le_trans h this
theorem pu_digits : ∀ (s : List UInt8) (a : Nat), s.all digB = true → valD a s ≤ 999999 → Lib.parseUint10 a s = .ok (valD a s)
  | [], a, _, _ => rfl
  | c :: r, a, h, hv => by
    simp only [List.all_cons, Bool.and_eq_true] at h
    have hc : 48 ≤ c.toNat ∧ c.toNat ≤ 57 := by
      have := h.1
      simp only [digB, Bool.and_eq_true, decide_eq_true_eq, UInt8.le_iff_toNat_le] at this
      exact this
    have e : valD a (c :: r) = valD (step10 a c) r := rfl
    rw [e] at hv ⊢
    have h1 := val_mono r (step10 a c)
    have h2 : step10 a c = a * 10 + (c.toNat - 48) := by unfold step10; omega
    unfold Lib.parseUint10
    rw [if_pos hc, if_neg (by omega), if_neg (by omega), ← h2]
    exact pu_digits r _ h.2 hv
theorem atoi_digits {n : Nat} (h : n ≤ 999999) : Lib.atoiAll (digits n) = .ok (n : Int) := by
  have hv := digits_val n
  have ha := digits_all n
  have hp := digits_pos n
  have hm : Lib.parseMag (digits n) = .ok n := by
    unfold Lib.parseMag
    rw [if_neg (fun e => by rw [e] at hp; simp at hp)]
    have := pu_digits (digits n) 0 ha (by rw [hv]; exact h)
    rw [hv] at this
    exact this
  generalize digits n = s at hv ha hp hm
  cases s with
  | nil => simp at hp
  | cons c r =>
    simp only [List.all_cons, Bool.and_eq_true] at ha
    have hc : 48 ≤ c.toNat ∧ c.toNat ≤ 57 := by
      have := ha.1
      simp only [digB, Bool.and_eq_true, decide_eq_true_eq, UInt8.le_iff_toNat_le] at this
      exact this
    unfold Lib.atoiAll
    simp only
    rw [if_neg (by omega), hm]
    simp only
    rw [if_neg (by omega), if_neg (by omega), if_neg (by omega)]
theorem val_pow : ∀ (s : List UInt8) (a : Nat), s.all digB = true → valD a s + 1 ≤ (a + 1) * 10 ^ s.length
  | [], a, _ => by simp [valD]
  | c :: r, a, h => by
    simp only [List.all_cons, Bool.and_eq_true] at h
    have hc : 48 ≤ c.toNat ∧ c.toNat ≤ 57 := by
      have := h.1
      simp only [digB, Bool.and_eq_true, decide_eq_true_eq, UInt8.le_iff_toNat_le] at this
      exact this
    have e : valD a (c :: r) = valD (step10 a c) r := rfl
    have ih := val_pow r (step10 a c) h.2
    have h2 : step10 a c + 1 ≤ (a + 1) * 10 := by unfold step10; omega
    have h3 := Nat.mul_le_mul_right (10 ^ r.length) h2
    rw [e, List.length_cons, Nat.pow_succ, Nat.mul_comm (10 ^ r.length) 10, ← Nat.mul_assoc]
    exact Nat.le_trans ih h3
theorem val_small (s : List UInt8) (h : s.all digB = true) (hl : s.length ≤ 6) : valD 0 s ≤ 999999 := by
  have h1 := val_pow s 0 h
  have h2 : 10 ^ s.length ≤ 10 ^ 6 := Nat.pow_le_pow_right (by decide) hl
  have h3 : (10 : Nat) ^ 6 = 1000000 := by decide
  omega
theorem number_val {s : List UInt8} {n : Nat} (h : number s = some n) : n ≤ 999999 ∧ Lib.atoiAll s = .ok (n : Int) ∧ digits n = s := by
  obtain ⟨h1, h2⟩ := number_back h
  have h3 : n ≤ 999999 := by
    unfold number at h
    split at h
    · cases h
    · rename_i hn
      simp only [Option.some.injEq] at h
      have hl : s.length ≤ 6 := by omega
      have hb := val_small s h2 hl
      omega
  exact ⟨h3, by rw [← h1]; exact atoi_digits h3, h1⟩
theorem grow_below (os : Array Obj) (w u : World) (h : Below w.heap.size w u) : Below w.heap.size w (Sort.grow u os) :=
  ⟨h.os, h.tape, h.output, by show w.heap.size ≤ (u.heap ++ os).size; rw [Array.size_append]; have := h.size; omega, fun b hb => by
    show (u.heap ++ os)[b]? = w.heap[b]?
    rw [Array.getElem?_append_left (Nat.lt_of_lt_of_le hb h.size)]
    exact h.block b hb⟩
theorem drewN_below (w : World) (n : Nat) : Below w.heap.size w (w.drewN n) := ⟨rfl, rfl, rfl, Nat.le_refl _, fun _ _ => rfl⟩
section
variable {w : World}
theorem itoa_any (H : Hid (TabX w)) {n : Nat} (hn : n ≤ 999999999) {s : List UInt8} (hs : Hid (digits n = s)) : Calls Tryz.prog 77 #[.int .i64 (n : Int)] w fun e w' => e = .returned (.string (bs s)) ∧ Hid (Below w.heap.size w w') :=
  (Tryz.strconv_Itoa (n : Int) (by omega) (by omega) w H.out.pow).mono fun e w' h => by
    obtain ⟨rfl, k, os, rfl⟩ := h
    rw [itoa_digits, hs.out]
    exact ⟨rfl, hid (grow_below _ _ _ (drewN_below _ _))⟩
theorem atoi_ok {s : List UInt8} (hl : s.length ≤ 262144) {v : Int} (h : Hid (Lib.atoiAll s = .ok v)) : Calls Tryz.prog 91 #[.string (bs s)] w fun e w' => e = .returned (.tuple #[.int .i64 v, .nilIface]) ∧ Hid (Below w.heap.size w w') :=
  (Tryz.strconv_Atoi_ok (bs s) (by rw [bs_size]; omega) v (by simpa [bs] using h.out) w).mono fun e w' h => by
    obtain ⟨rfl, h | ⟨t, h⟩⟩ := h
    · subst h
      exact ⟨rfl, hid (Below.refl _ _)⟩
    · subst h
      exact ⟨rfl, hid (Lib.bytesWorld_below _ _ _)⟩
theorem atoi_syn (H : Hid (TabX w)) {s : List UInt8} (hl : s.length ≤ 262144) (h : Hid (∀ v, Lib.atoiAll s ≠ .ok v)) (h2 : Hid (Lib.atoiAll s ≠ .range)) : Calls Tryz.prog 91 #[.string (bs s)] w fun e w' => (∃ v t p, e = .returned (.tuple #[.int .i64 v, .iface t p])) ∧ Hid (Below w.heap.size w w') := by
  obtain ⟨t, p, hc⟩ := H.out.syn
  have hb : (bs s).data.toList = s := by simp [bs]
  cases hq : Lib.atoiAll s
  case ok v => exact absurd hq (h.out v)
  case range => exact absurd hq h2.out
  all_goals
    refine (Any.strconv_Atoi_syntax Tryz.laysC172 (bs s) (by rw [bs_size]; omega) (by rw [hb]; exact hq) _ w hc (.inr ⟨t, p, rfl⟩)).mono fun e w' h => ?_
    obtain ⟨N, rfl, _, _, hb⟩ := h
    exact ⟨⟨_, _, _, rfl⟩, hid hb⟩
theorem atoi_rng (H : Hid (TabX w)) {s : List UInt8} (hl : s.length ≤ 262144) (h : Hid (Lib.atoiAll s = .range)) : Calls Tryz.prog 91 #[.string (bs s)] w fun e w' => (∃ v t p, e = .returned (.tuple #[.int .i64 v, .iface t p])) ∧ Hid (Below w.heap.size w w') := by
  obtain ⟨t, p, hc⟩ := H.out.rng
  refine (Tryz.strconv_Atoi_range (bs s) (by rw [bs_size]; omega) (by simpa [bs] using h.out) _ w hc (.inr ⟨t, p, rfl⟩)).mono fun e w' h => ?_
  obtain ⟨N, rfl, _, _, hb⟩ := h
  exact ⟨⟨_, _, _, rfl⟩, hid hb⟩
/-- What isn't a number's text is no number. -/
theorem atoi_bad (H : Hid (TabX w)) {s : List UInt8} (hl : s.length ≤ 262144) (h : Hid (∀ v, Lib.atoiAll s ≠ .ok v)) : Calls Tryz.prog 91 #[.string (bs s)] w fun e w' => (∃ v t p, e = .returned (.tuple #[.int .i64 v, .iface t p])) ∧ Hid (Below w.heap.size w w') := by
  by_cases hq : Lib.atoiAll s = .range
  · exact atoi_rng H hl (hid hq)
  · exact atoi_syn H hl h (hid hq)
set_option maxRecDepth 100000 in
set_option maxHeartbeats 4000000 in
theorem numberp_any (H : Hid (TabX w)) {s : List UInt8} (hl : s.length ≤ 262144) {r : Option Nat} (hr : Hid (number s = r)) : Calls Tryz.prog 76 #[.string (bs s)] w fun e w' => e = .returned (.tuple #[.int .i64 ((r.getD 0 : Nat) : Int), .bool r.isSome]) ∧ Hid (Below w.heap.size w w') := by
  have hno : (∀ v, Lib.atoiAll s ≠ .ok v) → r = none := fun h => by
    rw [← hr.out]
    cases hq : number s with
    | none => rfl
    | some n => exact absurd (number_val hq).2.1 (h n)
  by_cases hq : ∀ v, Lib.atoiAll s ≠ .ok v
  · obtain rfl := hno hq
    have HQ := hid hq
    clear hq hno hr
    go_enter Tryz.func76, Tryz.ntmps76
    go_wp2_with (first
      | (go_at_call 91
         (with_reducible refine (atoi_bad H hl HQ).mono ?_)
         rintro e w1 ⟨⟨v, t, p, rfl⟩, C1⟩))
    go_ret2
    exact ⟨rfl, C1⟩
  · obtain ⟨v, hv⟩ : ∃ v, Lib.atoiAll s = .ok v := by
      apply Classical.byContradiction
      intro h
      exact hq fun v e => h ⟨v, e⟩
    have HV := hid hv
    clear hq hno
    by_cases h0 : v < 0
    · have hnone : r = none := by
        rw [← hr.out]
        cases hq : number s with
        | none => rfl
        | some n =>
          have := (number_val hq).2.1
          rw [hv] at this
          injection this with this
          omega
      subst hnone
      clear hr hv
      go_enter Tryz.func76, Tryz.ntmps76
      go_wp2_with (first
        | (go_at_call 91
           (with_reducible refine (atoi_ok hl HV).mono ?_)
           rintro e w1 ⟨rfl, C1⟩))
      go_ret2
      exact ⟨rfl, C1⟩
    obtain ⟨n, rfl⟩ := Int.eq_ofNat_of_zero_le (show 0 ≤ v by omega)
    by_cases h1 : 999999 < n
    · have hnone : r = none := by
        rw [← hr.out]
        cases hq : number s with
        | none => rfl
        | some m =>
          have := (number_val hq)
          rw [hv] at this
          have h2 := this.2.1
          injection h2 with h2
          omega
      have h1i : (999999 : Int) < n := by omega
      subst hnone
      clear hr hv h0
      go_enter Tryz.func76, Tryz.ntmps76
      go_wp2_with (first
        | (go_at_call 91
           (with_reducible refine (atoi_ok hl HV).mono ?_)
           rintro e w1 ⟨rfl, C1⟩))
      go_ret2
      exact ⟨rfl, C1⟩
    obtain ⟨d, hd⟩ : ∃ z, Hid (digits n = z) := ⟨_, hid rfl⟩
    have h1i : ¬ (999999 : Int) < n := by omega
    have h0i : ¬ (n : Int) < 0 := by omega
    by_cases h2 : d = s
    · have hsome : r = some n := by
        rw [← hr.out, ← h2, ← hd.out]
        exact number_digits (by omega)
      subst hsome
      have tb : ((bs d).toList == (bs s).toList) = true := by rw [str_eqb]; simp [h2]
      have tc : ((bs d).toList != (bs s).toList) = false := by rw [bne, tb]; rfl
      clear hr hv h0 h2
      go_enter Tryz.func76, Tryz.ntmps76
      go_wp2_with (first
        | (go_at_call 91
           (with_reducible refine (atoi_ok hl HV).mono ?_)
           rintro e w1 ⟨rfl, C1⟩
           have H1 := TabX.below H C1.out)
        | (go_at_call 77
           (with_reducible refine (itoa_any H1 (by omega) hd).mono ?_)
           rintro e w2 ⟨rfl, C2⟩))
      go_ret2
      exact ⟨rfl, bel_3 C1 C2⟩
    · have hnone : r = none := by
        rw [← hr.out]
        cases hq : number s with
        | none => rfl
        | some m =>
          have := (number_val hq)
          rw [hv] at this
          have h3 := this.2.1
          injection h3 with h3
          have h4 : n = m := by omega
          subst h4
          exact absurd (hd.out.symm.trans this.2.2) h2
      subst hnone
      have tb : ((bs d).toList == (bs s).toList) = false := by rw [str_eqb]; simp [h2]
      have tc : ((bs d).toList != (bs s).toList) = true := by rw [bne, tb]; rfl
      clear hr hv h0 h2
      go_enter Tryz.func76, Tryz.ntmps76
      go_wp2_with (first
        | (go_at_call 91
           (with_reducible refine (atoi_ok hl HV).mono ?_)
           rintro e w1 ⟨rfl, C1⟩
           have H1 := TabX.below H C1.out)
        | (go_at_call 77
           (with_reducible refine (itoa_any H1 (by omega) hd).mono ?_)
           rintro e w2 ⟨rfl, C2⟩))
      go_ret2
      exact ⟨rfl, bel_3 C1 C2⟩
end
end L19
end Go.Proofs.YteeienmigoebmaaGreatDoor
namespace Go.Proofs.YteeienmigoebmaaGreatDoor
namespace L19
open Go.RowKit L18

/-! Layer 19, the program's side: how a text is written. -/
theorem prB_i (c : UInt8) : prB c = (decide (33 ≤ (c.toNat : Int)) && decide ((c.toNat : Int) ≤ 126)) := by
  revert c
  exact all256 (by decide +kernel)
theorem itself_i (c : UInt8) : itself c = (prB c && decide ((c.toNat : Int) ≠ 92)) := by
  revert c
  exact all256 (by decide +kernel)
section
variable (w : World)
set_option maxRecDepth 100000 in
set_option maxHeartbeats 1000000 in
theorem visible_any {c : UInt8} {r : Bool} (hr : Hid (prB c = r)) : Calls Tryz.prog 88 #[.int .u8 (c.toNat : Int)] w fun e w' => e = .returned (.bool r) ∧ w' = w := by
  have hrr := hr.out
  rw [prB_i] at hrr
  obtain ⟨z, hz⟩ : ∃ z : Int, (c.toNat : Int) = z := ⟨_, rfl⟩
  rw [hz] at hrr ⊢
  clear hr
  by_cases h1 : 33 ≤ z
  · by_cases h2 : z ≤ 126
    · have HZ : Hid (true = r) := hid (by simpa [h1, h2] using hrr)
      clear hrr
      go_enter Tryz.func88, Tryz.ntmps88
      go_wp2
      go_ret
      rw [← HZ.out]
      exact ⟨rfl, rfl⟩
    · have HZ : Hid (false = r) := hid (by simpa [h1, h2] using hrr)
      clear hrr
      go_enter Tryz.func88, Tryz.ntmps88
      go_wp2
      go_ret
      rw [← HZ.out]
      exact ⟨by simp, rfl⟩
  · have HZ : Hid (false = r) := hid (by simpa [h1] using hrr)
    clear hrr
    go_enter Tryz.func88, Tryz.ntmps88
    go_wp2
    go_ret
    rw [← HZ.out]
    exact ⟨rfl, rfl⟩
set_option maxRecDepth 100000 in
set_option maxHeartbeats 1000000 in
theorem itselfp_any {c : UInt8} {r : Bool} (hr : Hid (itself c = r)) : Calls Tryz.prog 95 #[.int .u8 (c.toNat : Int)] w fun e w' => e = .returned (.bool r) ∧ w' = w := by
  have hrr := hr.out
  rw [itself_i] at hrr
  clear hr
  obtain ⟨v, hv⟩ : ∃ v, Hid (prB c = v) := ⟨_, hid rfl⟩
  rw [hv.out] at hrr
  have HV := hid (visible_any w hv)
  obtain ⟨z, hz⟩ : ∃ z : Int, (c.toNat : Int) = z := ⟨_, rfl⟩
  rw [hz] at hrr HV ⊢
  cases v
  · have HZ : Hid (false = r) := hid (by simpa using hrr)
    clear hrr
    go_enter Tryz.func95, Tryz.ntmps95
    go_wp2_with (first
      | (go_at_call 88
         (with_reducible refine HV.out.mono ?_)
         rintro e w1 ⟨rfl, hw⟩
         obtain rfl := hw.symm))
    go_ret
    rw [← HZ.out]
    exact ⟨rfl, rfl⟩
  · have HZ : Hid ((z != 92) = r) := hid (by rw [← hrr]; simp [bne, Bool.beq_eq_decide_eq])
    clear hrr
    go_enter Tryz.func95, Tryz.ntmps95
    go_wp2_with (first
      | (go_at_call 88
         (with_reducible refine HV.out.mono ?_)
         rintro e w1 ⟨rfl, hw⟩
         obtain rfl := hw.symm))
    go_ret
    rw [← HZ.out]
    exact ⟨by simp [bne], rfl⟩
end
theorem nib_p (c : UInt8) : (c.toNat : Int) / 16 = ((c / 16).toNat : Int) ∧ bits .and .u8 (c.toNat : Int) 15 = ((c % 16).toNat : Int) ∧ (c / 16).toNat < 16 ∧ (c % 16).toNat < 16 := by
  revert c
  exact all256 (by decide +kernel)
def hexs : List UInt8 := [48, 49, 50, 51, 52, 53, 54, 55, 56, 57, 97, 98, 99, 100, 101, 102]
theorem hex_l (n : UInt8) (h : n.toNat < 16) : hexs[n.toNat]? = some (hexD n) := by
  revert n
  exact all256 (P := fun n => n.toNat < 16 → hexs[n.toNat]? = some (hexD n)) (by decide +kernel)
theorem hex_at {n x : UInt8} (h : n.toNat < 16) (hx : hexD n = x) (hh : n.toNat < (⟨#[48, 49, 50, 51, 52, 53, 54, 55, 56, 57, 97, 98, 99, 100, 101, 102]⟩ : ByteArray).size) : (⟨#[48, 49, 50, 51, 52, 53, 54, 55, 56, 57, 97, 98, 99, 100, 101, 102]⟩ : ByteArray)[n.toNat]'hh = x := by
  have h1 := hex_l n h
  rw [hx] at h1
  have h2 : (bs hexs)[n.toNat]? = some x := by rw [bs_at, h1]
  rw [getElem?_pos (bs hexs) n.toNat hh] at h2
  exact Option.some.inj h2
set_option maxRecDepth 100000 in
set_option maxHeartbeats 8000000 in
theorem quote_any (w : World) {t s : List UInt8} (ht : t.length ≤ 1000000) (hs : Hid (escaped t = s)) :
    Calls Tryz.prog 80 #[.string (bs t)] w fun e w' => e = .returned (.string (bs s)) ∧ Hid (Below w.heap.size w w') := by
  obtain ⟨n, hn⟩ : ∃ n, Hid (t.length = n) := ⟨_, hid rfl⟩
  have hn6 : n ≤ 1000000 := by rw [← hn.out]; exact ht
  have hsz : ((bs t).size : Int) = n := by rw [bs_size, hn.out]
  have hszn : (bs t).size = n := by rw [bs_size, hn.out]
  clear ht
  go_enter Tryz.func80, Tryz.ntmps80
  go_wp2
  go_loopw [3, 8] (fun x y wr => ∃ (k m : Nat) (A2 : Option Addr) (c2 : Nat), y = .int .i64 k ∧ k ≤ n ∧ x = .slice A2 m c2 ∧ Hid ((escaped (t.take k)).length = m) ∧ Hid (wr.ownsRow w.heap.size 5 1 (.slice A2 m c2) m (byC (escaped (t.take k)))) ∧ Hid (Below w.heap.size w wr)) (fun _ y _ => n - (intOf y).toNat)
  case atStart => exact ⟨0, 0, none, 0, rfl, Nat.zero_le _, rfl, hid rfl, hid (World.ownsRow_nil _ _ _ _), hid (Below.refl _ _)⟩
  case round =>
    obtain ⟨k, m, A2, c2, rfl, hk, rfl, HM, HO, HB⟩ := hrel
    have hw7 : IntKind.i64.wrap ((k : Int) + 1) = (k : Int) + 1 := IntWalk.i64_in _ (by omega)
    have hm6 : m ≤ 3000000 := by
      rw [← HM.out]
      have := esc_all (t.take k)
      rw [List.length_take] at this
      omega
    have hz := HB.out.size
    by_cases hlt : k < n
    · have hi : (k : Int) < n := by omega
      obtain ⟨c, hc⟩ : ∃ c, t[k]? = some c := ⟨_, List.getElem?_eq_getElem (by rw [hn.out]; exact hlt)⟩
      have hx : (bs t)[k]? = some c := by rw [bs_at, hc]
      have hx2 : ∀ h : k < (bs t).size, (bs t)[k]'h = c := fun h => by
        rw [getElem?_pos (bs t) k h] at hx
        exact Option.some.inj hx
      have HE := hid (esc_take hc)
      obtain ⟨b, hb⟩ : ∃ z, Hid (itself c = z) := ⟨_, hid rfl⟩
      clear hc
      cases b
      · have H1 : Hid (escaped (t.take (k + 1)) = escaped (t.take k) ++ [92, hexD (c / 16), hexD (c % 16)]) := hid (by
          rw [HE.out]
          unfold esc1
          rw [hb.out]
          rfl)
        obtain ⟨q1, q2, q3, q4⟩ := nib_p c
        obtain ⟨x1, hx1⟩ : ∃ z, Hid (hexD (c / 16) = z) := ⟨_, hid rfl⟩
        obtain ⟨x2, hx22⟩ : ∃ z, Hid (hexD (c % 16) = z) := ⟨_, hid rfl⟩
        have p1 := hex_at q3 hx1.out
        have p2 := hex_at q4 hx22.out
        rw [hx1.out, hx22.out] at H1
        generalize (c / 16).toNat = n1 at *
        generalize (c % 16).toNat = n2 at *
        have q5 : (n1 : Int) < 16 := by omega
        have q6 : (n2 : Int) < 16 := by omega
        have q7 : (0 : Int) ≤ n1 := by omega
        have q8 : (0 : Int) ≤ n2 := by omega
        clear hx1 hx22
        have hmx : m + 3 ≤ maxLen := by unfold maxLen; omega
        clear HE
        go_upto_region 8 with (first
          | (go_at_call 95
             (with_reducible refine (itselfp_any _ hb).mono ?_)
             rintro e w5 ⟨rfl, hw⟩
             obtain rfl := hw.symm))
        go_region_held3 (fun _ => True) (trivial) ((first
          | (refine step_row 66 5 1 1 _ Tryz.underlying66 infoU8 rfl (by decide) (by rfl) (.tmp 20) (.tmp 27) rfl w.heap.size m 3 c2 A2 (byC (escaped (t.take k))) (byC [92, x1, x2]) rfl (hid (own_keep HO.out ?c1)) ?c2 _ 3 rfl (hid (lies_row _ 5 (byC [92, x1, x2]) #[.int .u8 92, .int .u8 (x1.toNat : Int), .int .u8 (x2.toNat : Int)] _ (by first | rfl | simp) rfl)) rfl (byC_one _) hmx (by omega) ?_
             case c1 => repeat (first | exact Below.refl _ _ | with_reducible apply bel_d | with_reducible apply bel_a)
             case c2 => exact Nat.le_trans hz (Below.size (by repeat (first | exact Below.refl _ _ | with_reducible apply bel_d | with_reducible apply bel_a)))
             intro A5 c5 u5 o5 k5 g5
             have O5 : Hid (u5.ownsRow w.heap.size 5 1 (.slice A5 (m + 3) c5) (m + 3) (byC (escaped (t.take (k + 1))))) := hid (by rw [H1.out, byC_app]; exact o5.out)
             have B5 : Hid (Below w.heap.size w u5) := hid (Below.trans (bel_t HB (by repeat (first | exact Below.refl _ _ | with_reducible apply bel_d | with_reducible apply bel_a))).out (k5.out.below (Nat.le_trans hz (Below.size (by repeat (first | exact Below.refl _ _ | with_reducible apply bel_d | with_reducible apply bel_a))))))
             clear o5 k5 g5)))
        all_goals
          have HM2 : Hid ((escaped (t.take (k + 1))).length = m + 3) := hid (by rw [H1.out, List.length_append, HM.out]; rfl)
          go_wp2
          go_roundw
          case rel => exact ⟨k + 1, m + 3, A5, c5, by go_num, by omega, rfl, HM2, O5, B5⟩
          case measure => simp [intOf] <;> omega
      · have H1 : Hid (escaped (t.take (k + 1)) = escaped (t.take k) ++ [c]) := hid (by
          rw [HE.out]
          unfold esc1
          rw [hb.out]
          rfl)
        have hmx : m + 1 ≤ maxLen := by unfold maxLen; omega
        have B8 : Below wr.heap.size wr (wr.alloc (.cells #[.int .u8 (c.toNat : Int)] 5)) := (Below.refl _ wr).alloc (Nat.le_refl _) _
        have O8 := hid (own_keep HO.out B8)
        have L8 := hid (lies_row wr 5 (byC [c]) #[.int .u8 (c.toNat : Int)] wr.heap.size rfl rfl)
        have hz8 : w.heap.size ≤ (wr.alloc (.cells #[.int .u8 (c.toNat : Int)] 5)).heap.size := Nat.le_trans hz B8.size
        have HB8 := bel_t HB B8
        clear HE
        go_wp2_with (first
          | (go_at_call 95
             (with_reducible refine (itselfp_any _ hb).mono ?_)
             rintro e w5 ⟨rfl, hw⟩
             obtain rfl := hw.symm)
          | (at_builtin
             (refine app_row 66 5 1 1 _ Tryz.underlying66 infoU8 rfl (by decide) _ (by rfl) (.tmp 16) (.tmp 18) rfl w.heap.size m 1 c2 A2 (byC (escaped (t.take k))) (byC [c]) rfl O8 hz8 (some ⟨wr.heap.size, 0, none⟩) 1 rfl L8 rfl (byC_one _) hmx (by omega) ?_)
             intro A5 c5 u5 o5 k5))
        have O5 : Hid (u5.ownsRow w.heap.size 5 1 (.slice A5 (m + 1) c5) (m + 1) (byC (escaped (t.take (k + 1))))) := hid (by rw [H1.out, byC_app]; exact o5.out)
        have HM2 : Hid ((escaped (t.take (k + 1))).length = m + 1) := hid (by rw [H1.out, List.length_append, HM.out]; rfl)
        have B5 : Hid (Below w.heap.size w u5) := hid (HB8.out.trans (k5.out.below hz8))
        go_roundw
        case rel => exact ⟨k + 1, m + 1, A5, c5, by go_num, by omega, rfl, HM2, O5, B5⟩
        case measure => simp [intOf] <;> omega
    · have hi : ¬ (k : Int) < n := by omega
      have e : t.take k = t := List.take_of_length_le (by rw [hn.out]; omega)
      rw [e, hs.out] at HM HO
      have hms := HM.out
      subst hms
      have cv : (convert 66 9 (.slice A2 s.length c2)).run Tryz.prog wr = .ok (.string (bs s)) wr := str_of wr _ A2 c2 s (Lies.own HO.out)
      clear e HM
      go_wp2
      go_ret
      exact ⟨rfl, HB⟩
end L19
end Go.Proofs.YteeienmigoebmaaGreatDoor
namespace Go.Proofs.YteeienmigoebmaaGreatDoor
namespace L19
open Go.RowKit L18

/-! Layer 19, the program's side: how an operation is written. -/
def numsT (l : List Nat) : List UInt8 := l.flatMap fun v => 32 :: digits v
theorem nums_snoc (l : List Nat) (v : Nat) : numsT (l ++ [v]) = numsT l ++ 32 :: digits v := by simp [numsT]
theorem dig_len6 {n : Nat} (h : n ≤ 999999) : (digits n).length ≤ 6 := digits_len 5 n (by simpa using (by omega : n < 1000000))
section
variable {w : World}
set_option maxRecDepth 100000 in
set_option maxHeartbeats 4000000 in
theorem writeN_any (H : Hid (TabX w)) {n : Nat} (hn : n ≤ 2) {a b : Nat} (ha : a ≤ 999999) (hb : b ≤ 999999) {k : Int} {t : ByteArray} {s : List UInt8} (hs : Hid (numsT ([a, b].take n) = s)) :
    Calls Tryz.prog 59 #[.int .i64 (n : Int), .agg #[.int .i64 k, .int .i64 (a : Int), .int .i64 (b : Int), .string t]] w fun e w' => e = .returned (.string (bs s)) ∧ Hid (Below w.heap.size w w') := by
  have hn2 : (n : Int) ≤ 2 := by omega
  have hn0 : (0 : Int) ≤ n := by omega
  go_enter Tryz.func59, Tryz.ntmps59
  go_wp2
  obtain ⟨u, hu⟩ : ∃ z, z = (w.alloc (.cells #[.int .i64 k, .int .i64 (a : Int), .int .i64 (b : Int), .string t] 46)).alloc (.cells #[.int .i64 (a : Int), .int .i64 (b : Int)] 3) := ⟨_, rfl⟩
  obtain ⟨g, hg⟩ : ∃ z, w.heap.size + 1 = z := ⟨_, rfl⟩
  have XB : Hid (Box u g 3 #[.int .i64 (a : Int), .int .i64 (b : Int)]) := hid (by
    rw [hu, ← hg]
    have := Box.new (w.alloc (.cells #[.int .i64 k, .int .i64 (a : Int), .int .i64 (b : Int), .string t] 46)) 3 #[.int .i64 (a : Int), .int .i64 (b : Int)]
    simpa using this)
  have K1 : Hid (Below w.heap.size w u) := hid (by rw [hu]; exact ((Below.refl _ w).alloc (Nat.le_refl _) _).alloc (by simp) _)
  rw [← hu]
  simp only [hg]
  clear hu hg
  have H1 := TabX.below H K1.out
  go_loopw [5, 16] (fun x i wr => ∃ (j : Nat) (y : List UInt8), j ≤ n ∧ i = .int .i64 (j : Int) ∧ x = .string (bs y) ∧ y.length ≤ 7 * j ∧ Hid (numsT ([a, b].take j) = y) ∧ Hid (Below u.heap.size u wr)) (fun _ i _ => n - (intOf i).toNat)
  case atStart => exact ⟨0, [], by omega, rfl, rfl, by simp, hid rfl, hid (Below.refl _ _)⟩
  case round =>
    obtain ⟨j, y, hj, rfl, rfl, hy, HY, HB⟩ := hrel
    by_cases hlt : j < n
    · have hi : (j : Int) < n := by omega
      have hi0 : (0 : Int) ≤ j := by omega
      obtain ⟨v, hv, hv9⟩ : ∃ v, [a, b][j]? = some v ∧ v ≤ 999999 := by
        have : j = 0 ∨ j = 1 := by omega
        rcases this with rfl | rfl
        · exact ⟨a, rfl, ha⟩
        · exact ⟨b, rfl, hb⟩
      have hc : wr.cell? ⟨g, j, none⟩ = some (.int .i64 (v : Int)) := by
        rw [(box_below XB.out HB.out).cell j]
        have : j = 0 ∨ j = 1 := by omega
        rcases this with rfl | rfl <;> simp at hv <;> subst hv <;> rfl
      have HT := hid (take_at hv)
      obtain ⟨d, hd⟩ : ∃ z, Hid (digits v = z) := ⟨_, hid rfl⟩
      have hdl : d.length ≤ 6 := by rw [← hd.out]; exact dig_len6 hv9
      obtain ⟨x5, hx5⟩ : ∃ z, 32 :: d = z := ⟨_, rfl⟩
      have lx : x5.length = 1 + d.length := by rw [← hx5, List.length_cons]; omega
      obtain ⟨r4, hr4⟩ : ∃ z, y ++ x5 = z := ⟨_, rfl⟩
      have l4 : r4.length = y.length + x5.length := by rw [← hr4, List.length_append]
      have hr7 : r4.length ≤ 7 * (j + 1) := by omega
      have HR : Hid (numsT ([a, b].take (j + 1)) = r4) := hid (by rw [HT.out, nums_snoc, HY.out, hd.out, hx5, hr4])
      have s6 : ¬ 9223372036854775807 < (⟨#[32]⟩ : ByteArray).size + (bs d).size := cat_ok (a := [32]) (b := d) (by simp; omega)
      have e6 : (⟨#[32]⟩ : ByteArray) ++ bs d = bs x5 := by rw [← hx5]; exact (bs_app [32] d).symm
      have s4 : ¬ 9223372036854775807 < (bs y).size + (bs x5).size := cat_ok (a := y) (b := x5) (by omega)
      have e4 : bs y ++ bs x5 = bs r4 := by rw [← hr4]; exact (bs_app _ _).symm
      have H2 := TabX.below H1 HB.out
      have hw7 : IntKind.i64.wrap ((j : Int) + 1) = (j : Int) + 1 := IntWalk.i64_in _ (by omega)
      have hv9' : v ≤ 999999999 := by omega
      clear hv hx5 hr4 l4 lx
      go_wp2_with (first
        | (go_at_call 77
           (with_reducible refine (itoa_any H2 hv9' hd).mono ?_)
           rintro e w6 ⟨rfl, C6⟩))
      go_roundw
      case rel => exact ⟨j + 1, r4, by omega, by go_num, rfl, hr7, HR, bel_3 HB C6⟩
      case measure => simp [intOf] <;> omega
    · obtain rfl : j = n := by omega
      have hi : ¬ (j : Int) < j := by omega
      have hys := HY.out.symm.trans hs.out
      subst hys
      go_wp2
      go_ret
      exact ⟨rfl, bel_3 K1 HB⟩
set_option maxRecDepth 100000 in
set_option maxHeartbeats 4000000 in
theorem writeQ_any (w : World) {k a b : Int} {t : List UInt8} (ht : t.length ≤ 1000000) {s : List UInt8} (hs : Hid (32 :: escaped t = s)) :
    Calls Tryz.prog 62 #[.agg #[], .agg #[.int .i64 k, .int .i64 a, .int .i64 b, .string (bs t)]] w fun e w' => e = .returned (.string (bs s)) ∧ Hid (Below w.heap.size w w') := by
  obtain ⟨d, hd⟩ : ∃ z, Hid (escaped t = z) := ⟨_, hid rfl⟩
  have hdl : d.length ≤ 3000000 := by rw [← hd.out]; have := esc_all t; omega
  have s6 : ¬ 9223372036854775807 < (⟨#[32]⟩ : ByteArray).size + (bs d).size := cat_ok (a := [32]) (b := d) (by simp; omega)
  have e6 : (⟨#[32]⟩ : ByteArray) ++ bs d = bs s := by rw [← hs.out, hd.out]; exact (bs_app [32] d).symm
  have B2 : ∀ o o2, Hid (Below w.heap.size w ((w.alloc o).alloc o2)) := fun o o2 => hid ((bel_w w o).out.alloc (by simp) o2)
  clear hs
  go_enter Tryz.func62, Tryz.ntmps62
  go_wp2_with (first
    | (go_at_call 80
       (with_reducible refine (quote_any _ ht hd).mono ?_)
       rintro e w6 ⟨rfl, C6⟩))
  go_ret
  exact ⟨rfl, bel_3 (B2 _ _) C6⟩
end
/-- What stands behind the word. -/
def behindL (o : OpV) : List UInt8 := if argN o.1.toNat = 1 then 32 :: digits o.2.1.toNat else if argN o.1.toNat = 2 then 32 :: (digits o.2.1.toNat ++ 32 :: digits o.2.2.1.toNat) else if argN o.1.toNat = 9 then 32 :: escaped o.2.2.2 else []
theorem opLine_is (o : OpV) : opLine o = word o.1.toNat ++ behindL o := rfl
theorem wr_any {w : World} (H : Hid (TabX w)) {k : Nat} (h2 : k ≤ 16) {a b : Nat} (ha : a ≤ 999999) (hb : b ≤ 999999) {t : List UInt8} (ht : t.length ≤ 1000000) {s : List UInt8} (hs : Hid (behindL ((k : Int), (a : Int), (b : Int), t) = s)) {fN : Nat} (hf : wrN k = fN) {A : Array Value} (hA : arA k = A) :
    Calls Tryz.prog fN (A ++ #[.agg #[.int .i64 (k : Int), .int .i64 (a : Int), .int .i64 (b : Int), .string (bs t)]]) w fun e w' => e = .returned (.string (bs s)) ∧ Hid (Below w.heap.size w w') := by
  have hss := hs.out
  subst hf
  subst hA
  unfold behindL at hss
  simp only [Int.toNat_natCast] at hss
  rcases arg_cases h2 with e | e | e | e <;> simp only [wrN, arA, e] at hss ⊢
  · exact writeN_any H (n := 0) (by omega) ha hb (hid (by rw [← hss]; rfl))
  · exact writeN_any H (n := 1) (by omega) ha hb (hid (by rw [← hss]; simp [numsT]))
  · exact writeN_any H (n := 2) (by omega) ha hb (hid (by rw [← hss]; simp [numsT]))
  · exact writeQ_any w ht (hid (by rw [← hss]; rfl))
theorem wr_call {k : Nat} (h2 : k ≤ 16) {fN : Nat} (hf : wrN k = fN) : ∀ args w, (callFunc fN args).run Tryz.prog w = .ok (.enter fN args) w := by
  subst hf
  rcases arg_cases h2 with e | e | e | e <;> simp only [wrN, e]
  · exact Tryz.call59
  · exact Tryz.call59
  · exact Tryz.call59
  · exact Tryz.call62
end L19
end Go.Proofs.YteeienmigoebmaaGreatDoor
namespace Go.Proofs.YteeienmigoebmaaGreatDoor
namespace L19
open Go.RowKit L18

/-! Layer 19, the program's side: an operation's line. -/
theorem row_w1 (k : Nat) : (rowA k)[1]? = some (.string (bs (word k))) := rfl
theorem word_len7 {k : Nat} (h : k ≤ 16) : (word k).length ≤ 7 := by
  have : ∀ j : Fin 17, (word j.1).length ≤ 7 := by decide
  exact this ⟨_, by omega⟩
theorem wr_push {w : World} (H : Hid (TabX w)) {k : Nat} (h2 : k ≤ 16) {a b : Nat} (ha : a ≤ 999999) (hb : b ≤ 999999) {t : List UInt8} (ht : t.length ≤ 1000000) {s : List UInt8} (hs : Hid (behindL ((k : Int), (a : Int), (b : Int), t) = s)) {fN : Nat} (hf : wrN k = fN) {A : Array Value} (hA : arA k = A) :
    Calls Tryz.prog fN (A.push (.agg #[.int .i64 (k : Int), .int .i64 (a : Int), .int .i64 (b : Int), .string (bs t)])) w fun e w' => e = .returned (.string (bs s)) ∧ Hid (Below w.heap.size w w') := by
  have := wr_any H h2 ha hb ht hs hf hA
  rwa [← Array.push_eq_append] at this
set_option maxRecDepth 100000 in
set_option maxHeartbeats 4000000 in
theorem line_any {w : World} (H : Hid (TabX w)) {k : Nat} (h1 : 1 ≤ k) (h2 : k ≤ 16) {a b : Nat} (ha : a ≤ 999999) (hb : b ≤ 999999) {t : List UInt8} (ht : t.length ≤ 1024) {s : List UInt8} (hs : Hid (opLine ((k : Int), (a : Int), (b : Int), t) = s)) :
    Calls Tryz.prog 20 #[.agg rowsA, .agg #[.int .i64 (k : Int), .int .i64 (a : Int), .int .i64 (b : Int), .string (bs t)]] w fun e w' => e = .returned (.string (bs s)) ∧ Hid (Below w.heap.size w w') := by
  obtain ⟨R, hR⟩ : ∃ z, rowA k = z := ⟨_, rfl⟩
  obtain ⟨f1, hf1⟩ : ∃ z, wrN k = z := ⟨_, rfl⟩
  obtain ⟨A, hA⟩ : ∃ z, arA k = z := ⟨_, rfl⟩
  obtain ⟨wd, hwd⟩ : ∃ z, word k = z := ⟨_, rfl⟩
  have c1 := row_w1 k
  have c3 := row_c3 k
  have HS : Hid ((Tryz.prog.info? 61).map (·.size) = some (rowA k).size) := hid (row_sz k)
  have HO : Hid ((rowA k).all (·.oneCell') = true) := hid (row_one k)
  have HZ : Hid (zrow.size = (rowA k).size) := hid rfl
  rw [hR] at c1 c3 HS HO HZ
  rw [hf1, hA] at c3
  rw [hwd] at c1
  have hcf := wr_call h2 hf1
  have HF := hid (fun W => of_yes W h1 h2 (k := (k : Int)) rfl hR)
  obtain ⟨bh, hbh⟩ : ∃ z, Hid (behindL ((k : Int), (a : Int), (b : Int), t) = z) := ⟨_, hid rfl⟩
  have HP : Hid (∀ W, Hid (TabX W) → _) := hid (fun W (HT : Hid (TabX W)) => wr_push HT h2 ha hb (show t.length ≤ 1000000 by omega) hbh hf1 hA)
  have hwl : wd.length ≤ 7 := by rw [← hwd]; exact word_len7 h2
  have hbl : bh.length ≤ 3200 := by
    rw [← hbh.out]
    unfold behindL
    simp only [Int.toNat_natCast]
    have d1 := dig_len6 ha
    have d2 := dig_len6 hb
    have d3 := esc_all t
    split
    · rw [List.length_cons]; omega
    · split
      · simp; omega
      · split
        · rw [List.length_cons]; omega
        · simp
  have HR : Hid (wd ++ bh = s) := hid (by rw [← hs.out, opLine_is, ← hwd, ← hbh.out]; simp)
  have s6 : ¬ 9223372036854775807 < (bs wd).size + (bs bh).size := cat_ok (a := wd) (b := bh) (by omega)
  have e6 : bs wd ++ bs bh = bs s := by rw [← HR.out]; exact (bs_app _ _).symm
  clear hR hf1 hA hwd hs
  go_enter Tryz.func20, Tryz.ntmps20
  go_upto_region 1 with (first
    | (refine bxG rows_sz (by rfl) _ (by rfl) (by rfl) ?_
       intro w1 X1 hw1))
  obtain ⟨u, hu⟩ : ∃ z, z = w1.alloc (.cells #[.int .i64 (k : Int), .int .i64 (a : Int), .int .i64 (b : Int), .string (bs t)] 46) := ⟨_, rfl⟩
  have K1 : Hid (Below w.heap.size w w1) := hid (by rw [hw1.out]; exact (Below.refl _ w).alloc (Nat.le_refl _) _)
  have K2 : Hid (Below w1.heap.size w1 u) := hid (by rw [hu]; exact (Below.refl _ w1).alloc (Nat.le_refl _) _)
  have X2 : Hid (Box u w1.heap.size 46 #[.int .i64 (k : Int), .int .i64 (a : Int), .int .i64 (b : Int), .string (bs t)]) := hid (by rw [hu]; exact Box.new w1 _ _)
  have X3 : Hid (Box u w.heap.size 63 rowsA) := hid (box_below X1.out K2.out)
  have K3 := bel_3 K1 K2
  obtain ⟨gb, hgb⟩ : ∃ z, w.heap.size = z := ⟨_, rfl⟩
  obtain ⟨g, hg⟩ : ∃ z, w1.heap.size = z := ⟨_, rfl⟩
  rw [← hu]
  rw [hg] at X2
  rw [hgb] at X3
  simp only [hg]
  simp only [hgb]
  have hH := TabX.below H K3.out
  clear hu X1 K1 K2 hw1
  have z0 := X2.out.cell 0
  go_upto_region 2 with (first
    | (refine ldG Tryz.underlying63 rfl rows_sz (by rfl) _ (by rfl) _ (by rfl) 63 X3 ?_)
    | (go_at_call 47
       (with_reducible refine (HF.out _).mono ?_)
       rintro e w2 ⟨rfl, C2⟩
       have X5 : Hid (Box (w2.alloc (.cells #[.int .i64 0, .string ⟨#[]⟩, .nilFunc, .nilFunc, .nilFunc, .nilFunc] 61)) w2.heap.size 61 zrow) := hid (Box.new w2 _ _)
       have K5 : Hid (Below u.heap.size u (w2.alloc (.cells #[.int .i64 0, .string ⟨#[]⟩, .nilFunc, .nilFunc, .nilFunc, .nilFunc] 61))) := hid (C2.out.alloc C2.out.size _))
    | (refine stG HS.out HO.out (by rfl) _ _ (by rfl) _ (by rfl) (by rfl) 61 zrow X5 HZ.out ?_
       intro w8 X8 hw8
       have K8 := set_up K5 hw8 C2.out.size))
  obtain ⟨gr, hgr⟩ : ∃ z, w2.heap.size = z := ⟨_, rfl⟩
  rw [hgr] at X8
  simp only [hgr]
  have XO := hid (box_below X2.out K8.out)
  have H8 := TabX.below hH K8.out
  have bz : ∀ W, Below w8.heap.size w8 W → W.cell? ⟨g, 0, none⟩ = some (.int .i64 (k : Int)) ∧ W.cell? ⟨g, 1, none⟩ = some (.int .i64 (a : Int)) ∧ W.cell? ⟨g, 2, none⟩ = some (.int .i64 (b : Int)) ∧ W.cell? ⟨g, 3, none⟩ = some (.string (bs t)) ∧ W.cell? ⟨gr, 1, none⟩ = some (.string (bs wd)) ∧ W.cell? ⟨gr, 3, none⟩ = some (.func (.func f1) A #[]) := fun W h => ⟨(box_below XO.out h).cell 0, (box_below XO.out h).cell 1, (box_below XO.out h).cell 2, (box_below XO.out h).cell 3, ((box_below X8.out h).cell 1).trans c1, ((box_below X8.out h).cell 3).trans c3⟩
  clear z0 X5 K5 hw8
  go_region_held3 (fun W => W.cell? ⟨g, 0, none⟩ = some (.int .i64 (k : Int)) ∧ W.cell? ⟨g, 1, none⟩ = some (.int .i64 (a : Int)) ∧ W.cell? ⟨g, 2, none⟩ = some (.int .i64 (b : Int)) ∧ W.cell? ⟨g, 3, none⟩ = some (.string (bs t)) ∧ W.cell? ⟨gr, 1, none⟩ = some (.string (bs wd)) ∧ W.cell? ⟨gr, 3, none⟩ = some (.func (.func f1) A #[])) (exact bz _ (by repeat (first | exact Below.refl _ _ | exact b5 | with_reducible apply bel_d | with_reducible apply bel_a))) ((first
    | ((with_reducible refine (HP.out w8.drew (TabX.below H8 (by repeat (first | exact Below.refl _ _ | with_reducible apply bel_d)))).mono ?_)
       rintro e w5 ⟨rfl, C5⟩
       have b5 : Below w8.heap.size w8 w5 := Below.trans (by repeat (first | exact Below.refl _ _ | with_reducible apply bel_d)) (C5.out.mono (Below.size (by repeat (first | exact Below.refl _ _ | with_reducible apply bel_d)))))))
  all_goals
    go_wp2
    go_ret
    exact ⟨rfl, hgb ▸ bel_3 (bel_3 K3 K8) (hid b5)⟩
end L19
end Go.Proofs.YteeienmigoebmaaGreatDoor
