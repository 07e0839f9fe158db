import Derived.Test.YtggcampdkgfmgaaGreatJB
import Derived.BigQuiet
import Derived.Deep.QuietTactic
namespace Go.Proofs.YtggcampdkgfmgaaGreat.L9
open Go.RowKit

/-- A byte without its highest bit. -/
def lowB (c : UInt8) : UInt8 := UInt8.ofNat (c.toNat % 128)
/-- Is it a letter from A to Z? -/
def grB (c : UInt8) : Bool := decide (65 ≤ c.toNat) && decide (c.toNat ≤ 90)
def s1 (t : Tm) (c : UInt8) : UInt8 := if hasN t.f 33 = true then lowB c else c
def s2 (t : Tm) (c : UInt8) : UInt8 := if (grB c && hasN t.f 37 && hasN t.f 59) = true then UInt8.ofNat (c.toNat + 32) else c
/-- A byte as it comes in. -/
def stripB (t : Tm) (c : UInt8) : UInt8 := s2 t (s1 t c)
/-- A byte with the ends of lines turned; false: it is left out. -/
def turnB (t : Tm) (c : UInt8) : UInt8 × Bool :=
  if c = 13 ∧ hasN t.f 35 = true then (0, false) else if c = 13 ∧ hasN t.f 36 = true then (10, true) else if c = 10 ∧ hasN t.f 34 = true then (13, true) else (c, true)
/-- A byte as it is read. -/
def markB (t : Tm) (c : UInt8) : List UInt8 := if c = 255 ∧ hasN t.f 31 = true ∧ hasN t.f 33 = false then [c, c] else [c]
def turnL (t : Tm) (c : UInt8) : List UInt8 := if (turnB t c).2 = true then [(turnB t c).1] else []
def stripL (t : Tm) (c : UInt8) : List UInt8 := [stripB t c]
def mapR1 (t : Tm) (c : UInt8) : List UInt8 := if (turnB t (stripB t c)).2 = true then markB t (turnB t (stripB t c)).1 else []
/-- Bytes as they are read. -/
def mapB (t : Tm) (bs : List UInt8) : List UInt8 := bs.flatMap (mapR1 t)
theorem map_three (t : Tm) (bs : List UInt8) : ((bs.flatMap (stripL t)).flatMap (turnL t)).flatMap (markB t) = mapB t bs := by
  unfold mapB
  induction bs with
  | nil => rfl
  | cons c l ih =>
    rw [List.flatMap_cons, List.flatMap_cons, ← ih]
    simp only [stripL, List.flatMap_append, List.flatMap_cons, List.cons_append, List.nil_append]
    congr 1
    unfold turnL mapR1
    split <;> simp
theorem flat_len {f : UInt8 → List UInt8} {k : Nat} (h : ∀ c, (f c).length ≤ k) (bs : List UInt8) : (bs.flatMap f).length ≤ k * bs.length := by
  induction bs with
  | nil => simp
  | cons c l ih =>
    have := h c
    simp only [List.flatMap_cons, List.length_append, List.length_cons, Nat.mul_add, Nat.mul_one]
    omega
theorem stripL_len (t : Tm) (c : UInt8) : (stripL t c).length ≤ 2 := by simp [stripL]
theorem turnL_len1 (t : Tm) (c : UInt8) : (turnL t c).length ≤ 1 := by unfold turnL; split <;> simp
theorem turnL_len (t : Tm) (c : UInt8) : (turnL t c).length ≤ 2 := by have := turnL_len1 t c; omega
theorem markB_len (t : Tm) (c : UInt8) : (markB t c).length ≤ 2 := by unfold markB; split <;> simp
theorem mapR1_len (t : Tm) (c : UInt8) : (mapR1 t c).length ≤ 2 := by
  unfold mapR1
  split
  · exact markB_len _ _
  · simp
theorem map_len (t : Tm) (bs : List UInt8) : (mapB t bs).length ≤ 2 * bs.length := flat_len (mapR1_len t) bs
theorem low_all : (List.range 256).all (fun n => decide (bits .andNot .u8 (n : Int) 128 = ((n % 128 : Nat) : Int))) = true := by kernel_rfl
theorem low_v (c : UInt8) : bits .andNot .u8 (c.toNat : Int) 128 = ((lowB c).toNat : Int) := by
  have h := List.all_eq_true.1 low_all c.toNat (List.mem_range.2 c.toNat_lt)
  have h2 := of_decide_eq_true h
  rw [h2]
  unfold lowB
  have := c.toNat_lt
  simp
  omega
theorem low_r (c : UInt8) : (c.toNat : Int).tmod 128 = ((lowB c).toNat : Int) := by
  rw [Int.tmod_eq_emod_of_nonneg (by omega)]
  unfold lowB
  have := c.toNat_lt
  simp
  omega
theorem u8_lt (c : UInt8) : (c.toNat : Int) < 256 := by have := c.toNat_lt; omega
theorem small_v {c : UInt8} (h : grB c = true) : ((UInt8.ofNat (c.toNat + 32)).toNat : Int) = (c.toNat : Int) + 32 := by
  simp [grB] at h
  simp
  omega
theorem u8_ne {c d : UInt8} (h : ¬ c = d) : ((c.toNat : Int) == (d.toNat : Int)) = false := by
  simp only [beq_eq_false_iff_ne, ne_eq]
  intro e
  exact h (UInt8.toNat_inj.1 (by omega))
theorem call_b {f : Nat} {w : World} {args : Array Value} {b b' : Bool} (h : Calls Tryz.prog f args w fun e w' => e = .returned (.bool b) ∧ Hid (Below w.heap.size w w')) (hb : b = b') : Calls Tryz.prog f args w fun e w' => e = .returned (.bool b') ∧ Hid (Below w.heap.size w w') := by
  subst hb
  exact h

theorem isGreat_any (w : World) (c : UInt8) : Calls Tryz.prog 64 #[.int .u8 (c.toNat : Int)] w fun e w' => e = .returned (.bool (grB c)) ∧ w' = w := by
  have hg : grB c = (decide ((65 : Int) ≤ (c.toNat : Int)) && decide ((c.toNat : Int) ≤ 90)) := by
    unfold grB
    congr 1 <;> exact decide_eq_decide.2 (by omega)
  rw [hg]
  generalize (c.toNat : Int) = C
  by_cases h1 : (65 : Int) ≤ C
  · by_cases h2 : C ≤ 90
    · go_enter Tryz.func64, Tryz.ntmps64
      go_wp2
      go_ret
      exact ⟨by simp [h1, h2], rfl⟩
    · go_enter Tryz.func64, Tryz.ntmps64
      go_wp2
      go_ret
      exact ⟨by simp [h2], rfl⟩
  · go_enter Tryz.func64, Tryz.ntmps64
    go_wp2
    go_ret
    exact ⟨by rw [decide_eq_false (show ¬ (65 : Int) ≤ C by omega)]; rfl, rfl⟩
theorem great_b (w : World) {c : UInt8} {C : Int} {b : Bool} (hC : (c.toNat : Int) = C) (hb : grB c = b) : Calls Tryz.prog 64 #[.int .u8 C] w fun e w' => e = .returned (.bool b) ∧ w' = w := by
  subst hC
  subst hb
  exact isGreat_any w c
theorem turn13 (t : Tm) : turnB t 13 = if hasN t.f 35 = true then (0, false) else if hasN t.f 36 = true then (10, true) else (13, true) := by
  unfold turnB
  cases hasN t.f 35 <;> cases hasN t.f 36 <;> cases hasN t.f 34 <;> rfl
theorem turn10 (t : Tm) : turnB t 10 = if hasN t.f 34 = true then (13, true) else (10, true) := by
  unfold turnB
  cases hasN t.f 34 <;> rfl
theorem turn_no (t : Tm) {c : UInt8} (h13 : ¬ c = 13) (h10 : ¬ c = 10) : turnB t c = (c, true) := by simp [turnB, h13, h10]
theorem fin_s2 {t : Tm} (d : UInt8) {a b e : Bool} (hg : grB d = a) (h37 : hasN t.f 37 = b) (h59 : hasN t.f 59 = e) {v : Int} (hv : (a = true → (65 : Int) ≤ (d.toNat : Int) ∧ (d.toNat : Int) ≤ 90) → 0 ≤ (d.toNat : Int) → (d.toNat : Int) < 256 → v = if (a && b && e) = true then (d.toNat : Int) + 32 else (d.toNat : Int)) : Ending.returned (.int .u8 v) = .returned (.int .u8 ((s2 t d).toNat : Int)) := by
  have hv := hv (fun h => by subst hg; simp [grB] at h; omega) (by omega) (u8_lt d)
  subst hg h37 h59 hv
  unfold s2
  split
  · rename_i h
    have h1 : grB d = true := by
      cases hq : grB d
      · simp [hq] at h
      · rfl
    rw [small_v h1]
  · rfl
theorem fin_s2r {t : Tm} (d : UInt8) {b e : Bool} (h37 : hasN t.f 37 = b) (h59 : hasN t.f 59 = e) {v : Int} (hv : 0 ≤ (d.toNat : Int) → (d.toNat : Int) < 256 → v = if b = true ∧ e = true ∧ (65 : Int) ≤ (d.toNat : Int) ∧ (d.toNat : Int) ≤ 90 then (d.toNat : Int) + 32 else (d.toNat : Int)) : Ending.returned (.int .u8 v) = .returned (.int .u8 ((s2 t d).toNat : Int)) := by
  refine fin_s2 d rfl h37 h59 fun _ h1 h2 => ?_
  have hv := hv h1 h2
  subst hv
  have hg : grB d = decide ((65 : Int) ≤ (d.toNat : Int) ∧ (d.toNat : Int) ≤ 90) := by
    unfold grB
    rw [← Bool.decide_and]
    exact decide_eq_decide.2 (by omega)
  rw [hg]
  cases b <;> cases e <;> simp
end Go.Proofs.YtggcampdkgfmgaaGreat.L9
namespace Go.Proofs.YtggcampdkgfmgaaGreat.L9
open Go.RowKit

set_option maxRecDepth 100000 in
set_option maxHeartbeats 2000000 in
theorem strip_any (w : World) (t : Tm) (ht : t.Ok) (c : UInt8) : Calls Tryz.prog 27 #[.agg t.cs, .int .u8 (c.toNat : Int)] w fun e w' => e = .returned (.int .u8 ((stripB t c).toNat : Int)) ∧ Hid (Below w.heap.size w w') := by
  have hs := cs_size ht.len
  have K0 : Hid (Below w.heap.size w (w.alloc (.cells t.cs 26))) := hid ((Below.refl _ w).alloc (Nat.le_refl _) _)
  unfold stripB
  have hlow := low_v c
  obtain ⟨d, hd⟩ : ∃ d, s1 t c = d := ⟨_, rfl⟩
  rw [hd]
  cases h33 : hasN t.f 33
  · simp only [s1, h33, Bool.false_eq_true, if_false] at hd
    subst hd
    cases hg : grB c
    all_goals
      cases h37 : hasN t.f 37
      all_goals
        cases h59 : hasN t.f 59
        all_goals
          go_enter Tryz.func27, Tryz.ntmps27
          go_wp2_with (first
              | (refine bx26 (by rfl) _ (by rfl) _ (by rfl) hs ?_
                 intro G0)
              | (refine ld26 (by rfl) _ (by rfl) _ (by rfl) t.cs G0.out hs ?_)
              | (go_at_call 28
                 (first | (with_reducible refine (has_b _ ht h33).mono ?_) | (with_reducible refine (has_b _ ht h37).mono ?_) | (with_reducible refine (has_b _ ht h59).mono ?_))
                 rintro e u1 ⟨rfl, k⟩
                 replace G0 := hid (box_below G0.out k.out)
                 replace K0 := bel_t K0 k.out
                 clear k)
              | (go_at_call 64
                 (with_reducible refine (great_b _ rfl hg).mono ?_)
                 rintro e u1 ⟨rfl, rfl⟩))
          go_ret
          exact ⟨fin_s2 c hg h37 h59 (by intro h0 h1 h2; simp <;> (first | omega | (have := h0 rfl; omega))), K0⟩
  · simp only [s1, h33, if_true] at hd
    subst hd
    cases hg : grB (lowB c)
    all_goals
      cases h37 : hasN t.f 37
      all_goals
        cases h59 : hasN t.f 59
        all_goals
          go_enter Tryz.func27, Tryz.ntmps27
          go_wp2_with (first
              | (refine bx26 (by rfl) _ (by rfl) _ (by rfl) hs ?_
                 intro G0)
              | (refine ld26 (by rfl) _ (by rfl) _ (by rfl) t.cs G0.out hs ?_)
              | (go_at_call 28
                 (first | (with_reducible refine (has_b _ ht h33).mono ?_) | (with_reducible refine (has_b _ ht h37).mono ?_) | (with_reducible refine (has_b _ ht h59).mono ?_))
                 rintro e u1 ⟨rfl, k⟩
                 replace G0 := hid (box_below G0.out k.out)
                 replace K0 := bel_t K0 k.out
                 clear k)
              | (go_at_call 64
                 (with_reducible refine (great_b _ rfl hg).mono ?_)
                 rintro e u1 ⟨rfl, rfl⟩))
          go_ret
          exact ⟨fin_s2 (lowB c) hg h37 h59 (by intro h0 h1 h2; simp <;> (first | omega | (have := h0 rfl; omega))), K0⟩
set_option maxRecDepth 100000 in
set_option maxHeartbeats 2000000 in
theorem turn_any (w : World) (t : Tm) (ht : t.Ok) (c : UInt8) : Calls Tryz.prog 101 #[.agg t.cs, .int .u8 (c.toNat : Int)] w fun e w' => e = .returned (.tuple #[.int .u8 ((turnB t c).1.toNat : Int), .bool (turnB t c).2]) ∧ Hid (Below w.heap.size w w') := by
  have hs := cs_size ht.len
  have K0 : Hid (Below w.heap.size w (w.alloc (.cells t.cs 26))) := hid ((Below.refl _ w).alloc (Nat.le_refl _) _)
  by_cases h13 : c = 13
  · subst h13
    cases h35 : hasN t.f 35
    all_goals
      cases h36 : hasN t.f 36
      all_goals
        have hr := hid (turn13 t)
        rw [show ((13 : UInt8).toNat : Int) = 13 from rfl]
        go_enter Tryz.func101, Tryz.ntmps101
        go_wp2_with (first
            | (refine bx26 (by rfl) _ (by rfl) _ (by rfl) hs ?_
               intro G0)
            | (refine ld26 (by rfl) _ (by rfl) _ (by rfl) t.cs G0.out hs ?_)
            | (go_at_call 28
               (first | (with_reducible refine (has_b _ ht h35).mono ?_) | (with_reducible refine (has_b _ ht h36).mono ?_))
               rintro e u1 ⟨rfl, k⟩
               replace G0 := hid (box_below G0.out k.out)
               replace K0 := bel_t K0 k.out
               clear k))
        go_ret2
        exact ⟨by rw [hr.out]; simp [h35, h36], K0⟩
  · by_cases h10 : c = 10
    · subst h10
      cases h34 : hasN t.f 34
      all_goals
        have hr := hid (turn10 t)
        rw [show ((10 : UInt8).toNat : Int) = 10 from rfl]
        go_enter Tryz.func101, Tryz.ntmps101
        go_wp2_with (first
            | (refine bx26 (by rfl) _ (by rfl) _ (by rfl) hs ?_
               intro G0)
            | (refine ld26 (by rfl) _ (by rfl) _ (by rfl) t.cs G0.out hs ?_)
            | (go_at_call 28
               (first | (with_reducible refine (has_b _ ht h34).mono ?_))
               rintro e u1 ⟨rfl, k⟩
               replace G0 := hid (box_below G0.out k.out)
               replace K0 := bel_t K0 k.out
               clear k))
        go_ret2
        exact ⟨by rw [hr.out]; simp [h34], K0⟩
    · have e1 : ((c.toNat : Int) == 13) = false := u8_ne h13
      have e2 : ((c.toNat : Int) == 10) = false := u8_ne h10
      have hr := hid (turn_no t h13 h10)
      have hq : Hid (((turnB t c).1.toNat : Int) = (c.toNat : Int)) := hid (by rw [hr.out])
      generalize (c.toNat : Int) = C at e1 e2 hq
      go_enter Tryz.func101, Tryz.ntmps101
      go_wp2_with (first
          | (refine bx26 (by rfl) _ (by rfl) _ (by rfl) hs ?_
             intro G0)
          | (refine ld26 (by rfl) _ (by rfl) _ (by rfl) t.cs G0.out hs ?_))
      go_ret2
      exact ⟨by rw [hq.out, hr.out]; rfl, K0⟩
end Go.Proofs.YtggcampdkgfmgaaGreat.L9
namespace Go.Proofs.YtggcampdkgfmgaaGreat.L9
open Go.RowKit

theorem turn_b (w : World) {t : Tm} (ht : t.Ok) {c x : UInt8} {ok : Bool} (h : turnB t c = (x, ok)) : Calls Tryz.prog 101 #[.agg t.cs, .int .u8 (c.toNat : Int)] w fun e w' => e = .returned (.tuple #[.int .u8 (x.toNat : Int), .bool ok]) ∧ Hid (Below w.heap.size w w') := by
  have := turn_any w t ht c
  rwa [h] at this
theorem strip_b (w : World) {t : Tm} (ht : t.Ok) {c x : UInt8} (h : stripB t c = x) : Calls Tryz.prog 27 #[.agg t.cs, .int .u8 (c.toNat : Int)] w fun e w' => e = .returned (.int .u8 (x.toNat : Int)) ∧ Hid (Below w.heap.size w w') := by
  subst h
  exact strip_any w t ht c
theorem mark_two {t : Tm} {c : UInt8} (hc : c = 255) (h1 : hasN t.f 31 = true) (h3 : hasN t.f 33 = false) : markB t c = [255, 255] := by simp [markB, hc, h1, h3]
theorem mark_one {t : Tm} {c : UInt8} (h : ¬ (c = 255 ∧ hasN t.f 31 = true ∧ hasN t.f 33 = false)) : markB t c = [c] := by simp only [markB, h, if_false]
set_option maxRecDepth 100000 in
set_option maxHeartbeats 2000000 in
theorem mark_any (w : World) (t : Tm) (ht : t.Ok) (c : UInt8) : Calls Tryz.prog 67 #[.agg t.cs, .int .u8 (c.toNat : Int)] w (Ret w (markB t c)) := by
  have hs := cs_size ht.len
  have K0 : Hid (Below w.heap.size w (w.alloc (.cells t.cs 26))) := hid ((Below.refl _ w).alloc (Nat.le_refl _) _)
  by_cases hc : c = 255
  · subst hc
    rw [show ((255 : UInt8).toNat : Int) = 255 from rfl]
    cases h31 : hasN t.f 31
    · rw [mark_one (t := t) (c := 255) (by simp [h31])]
      go_enter Tryz.func67, Tryz.ntmps67
      go_wp2_with (first
          | (refine bx26 (by rfl) _ (by rfl) _ (by rfl) hs ?_
             intro G0)
          | (refine ld26 (by rfl) _ (by rfl) _ (by rfl) t.cs G0.out hs ?_)
          | (go_at_call 28
             (first | (with_reducible refine (has_b _ ht h31).mono ?_) | (with_reducible refine (has_b _ ht h33).mono ?_))
             rintro e u1 ⟨rfl, k⟩
             replace G0 := hid (box_below G0.out k.out)
             replace K0 := bel_t K0 k.out
             clear k))
      go_ret
      exact ret_lit rfl rfl (by decide) (by first | rfl | simp) K0
    · cases h33 : hasN t.f 33
      · rw [mark_two rfl h31 h33]
        go_enter Tryz.func67, Tryz.ntmps67
        go_wp2_with (first
            | (refine bx26 (by rfl) _ (by rfl) _ (by rfl) hs ?_
               intro G0)
            | (refine ld26 (by rfl) _ (by rfl) _ (by rfl) t.cs G0.out hs ?_)
            | (go_at_call 28
               (first | (with_reducible refine (has_b _ ht h31).mono ?_) | (with_reducible refine (has_b _ ht h33).mono ?_))
               rintro e u1 ⟨rfl, k⟩
               replace G0 := hid (box_below G0.out k.out)
               replace K0 := bel_t K0 k.out
               clear k))
        go_ret
        exact ret_lit rfl rfl (by decide) (by first | rfl | simp) K0
      · rw [mark_one (t := t) (c := 255) (by simp [h33])]
        go_enter Tryz.func67, Tryz.ntmps67
        go_wp2_with (first
            | (refine bx26 (by rfl) _ (by rfl) _ (by rfl) hs ?_
               intro G0)
            | (refine ld26 (by rfl) _ (by rfl) _ (by rfl) t.cs G0.out hs ?_)
            | (go_at_call 28
               (first | (with_reducible refine (has_b _ ht h31).mono ?_) | (with_reducible refine (has_b _ ht h33).mono ?_))
               rintro e u1 ⟨rfl, k⟩
               replace G0 := hid (box_below G0.out k.out)
               replace K0 := bel_t K0 k.out
               clear k))
        go_ret
        exact ret_lit rfl rfl (by decide) (by first | rfl | simp) K0
  · rw [mark_one (t := t) (by simp [hc])]
    have e1 : ((c.toNat : Int) == 255) = false := u8_ne hc
    have hv : Hid ((bv [c]).toArray = #[.int .u8 (c.toNat : Int)]) := hid rfl
    generalize (c.toNat : Int) = C at e1 hv
    go_enter Tryz.func67, Tryz.ntmps67
    go_wp2_with (first
        | (refine bx26 (by rfl) _ (by rfl) _ (by rfl) hs ?_
           intro G0)
        | (refine ld26 (by rfl) _ (by rfl) _ (by rfl) t.cs G0.out hs ?_))
    go_ret
    exact ret_lit (n := 1) hv.out rfl (by decide) (by first | rfl | simp) K0
set_option maxRecDepth 100000 in
theorem stripped_any (w : World) (t : Tm) (ht : t.Ok) (c : UInt8) : Calls Tryz.prog 65 #[.agg t.cs, .int .u8 (c.toNat : Int)] w (Ret w (stripL t c)) := by
  have hs := cs_size ht.len
  have K0 : Hid (Below w.heap.size w (w.alloc (.cells t.cs 26))) := hid ((Below.refl _ w).alloc (Nat.le_refl _) _)
  unfold stripL
  obtain ⟨d, hd⟩ : ∃ d, stripB t c = d := ⟨_, rfl⟩
  rw [hd]
  have hv : Hid ((bv [d]).toArray = #[.int .u8 (d.toNat : Int)]) := hid rfl
  go_enter Tryz.func65, Tryz.ntmps65
  go_wp2_with (first
      | (refine bx26 (by rfl) _ (by rfl) _ (by rfl) hs ?_
         intro G0)
      | (refine ld26 (by rfl) _ (by rfl) _ (by rfl) t.cs G0.out hs ?_)
      | (go_at_call 27
         (with_reducible refine (strip_b _ ht hd).mono ?_)
         rintro e u1 ⟨rfl, k⟩
         replace K0 := bel_t K0 k.out
         clear k))
  go_ret
  exact ret_lit (n := 1) hv.out rfl (by decide) (by first | rfl | simp) K0
set_option maxRecDepth 100000 in
theorem turned_any (w : World) (t : Tm) (ht : t.Ok) (c : UInt8) : Calls Tryz.prog 66 #[.agg t.cs, .int .u8 (c.toNat : Int)] w (Ret w (turnL t c)) := by
  have hs := cs_size ht.len
  have K0 : Hid (Below w.heap.size w (w.alloc (.cells t.cs 26))) := hid ((Below.refl _ w).alloc (Nat.le_refl _) _)
  unfold turnL
  obtain ⟨⟨d, ok⟩, hd⟩ : ∃ z, turnB t c = z := ⟨_, rfl⟩
  rw [hd]
  have hv : Hid ((bv [d]).toArray = #[.int .u8 (d.toNat : Int)]) := hid rfl
  cases ok
  · rw [if_neg (by simp)]
    go_enter Tryz.func66, Tryz.ntmps66
    go_wp2_with (first
        | (refine bx26 (by rfl) _ (by rfl) _ (by rfl) hs ?_
           intro G0)
        | (refine ld26 (by rfl) _ (by rfl) _ (by rfl) t.cs G0.out hs ?_)
        | (go_at_call 101
           (with_reducible refine (turn_b _ ht hd).mono ?_)
           rintro e u1 ⟨rfl, k⟩
           replace K0 := bel_t K0 k.out
           clear k))
    go_ret
    exact ret_nil K0
  · rw [if_pos rfl]
    go_enter Tryz.func66, Tryz.ntmps66
    go_wp2_with (first
        | (refine bx26 (by rfl) _ (by rfl) _ (by rfl) hs ?_
           intro G0)
        | (refine ld26 (by rfl) _ (by rfl) _ (by rfl) t.cs G0.out hs ?_)
        | (go_at_call 101
           (with_reducible refine (turn_b _ ht hd).mono ?_)
           rintro e u1 ⟨rfl, k⟩
           replace K0 := bel_t K0 k.out
           clear k))
    go_ret
    exact ret_lit (n := 1) hv.out rfl (by decide) (by first | rfl | simp) K0
end Go.Proofs.YtggcampdkgfmgaaGreat.L9
namespace Go.Proofs.YtggcampdkgfmgaaGreat.L9
open Go.RowKit

theorem flat_snoc (f : UInt8 → List UInt8) (bs : List UInt8) (j : Nat) (x : UInt8) (h : bs[j]? = some x) : (bs.take (j + 1)).flatMap f = (bs.take j).flatMap f ++ f x := by
  rw [List.take_add_one, h, List.flatMap_append]
  simp
theorem flat_take {f : UInt8 → List UInt8} (hf : ∀ c, (f c).length ≤ 2) (bs : List UInt8) (j : Nat) : ((bs.take j).flatMap f).length ≤ 2 * bs.length := by
  have h := flat_len hf (bs.take j)
  have : (bs.take j).length ≤ bs.length := by rw [List.length_take]; omega
  omega
set_option maxRecDepth 100000 in
set_option maxHeartbeats 2000000 in
theorem all22 (w : World) (t : Tm) (ht : t.Ok) (A : Option Addr) (n c : Nat) (bs : List UInt8) (hb : Hid (SlB w w.heap.size A c bs)) (hn : bs.length = n) (hm : n ≤ 100000) :
    Calls Tryz.prog 68 #[.func (.func 65) #[] #[], .agg t.cs, .slice A n c] w (Ret w (bs.flatMap (stripL t))) := by
  have hs := cs_size ht.len
  have K0 : Hid (Below w.heap.size w (w.alloc (.cells t.cs 26))) := hid ((Below.refl _ w).alloc (Nat.le_refl _) _)
  have HF := hid (flat_take (stripL_len t) bs)
  go_enter Tryz.func68, Tryz.ntmps68
  go_wp2_with (refine bx26 (by rfl) _ (by rfl) _ (by rfl) hs ?_; intro G0)
  go_loopw [7, 12] (fun l i wr => ∃ j B k d, j ≤ n ∧ i = .int .i64 (j : Int) ∧ l = .slice B k d ∧ Hid (((bs.take j).flatMap (stripL t)).length = k) ∧ Hid (wr.ownsRow w.heap.size 5 1 (.slice B k d) k (bv ((bs.take j).flatMap (stripL t)))) ∧ Hid (Below w.heap.size w wr) ∧ Hid (Box wr w.heap.size 26 t.cs)) (fun _ i _ => n - (intOf i).toNat)
  case atStart => exact ⟨0, none, 0, 0, Nat.zero_le _, rfl, rfl, hid rfl, hid (World.ownsRow_nil _ _ _ _), K0, G0⟩
  case round =>
    obtain ⟨j, B, k, d, hj, rfl, rfl, hk, ho, HK, HG⟩ := hrel
    by_cases hjn : j < n
    · have hj2 : (j : Int) < (n : Int) := by omega
      have S1 := slb_at hb HK
      obtain ⟨b, o, y, rfl, hy, cy⟩ := slb_cell S1.out hn hjn
      have HY := hid hy
      have hk2 : k ≤ 200000 := by have := HF.out j; rw [hk.out] at this; omega
      obtain ⟨Y, hY⟩ : ∃ Y, (y.toNat : Int) = Y := ⟨_, rfl⟩
      rw [hY] at cy
      clear hy
      go_wp2_with (first
        | (refine ld26 (by rfl) _ (by rfl) _ (by rfl) t.cs HG.out hs ?_)
        | (rw [← hY]
           go_at_call 65
           (with_reducible refine (stripped_any _ t ht y).mono ?_)
           rintro e u1 ⟨A1, n1, c1, rfl, hn1, S1, K1⟩
           have HK1 := bel_t HK K1.out
           have HG1 := hid (box_below HG.out K1.out)
           have ho1 := hid (own_keep ho.out K1.out))
        | (at_builtin
           (refine app_own u1 rfl (.tmp 16) (.tmp 20) rfl w.heap.size k d B ((bs.take j).flatMap (stripL t)) rfl ho1 HK1.out.size A1 n1 c1 (stripL t y) rfl S1 hn1.out (by have := stripL_len t y; rw [hn1.out] at this; omega) ?_)
           intro B2 d2 u2 ho2 hk2))
      go_roundw
      case rel => exact ⟨j + 1, B2, k + n1, d2, by omega, by go_num, rfl, hid (by rw [flat_snoc _ _ _ _ HY.out, List.length_append, hk.out, hn1.out]), hid (by rw [flat_snoc _ _ _ _ HY.out]; exact ho2.out), bel_k HK1 hk2, hid (hk2.out.box HG1.out (by decide))⟩
      case measure => simp [intOf]; omega
    · obtain rfl : j = n := by omega
      go_wp2
      go_ret
      rw [List.take_of_length_le (by omega)] at hk ho
      exact ret_own hk.out ho HK
set_option maxRecDepth 100000 in
set_option maxHeartbeats 2000000 in
theorem all23 (w : World) (t : Tm) (ht : t.Ok) (A : Option Addr) (n c : Nat) (bs : List UInt8) (hb : Hid (SlB w w.heap.size A c bs)) (hn : bs.length = n) (hm : n ≤ 100000) :
    Calls Tryz.prog 68 #[.func (.func 66) #[] #[], .agg t.cs, .slice A n c] w (Ret w (bs.flatMap (turnL t))) := by
  have hs := cs_size ht.len
  have K0 : Hid (Below w.heap.size w (w.alloc (.cells t.cs 26))) := hid ((Below.refl _ w).alloc (Nat.le_refl _) _)
  have HF := hid (flat_take (turnL_len t) bs)
  go_enter Tryz.func68, Tryz.ntmps68
  go_wp2_with (refine bx26 (by rfl) _ (by rfl) _ (by rfl) hs ?_; intro G0)
  go_loopw [7, 12] (fun l i wr => ∃ j B k d, j ≤ n ∧ i = .int .i64 (j : Int) ∧ l = .slice B k d ∧ Hid (((bs.take j).flatMap (turnL t)).length = k) ∧ Hid (wr.ownsRow w.heap.size 5 1 (.slice B k d) k (bv ((bs.take j).flatMap (turnL t)))) ∧ Hid (Below w.heap.size w wr) ∧ Hid (Box wr w.heap.size 26 t.cs)) (fun _ i _ => n - (intOf i).toNat)
  case atStart => exact ⟨0, none, 0, 0, Nat.zero_le _, rfl, rfl, hid rfl, hid (World.ownsRow_nil _ _ _ _), K0, G0⟩
  case round =>
    obtain ⟨j, B, k, d, hj, rfl, rfl, hk, ho, HK, HG⟩ := hrel
    by_cases hjn : j < n
    · have hj2 : (j : Int) < (n : Int) := by omega
      have S1 := slb_at hb HK
      obtain ⟨b, o, y, rfl, hy, cy⟩ := slb_cell S1.out hn hjn
      have HY := hid hy
      have hk2 : k ≤ 200000 := by have := HF.out j; rw [hk.out] at this; omega
      obtain ⟨Y, hY⟩ : ∃ Y, (y.toNat : Int) = Y := ⟨_, rfl⟩
      rw [hY] at cy
      clear hy
      go_wp2_with (first
        | (refine ld26 (by rfl) _ (by rfl) _ (by rfl) t.cs HG.out hs ?_)
        | (rw [← hY]
           go_at_call 66
           (with_reducible refine (turned_any _ t ht y).mono ?_)
           rintro e u1 ⟨A1, n1, c1, rfl, hn1, S1, K1⟩
           have HK1 := bel_t HK K1.out
           have HG1 := hid (box_below HG.out K1.out)
           have ho1 := hid (own_keep ho.out K1.out))
        | (at_builtin
           (refine app_own u1 rfl (.tmp 16) (.tmp 20) rfl w.heap.size k d B ((bs.take j).flatMap (turnL t)) rfl ho1 HK1.out.size A1 n1 c1 (turnL t y) rfl S1 hn1.out (by have := turnL_len t y; rw [hn1.out] at this; omega) ?_)
           intro B2 d2 u2 ho2 hk2))
      go_roundw
      case rel => exact ⟨j + 1, B2, k + n1, d2, by omega, by go_num, rfl, hid (by rw [flat_snoc _ _ _ _ HY.out, List.length_append, hk.out, hn1.out]), hid (by rw [flat_snoc _ _ _ _ HY.out]; exact ho2.out), bel_k HK1 hk2, hid (hk2.out.box HG1.out (by decide))⟩
      case measure => simp [intOf]; omega
    · obtain rfl : j = n := by omega
      go_wp2
      go_ret
      rw [List.take_of_length_le (by omega)] at hk ho
      exact ret_own hk.out ho HK
set_option maxRecDepth 100000 in
set_option maxHeartbeats 2000000 in
theorem all13 (w : World) (t : Tm) (ht : t.Ok) (A : Option Addr) (n c : Nat) (bs : List UInt8) (hb : Hid (SlB w w.heap.size A c bs)) (hn : bs.length = n) (hm : n ≤ 100000) :
    Calls Tryz.prog 68 #[.func (.func 67) #[] #[], .agg t.cs, .slice A n c] w (Ret w (bs.flatMap (markB t))) := by
  have hs := cs_size ht.len
  have K0 : Hid (Below w.heap.size w (w.alloc (.cells t.cs 26))) := hid ((Below.refl _ w).alloc (Nat.le_refl _) _)
  have HF := hid (flat_take (markB_len t) bs)
  go_enter Tryz.func68, Tryz.ntmps68
  go_wp2_with (refine bx26 (by rfl) _ (by rfl) _ (by rfl) hs ?_; intro G0)
  go_loopw [7, 12] (fun l i wr => ∃ j B k d, j ≤ n ∧ i = .int .i64 (j : Int) ∧ l = .slice B k d ∧ Hid (((bs.take j).flatMap (markB t)).length = k) ∧ Hid (wr.ownsRow w.heap.size 5 1 (.slice B k d) k (bv ((bs.take j).flatMap (markB t)))) ∧ Hid (Below w.heap.size w wr) ∧ Hid (Box wr w.heap.size 26 t.cs)) (fun _ i _ => n - (intOf i).toNat)
  case atStart => exact ⟨0, none, 0, 0, Nat.zero_le _, rfl, rfl, hid rfl, hid (World.ownsRow_nil _ _ _ _), K0, G0⟩
  case round =>
    obtain ⟨j, B, k, d, hj, rfl, rfl, hk, ho, HK, HG⟩ := hrel
    by_cases hjn : j < n
    · have hj2 : (j : Int) < (n : Int) := by omega
      have S1 := slb_at hb HK
      obtain ⟨b, o, y, rfl, hy, cy⟩ := slb_cell S1.out hn hjn
      have HY := hid hy
      have hk2 : k ≤ 200000 := by have := HF.out j; rw [hk.out] at this; omega
      obtain ⟨Y, hY⟩ : ∃ Y, (y.toNat : Int) = Y := ⟨_, rfl⟩
      rw [hY] at cy
      clear hy
      go_wp2_with (first
        | (refine ld26 (by rfl) _ (by rfl) _ (by rfl) t.cs HG.out hs ?_)
        | (rw [← hY]
           go_at_call 67
           (with_reducible refine (mark_any _ t ht y).mono ?_)
           rintro e u1 ⟨A1, n1, c1, rfl, hn1, S1, K1⟩
           have HK1 := bel_t HK K1.out
           have HG1 := hid (box_below HG.out K1.out)
           have ho1 := hid (own_keep ho.out K1.out))
        | (at_builtin
           (refine app_own u1 rfl (.tmp 16) (.tmp 20) rfl w.heap.size k d B ((bs.take j).flatMap (markB t)) rfl ho1 HK1.out.size A1 n1 c1 (markB t y) rfl S1 hn1.out (by have := markB_len t y; rw [hn1.out] at this; omega) ?_)
           intro B2 d2 u2 ho2 hk2))
      go_roundw
      case rel => exact ⟨j + 1, B2, k + n1, d2, by omega, by go_num, rfl, hid (by rw [flat_snoc _ _ _ _ HY.out, List.length_append, hk.out, hn1.out]), hid (by rw [flat_snoc _ _ _ _ HY.out]; exact ho2.out), bel_k HK1 hk2, hid (hk2.out.box HG1.out (by decide))⟩
      case measure => simp [intOf]; omega
    · obtain rfl : j = n := by omega
      go_wp2
      go_ret
      rw [List.take_of_length_le (by omega)] at hk ho
      exact ret_own hk.out ho HK
end Go.Proofs.YtggcampdkgfmgaaGreat.L9
namespace Go.Proofs.YtggcampdkgfmgaaGreat.L9
open Go.RowKit

section
variable {dst : Option Tmp} {x y : Operand} {ty r : TypeId} {pos : String} {after : Array Edge} {gd : Option (Nat × Bool)} {a : Act}
end
/-- What the bytes are behind so many steps. -/
def st (t : Tm) (bs : List UInt8) : Nat → List UInt8
  | 0 => bs
  | 1 => bs.flatMap (stripL t)
  | 2 => (bs.flatMap (stripL t)).flatMap (turnL t)
  | _ => ((bs.flatMap (stripL t)).flatMap (turnL t)).flatMap (markB t)
theorem st1 (t : Tm) (bs : List UInt8) : (st t bs 0).flatMap (stripL t) = st t bs 1 := rfl
theorem st2 (t : Tm) (bs : List UInt8) : (st t bs 1).flatMap (turnL t) = st t bs 2 := rfl
theorem st3 (t : Tm) (bs : List UInt8) : (st t bs 2).flatMap (markB t) = st t bs 3 := rfl
theorem st_len (t : Tm) (bs : List UInt8) (h : bs.length ≤ 20000) (j : Nat) (hj : j < 3) : (st t bs j).length ≤ 80000 := by
  rcases (by omega : j = 0 ∨ j = 1 ∨ j = 2) with rfl | rfl | rfl
  · show bs.length ≤ _
    omega
  · have := flat_len (stripL_len t) bs
    show (bs.flatMap (stripL t)).length ≤ _
    omega
  · have h1 := flat_len (stripL_len t) bs
    have h2 := flat_len (turnL_len t) (bs.flatMap (stripL t))
    show ((bs.flatMap (stripL t)).flatMap (turnL t)).length ≤ _
    omega
theorem st_end (t : Tm) (bs : List UInt8) : st t bs 3 = mapB t bs := map_three t bs
theorem all22_x (w : World) (t : Tm) (ht : t.Ok) (A : Option Addr) (n c : Nat) (bs cs : List UInt8) (hb : Hid (SlB w w.heap.size A c bs)) (hn : bs.length = n) (hm : n ≤ 100000) (hc : bs.flatMap (stripL t) = cs) :
    Calls Tryz.prog 68 #[.func (.func 65) #[] #[], .agg t.cs, .slice A n c] w (Ret w cs) := by
  subst hc
  exact all22 w t ht A n c bs hb hn hm
theorem all23_x (w : World) (t : Tm) (ht : t.Ok) (A : Option Addr) (n c : Nat) (bs cs : List UInt8) (hb : Hid (SlB w w.heap.size A c bs)) (hn : bs.length = n) (hm : n ≤ 100000) (hc : bs.flatMap (turnL t) = cs) :
    Calls Tryz.prog 68 #[.func (.func 66) #[] #[], .agg t.cs, .slice A n c] w (Ret w cs) := by
  subst hc
  exact all23 w t ht A n c bs hb hn hm
theorem all13_x (w : World) (t : Tm) (ht : t.Ok) (A : Option Addr) (n c : Nat) (bs cs : List UInt8) (hb : Hid (SlB w w.heap.size A c bs)) (hn : bs.length = n) (hm : n ≤ 100000) (hc : bs.flatMap (markB t) = cs) :
    Calls Tryz.prog 68 #[.func (.func 67) #[] #[], .agg t.cs, .slice A n c] w (Ret w cs) := by
  subst hc
  exact all13 w t ht A n c bs hb hn hm
theorem run_index_one {P : Program} (w : World) (t e : TypeId) (len : Nat) (d : TypeDesc) (cs : Array Value) (k : IntKind) (i : Nat) (v : Value) (ht : P.underlying t = some (.array len e)) (hu : P.underlying e = some d) (hd : (match d with | .struct _ | .array _ _ => true | _ => false) = false) (hi : (P.info? e).map (·.size) = some 1) (hlt : i < len) (hv : cs[i]? = some v) :
    (Instr.index t (.agg cs) (.int k (i : Int))).run P w = .ok v w := by
  have hsz : (sizeOf e).run P w = .ok 1 w := by
    cases hq : P.info? e with
    | none => simp [hq] at hi
    | some i0 => simp [sizeOf, typeInfo, hq] at hi ⊢; exact hi
  have h2 : ((i : Int) < len) := by omega
  have hagg : (isAgg e).run P w = .ok false w := by
    unfold isAgg
    rw [Sem.run_bind, run_underlying hu w]
    cases d <;> simp_all
  have hp : (part e cs i).run P w = .ok v w := by simp [part, Sem.run_bind, hagg, hv]
  simp [Instr.index, asIntOf, run_underlying ht, hsz, hp]
  intro h
  omega
theorem Tryz.size46 : (Tryz.prog.info? 135).map (·.size) = some 1 := by kernel_rfl
theorem index47 (j : Nat) (hj : j < 3) (v : Value) (h : (#[.func (.func 65) #[] #[], .func (.func 66) #[] #[], .func (.func 67) #[] #[]] : Array Value)[j]? = some v) : ∀ W : World, (Instr.index 136 (.agg #[.func (.func 65) #[] #[], .func (.func 66) #[] #[], .func (.func 67) #[] #[]]) (.int .i64 (j : Int))).run Tryz.prog W = .ok v W := fun W =>
  run_index_one W 136 135 3 _ _ .i64 j v Tryz.underlying136 Tryz.underlying135 rfl Tryz.size46 hj h
theorem index47_0 (W : World) : (Instr.index 136 (.agg #[.func (.func 65) #[] #[], .func (.func 66) #[] #[], .func (.func 67) #[] #[]]) (.int .i64 0)).run Tryz.prog W = .ok (.func (.func 65) #[] #[]) W := index47 0 (by omega) _ rfl W
theorem index47_1 (W : World) : (Instr.index 136 (.agg #[.func (.func 65) #[] #[], .func (.func 66) #[] #[], .func (.func 67) #[] #[]]) (.int .i64 1)).run Tryz.prog W = .ok (.func (.func 66) #[] #[]) W := index47 1 (by omega) _ rfl W
theorem index47_2 (W : World) : (Instr.index 136 (.agg #[.func (.func 65) #[] #[], .func (.func 66) #[] #[], .func (.func 67) #[] #[]]) (.int .i64 2)).run Tryz.prog W = .ok (.func (.func 67) #[] #[]) W := index47 2 (by omega) _ rfl W
set_option maxRecDepth 100000 in
set_option maxHeartbeats 2000000 in
theorem map_any (w : World) (t : Tm) (ht : t.Ok) (A : Option Addr) (n c : Nat) (bs : List UInt8) (hb : Hid (SlB w w.heap.size A c bs)) (hn : bs.length = n) (hm : n ≤ 20000) :
    Calls Tryz.prog 29 #[.agg t.cs, .slice A n c] w (Ret w (mapB t bs)) := by
  have hs := cs_size ht.len
  have K0 : Hid (Below w.heap.size w (w.alloc (.cells t.cs 26))) := hid ((Below.refl _ w).alloc (Nat.le_refl _) _)
  have HL := hid (st_len t bs (by omega))
  go_enter Tryz.func29, Tryz.ntmps29
  go_wp2_with (refine bx26 (by rfl) _ (by rfl) _ (by rfl) hs ?_; intro G0)
  go_loopw [1, 8] (fun b i wr => ∃ (j : Nat) (J : Int) (B : Option Addr) (k d : Nat), j ≤ 3 ∧ (j : Int) = J ∧ i = .int .i64 J ∧ b = .slice B k d ∧ Hid ((st t bs j).length = k) ∧ Hid (SlB wr wr.heap.size B d (st t bs j)) ∧ Hid (Below w.heap.size w wr) ∧ Hid (Box wr w.heap.size 26 t.cs)) (fun _ i _ => 3 - (intOf i).toNat)
  case atStart => exact ⟨0, 0, A, n, c, by omega, rfl, rfl, rfl, hid hn, slb_at hb K0, K0, G0⟩
  case round =>
    obtain ⟨j, J, B, k, d, hj, hJ, rfl, rfl, hk, hS, HK, HG⟩ := hrel
    rcases (by omega : j = 0 ∨ j = 1 ∨ j = 2 ∨ j = 3) with rfl | rfl | rfl | rfl
    · obtain rfl : J = 0 := by omega
      have hk2 := hk.out
      have hx := index47_0
      have hl := HL.out 0 (by omega)
      go_wp2_with (first
        | (refine ld26 (by rfl) _ (by rfl) _ (by rfl) t.cs HG.out hs ?_)
        | (go_at_call 68
           (with_reducible refine (all22_x _ t ht B k d (st t bs 0) (st t bs 1) hS hk2 (by rw [hk2] at hl; omega) (st1 t bs)).mono ?_)
           rintro e u1 ⟨B1, k1, d1, rfl, hk1, S1, K1⟩
           have HK1 := bel_t HK K1.out
           have HG1 := hid (box_below HG.out K1.out)))
      go_roundw
      case rel => exact ⟨1, 1, B1, k1, d1, by omega, rfl, rfl, rfl, hk1, S1, HK1, HG1⟩
      case measure => simp [intOf]
    · obtain rfl : J = 1 := by omega
      have hk2 := hk.out
      have hx := index47_1
      have hl := HL.out 1 (by omega)
      go_wp2_with (first
        | (refine ld26 (by rfl) _ (by rfl) _ (by rfl) t.cs HG.out hs ?_)
        | (go_at_call 68
           (with_reducible refine (all23_x _ t ht B k d (st t bs 1) (st t bs 2) hS hk2 (by rw [hk2] at hl; omega) (st2 t bs)).mono ?_)
           rintro e u1 ⟨B1, k1, d1, rfl, hk1, S1, K1⟩
           have HK1 := bel_t HK K1.out
           have HG1 := hid (box_below HG.out K1.out)))
      go_roundw
      case rel => exact ⟨2, 2, B1, k1, d1, by omega, rfl, rfl, rfl, hk1, S1, HK1, HG1⟩
      case measure => simp [intOf]
    · obtain rfl : J = 2 := by omega
      have hk2 := hk.out
      have hx := index47_2
      have hl := HL.out 2 (by omega)
      go_wp2_with (first
        | (refine ld26 (by rfl) _ (by rfl) _ (by rfl) t.cs HG.out hs ?_)
        | (go_at_call 68
           (with_reducible refine (all13_x _ t ht B k d (st t bs 2) (st t bs 3) hS hk2 (by rw [hk2] at hl; omega) (st3 t bs)).mono ?_)
           rintro e u1 ⟨B1, k1, d1, rfl, hk1, S1, K1⟩
           have HK1 := bel_t HK K1.out
           have HG1 := hid (box_below HG.out K1.out)))
      go_roundw
      case rel => exact ⟨3, 3, B1, k1, d1, by omega, rfl, rfl, rfl, hk1, S1, HK1, HG1⟩
      case measure => simp [intOf]
    · obtain rfl : J = 3 := by omega
      go_wp2
      go_ret
      rw [st_end] at hk hS
      exact ⟨B, k, d, rfl, hk, hS, HK⟩
attribute [local go_sem ↓] wq_ld26
attribute [local go_sem] isP_v blkV_v aggV_v
end Go.Proofs.YtggcampdkgfmgaaGreat.L9
