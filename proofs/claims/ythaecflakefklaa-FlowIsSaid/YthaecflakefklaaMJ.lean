import Derived.Test.YthaecflakefklaaGB
namespace Go.Proofs.Ythaecflakefklaa
open Go.RowKit

def charB (op : Int) : Bool := decide (1 ≤ op) && decide (op ≤ 18)
set_option maxRecDepth 100000 in
theorem isChar_any (w : World) (op : Int) : Calls Try.prog 30 #[.int .i64 op] w fun e w' => e = .returned (.bool (charB op)) ∧ w' = w := by
  rcases (by omega : op < 1 ∨ (1 ≤ op ∧ op ≤ 18) ∨ 18 < op) with h | h | h
  all_goals
    go_enter Try.func30, Try.ntmps30
    go_wp2
    go_ret
    simp [charB]
    try omega
theorem isChar_b (w : World) {op : Int} {b : Bool} (hg : charB op = b) : Calls Try.prog 30 #[.int .i64 op] w fun e w' => e = .returned (.bool b) ∧ w' = w := by
  subst hg
  exact isChar_any w op
/-- The character that means something. -/
def chV (t : Tm) (op : Int) : UInt8 := if charB op = true ∧ t.c.getD op.toNat 0 ≠ 255 then t.c.getD op.toNat 0 else 0
def chB (t : Tm) (op : Int) : Bool := charB op && decide (t.c.getD op.toNat 0 ≠ 255)
theorem char_no {t : Tm} {op : Int} (h : charB op = false) : chV t op = 0 ∧ chB t op = false := by simp [chV, chB, h]
theorem char_off {t : Tm} {op : Int} (h : t.c.getD op.toNat 0 = 255) : chV t op = 0 ∧ chB t op = false := by
  unfold chV chB
  rw [if_neg (fun k => k.2 h), decide_eq_false (fun k => k h), Bool.and_false]
  exact ⟨rfl, rfl⟩
theorem char_on {t : Tm} {op : Int} (h : charB op = true) (h2 : t.c.getD op.toNat 0 ≠ 255) : chV t op = t.c.getD op.toNat 0 ∧ chB t op = true := by
  unfold chV chB
  rw [if_pos ⟨h, h2⟩, decide_eq_true h2, h]
  exact ⟨rfl, rfl⟩
theorem u8_255 (x : UInt8) : (((x.toNat : Int) == 255) : Bool) = decide (x = 255) := by
  by_cases hx : x = 255
  · subst hx; rfl
  · have : x.toNat ≠ 255 := fun e => hx (UInt8.toNat_inj.1 (by simpa using e))
    simp [hx]
    omega
theorem cs_char2 {t : Tm} (h : t.c.length = 19) (k : Nat) (hk : k < 19) : t.cs[k]? = some (.int .u8 ((t.c.getD k 0).toNat : Int)) := by
  rw [cs_char h k hk]
  simp [List.getD, h, hk]
set_option maxRecDepth 100000 in
set_option maxHeartbeats 2000000 in
theorem char_any (w : World) (t : Tm) (ht : t.Ok) (op : Int) : Calls Try.prog 18 #[.agg t.cs, .int .i64 op] w fun e w' => e = .returned (.tuple #[.int .u8 ((chV t op).toNat : Int), .bool (chB t op)]) ∧ Hid (Below w.heap.size w w') := by
  have hs := cs_size ht.len
  have H1 : Hid (Below w.heap.size w (w.alloc (.cells t.cs 26))) := hid ((Below.refl _ w).alloc (Nat.le_refl _) _)
  have HB : Hid (Box (w.alloc (.cells t.cs 26)) w.heap.size 26 t.cs) := hid (Box.new w 26 t.cs)
  cases hc : charB op
  · have he := hid (char_no (t := t) hc)
    have hr : op < 1 ∨ 18 < op := by simp [charB] at hc; omega
    rcases hr with hr | hr
    all_goals
      go_enter Try.func18, Try.ntmps18
      go_wp2_with (first
        | (refine bx26 (by rfl) _ (by rfl) _ (by rfl) hs ?_
           intro _)
        | (go_at_call 30
           (with_reducible refine (isChar_b _ hc).mono ?_)
           rintro e u1 ⟨rfl, rfl⟩))
      go_ret2
      rw [he.out.1, he.out.2]
      exact ⟨rfl, H1⟩
  · obtain ⟨k, rfl⟩ := Int.eq_ofNat_of_zero_le (show (0 : Int) ≤ op by simp [charB] at hc; omega)
    have hk : 1 ≤ k ∧ k ≤ 18 := by simp [charB] at hc; omega
    have ck : (w.alloc (.cells t.cs 26)).cell? ⟨w.heap.size, k, none⟩ = some (.int .u8 ((t.c.getD k 0).toNat : Int)) := (HB.out.cell k).trans (cs_char2 ht.len k (by omega))
    have k1 : (1 : Int) ≤ (k : Int) ∧ (k : Int) ≤ 18 ∧ (k : Int) < 19 ∧ (0 : Int) ≤ (k : Int) := by omega
    have hv := u8_255 (t.c.getD k 0)
    by_cases hx : t.c.getD k 0 = 255
    · have he := hid (char_off (t := t) (op := (k : Int)) hx)
      rw [decide_eq_true hx] at hv
      generalize ((t.c.getD k 0).toNat : Int) = y at ck hv
      go_enter Try.func18, Try.ntmps18
      go_wp2_with (first
        | (refine bx26 (by rfl) _ (by rfl) _ (by rfl) hs ?_
           intro _)
        | (go_at_call 30
           (with_reducible refine (isChar_b _ hc).mono ?_)
           rintro e u1 ⟨rfl, rfl⟩))
      go_ret2
      rw [he.out.1, he.out.2]
      exact ⟨rfl, H1⟩
    · have he := hid (char_on (t := t) (op := (k : Int)) hc hx)
      have hy : Hid (t.c.getD ((k : Int)).toNat 0 = t.c.getD k 0) := hid rfl
      rw [decide_eq_false hx] at hv
      generalize hz : ((t.c.getD k 0).toNat : Int) = y at ck hv
      have HZ := hid hz
      clear hz
      go_enter Try.func18, Try.ntmps18
      go_wp2_with (first
        | (refine bx26 (by rfl) _ (by rfl) _ (by rfl) hs ?_
           intro _)
        | (go_at_call 30
           (with_reducible refine (isChar_b _ hc).mono ?_)
           rintro e u1 ⟨rfl, rfl⟩))
      go_ret2
      rw [he.out.1, he.out.2, hy.out, HZ.out]
      exact ⟨rfl, H1⟩
set_option maxRecDepth 100000 in
set_option maxHeartbeats 2000000 in
theorem charr_any (w : World) (t : Tm) (ht : t.Ok) (op : Int) : Calls Try.prog 33 #[.agg t.cs, .int .i64 op] w fun e w' => e = .returned (.tuple #[.int .u8 ((chV t op).toNat : Int), .bool (chB t op)]) ∧ Hid (Below w.heap.size w w') := by
  have hs := cs_size ht.len
  have H1 : Hid (Below w.heap.size w (w.alloc (.cells t.cs 26))) := hid ((Below.refl _ w).alloc (Nat.le_refl _) _)
  have HB : Hid (Box (w.alloc (.cells t.cs 26)) w.heap.size 26 t.cs) := hid (Box.new w 26 t.cs)
  cases hc : charB op
  · have he := hid (char_no (t := t) hc)
    have hr : op < 1 ∨ 18 < op := by simp [charB] at hc; omega
    rcases hr with hr | hr
    all_goals
      go_enter Try.func33, Try.ntmps33
      go_wp2_with (first
        | (refine bx26 (by rfl) _ (by rfl) _ (by rfl) hs ?_
           intro _))
      go_ret2
      rw [he.out.1, he.out.2]
      exact ⟨rfl, H1⟩
  · obtain ⟨k, rfl⟩ := Int.eq_ofNat_of_zero_le (show (0 : Int) ≤ op by simp [charB] at hc; omega)
    have hk : 1 ≤ k ∧ k ≤ 18 := by simp [charB] at hc; omega
    have ck : (w.alloc (.cells t.cs 26)).cell? ⟨w.heap.size, k, none⟩ = some (.int .u8 ((t.c.getD k 0).toNat : Int)) := (HB.out.cell k).trans (cs_char2 ht.len k (by omega))
    have k1 : (1 : Int) ≤ (k : Int) ∧ (k : Int) ≤ 18 ∧ (k : Int) < 19 ∧ (0 : Int) ≤ (k : Int) := by omega
    have hv := u8_255 (t.c.getD k 0)
    by_cases hx : t.c.getD k 0 = 255
    · have he := hid (char_off (t := t) (op := (k : Int)) hx)
      rw [decide_eq_true hx] at hv
      generalize ((t.c.getD k 0).toNat : Int) = y at ck hv
      go_enter Try.func33, Try.ntmps33
      go_wp2_with (first
        | (refine bx26 (by rfl) _ (by rfl) _ (by rfl) hs ?_
           intro _))
      go_ret2
      rw [he.out.1, he.out.2]
      exact ⟨rfl, H1⟩
    · have he := hid (char_on (t := t) (op := (k : Int)) hc hx)
      have hy : Hid (t.c.getD ((k : Int)).toNat 0 = t.c.getD k 0) := hid rfl
      rw [decide_eq_false hx] at hv
      generalize hz : ((t.c.getD k 0).toNat : Int) = y at ck hv
      have HZ := hid hz
      clear hz
      go_enter Try.func33, Try.ntmps33
      go_wp2_with (first
        | (refine bx26 (by rfl) _ (by rfl) _ (by rfl) hs ?_
           intro _))
      go_ret2
      rw [he.out.1, he.out.2, hy.out, HZ.out]
      exact ⟨rfl, H1⟩
theorem u8_eq (x y : UInt8) : (((x.toNat : Int) == (y.toNat : Int)) : Bool) = decide (x = y) := by
  by_cases hx : x = y
  · subst hx; simp
  · have : x.toNat ≠ y.toNat := fun e => hx (UInt8.toNat_inj.1 e)
    simp [hx]
    omega
theorem u8_eq2 (x y : UInt8) : (((y.toNat : Int) == (x.toNat : Int)) : Bool) = decide (x = y) := by
  rw [u8_eq]
  exact decide_eq_decide.2 ⟨Eq.symm, Eq.symm⟩
set_option maxRecDepth 100000 in
set_option maxHeartbeats 2000000 in
theorem is_any (w : World) (t : Tm) (ht : t.Ok) (op : Int) (x : UInt8) : Calls Try.prog 15 #[.agg t.cs, .int .i64 op, .int .u8 (x.toNat : Int)] w fun e w' => e = .returned (.bool (chB t op && decide (x = chV t op))) ∧ Hid (Below w.heap.size w w') := by
  have hs := cs_size ht.len
  have H1 : Hid (Below w.heap.size w (w.alloc (.cells t.cs 26))) := hid ((Below.refl _ w).alloc (Nat.le_refl _) _)
  have HB : Hid (Box (w.alloc (.cells t.cs 26)) w.heap.size 26 t.cs) := hid (Box.new w 26 t.cs)
  have hx := u8_eq x (chV t op)
  have hx2 := u8_eq2 x (chV t op)
  have h6 : Hid (Calls Try.prog 18 #[.agg t.cs, .int .i64 op] (w.alloc (.cells t.cs 26)) fun e w' => e = .returned (.tuple #[.int .u8 ((chV t op).toNat : Int), .bool (chB t op)]) ∧ Hid (Below (w.alloc (.cells t.cs 26)).heap.size (w.alloc (.cells t.cs 26)) w')) := hid (char_any _ t ht op)
  generalize decide (x = chV t op) = b at hx hx2 ⊢
  generalize ((chV t op).toNat : Int) = y at hx hx2 h6
  generalize (x.toNat : Int) = z at hx hx2
  cases hc : chB t op
  all_goals
    rw [hc] at h6
    go_enter Try.func15, Try.ntmps15
    go_wp2_with (first
      | (refine bx26 (by rfl) _ (by rfl) _ (by rfl) hs ?_
         intro _)
      | (refine ld26 (by rfl) _ (by rfl) _ (by rfl) t.cs HB.out hs ?_)
      | (go_at_call 18
         (with_reducible refine h6.out.mono ?_)
         rintro e u1 ⟨rfl, K1⟩
         have H2 := hid (H1.out.trans (K1.out.mono H1.out.size))
         clear K1))
    go_ret
    exact ⟨rfl, H2⟩
set_option maxRecDepth 100000 in
set_option maxHeartbeats 2000000 in
theorem isr_any (w : World) (t : Tm) (ht : t.Ok) (op : Int) (x : UInt8) : Calls Try.prog 21 #[.agg t.cs, .int .i64 op, .int .u8 (x.toNat : Int)] w fun e w' => e = .returned (.bool (chB t op && decide (x = chV t op))) ∧ Hid (Below w.heap.size w w') := by
  have hs := cs_size ht.len
  have H1 : Hid (Below w.heap.size w (w.alloc (.cells t.cs 26))) := hid ((Below.refl _ w).alloc (Nat.le_refl _) _)
  have HB : Hid (Box (w.alloc (.cells t.cs 26)) w.heap.size 26 t.cs) := hid (Box.new w 26 t.cs)
  have hx := u8_eq x (chV t op)
  have hx2 := u8_eq2 x (chV t op)
  have h6 : Hid (Calls Try.prog 33 #[.agg t.cs, .int .i64 op] (w.alloc (.cells t.cs 26)) fun e w' => e = .returned (.tuple #[.int .u8 ((chV t op).toNat : Int), .bool (chB t op)]) ∧ Hid (Below (w.alloc (.cells t.cs 26)).heap.size (w.alloc (.cells t.cs 26)) w')) := hid (charr_any _ t ht op)
  generalize decide (x = chV t op) = b at hx hx2 ⊢
  generalize ((chV t op).toNat : Int) = y at hx hx2 h6
  generalize (x.toNat : Int) = z at hx hx2
  cases hc : chB t op
  all_goals
    rw [hc] at h6
    go_enter Try.func21, Try.ntmps21
    go_wp2_with (first
      | (refine bx26 (by rfl) _ (by rfl) _ (by rfl) hs ?_
         intro _)
      | (refine ld26 (by rfl) _ (by rfl) _ (by rfl) t.cs HB.out hs ?_)
      | (go_at_call 33
         (with_reducible refine h6.out.mono ?_)
         rintro e u1 ⟨rfl, K1⟩
         have H2 := hid (H1.out.trans (K1.out.mono H1.out.size))
         clear K1))
    go_ret
    exact ⟨rfl, H2⟩
end Go.Proofs.Ythaecflakefklaa
