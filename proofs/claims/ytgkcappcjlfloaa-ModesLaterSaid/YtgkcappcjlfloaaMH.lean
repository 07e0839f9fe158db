import Derived.Test.YtgkcappcjlfloaaMG
namespace Go.Proofs.Ytgkcappcjlfloaa
open Go.RowKit

def fitsB (x : Int) : Bool := decide (0 ≤ x) && decide (x ≤ 255)
set_option maxRecDepth 100000 in
theorem fits_any (w : World) (n : Int) : Calls Try.prog 33 #[.int .i64 n] w fun e w' => e = .returned (.bool (fitsB n)) ∧ w' = w := by
  rcases (by omega : n < 0 ∨ (0 ≤ n ∧ n ≤ 255) ∨ 255 < n) with h | h | h
  all_goals
    go_enter Try.func33, Try.ntmps33
    go_wp2
    go_ret
    simp [fitsB]
    try omega
theorem q33 {u0 : World} {z : Gr u0} {n : Int} {b : Bool} (hg : fitsB n = b) : Calls Try.prog 33 #[.int .i64 n] (grw z) fun e w'' => e = .returned (.bool b) ∧ ∃ z' : Gr u0, w'' = grw z' := by
  subst hg
  exact gr_call0 (fits_any (grw z) n)
theorem q32 {u0 : World} {z : Gr u0} : Calls Try.prog 32 #[] (grw z) fun e w'' => e = .returned (.int .u64 (mask : Nat)) ∧ ∃ z' : Gr u0, w'' = grw z' := gr_call (flagBits_any (grw z))
def charB (op : Int) : Bool := decide (1 ≤ op) && decide (op ≤ 18)
set_option maxRecDepth 100000 in
theorem isChar_any (w : World) (op : Int) : Calls Try.prog 27 #[.int .i64 op] w fun e w' => e = .returned (.bool (charB op)) ∧ w' = w := by
  rcases (by omega : op < 1 ∨ (1 ≤ op ∧ op ≤ 18) ∨ 18 < op) with h | h | h
  all_goals
    go_enter Try.func27, Try.ntmps27
    go_wp2
    go_ret
    simp [charB]
    try omega
theorem isChar_b (w : World) {op : Int} {b : Bool} (hg : charB op = b) : Calls Try.prog 27 #[.int .i64 op] w fun e w' => e = .returned (.bool b) ∧ w' = w := by
  subst hg
  exact isChar_any w op
def endB (x : UInt8) : Bool := decide (x.toNat = 0) || decide (160 ≤ x.toNat)
set_option maxRecDepth 100000 in
theorem isEnd_any (w : World) (x : UInt8) : Calls Try.prog 34 #[.int .u8 (x.toNat : Int)] w fun e w' => e = .returned (.bool (endB x)) ∧ w' = w := by
  unfold endB
  generalize x.toNat = n
  rcases (by omega : n = 0 ∨ (1 ≤ n ∧ n < 160) ∨ 160 ≤ n) with h | h | h
  · subst h
    go_enter Try.func34, Try.ntmps34
    go_wp2
    go_ret
    exact ⟨rfl, rfl⟩
  all_goals
    have a1 : ((n : Int) == 0) = false := by simp; omega
    go_enter Try.func34, Try.ntmps34
    go_wp2
    go_ret
    refine ⟨ret_bool ?_, rfl⟩
    rw [Bool.eq_iff_iff]
    simp
    omega
theorem isEnd_b (w : World) {x : UInt8} {b : Bool} (hg : endB x = b) : Calls Try.prog 34 #[.int .u8 (x.toNat : Int)] w fun e w' => e = .returned (.bool b) ∧ w' = w := by
  subst hg
  exact isEnd_any w x
def rightB (t : Tm) : Bool := decide (okF t.f) && decide (t.c.getD 0 0 = 0) && fitsB t.m && fitsB t.s
theorem okF_v {f : Nat} (hf : f < 18446744073709551616) : ((bits .andNot .u64 (f : Int) ((mask : Nat) : Int) == 0) : Bool) = decide (okF f) := by
  rw [u64_andNot_nat _ _ hf mask_lt]
  rw [show decide (okF f) = decide (f &&& (18446744073709551615 - mask) = 0) from decide_eq_decide.2 Iff.rfl]
  generalize f &&& (18446744073709551615 - mask) = z
  by_cases h : z = 0
  · subst h; rfl
  · simp [h]
theorem c0_v {t : Tm} (h : t.c.length = 19) : t.cs[0]? = some (.int .u8 ((t.c.getD 0 0).toNat : Int)) ∧ ((((t.c.getD 0 0).toNat : Int) == 0) : Bool) = decide (t.c.getD 0 0 = 0) := by
  constructor
  · have := cs_char h 0 (by omega)
    rw [this]
    simp [List.getD, h]
  · generalize t.c.getD 0 0 = x
    by_cases hx : x = 0
    · subst hx; rfl
    · have : x.toNat ≠ 0 := fun e => hx (UInt8.toNat_inj.1 (by simpa using e))
      simp [hx]
      exact this
set_option maxRecDepth 100000 in
set_option maxHeartbeats 4000000 in
theorem right_any (w : World) (t : Tm) (ht : t.Ok) : Calls Try.prog 18 #[.agg t.cs] w fun e w' => e = .returned (.bool (rightB t)) ∧ Hid (Below w.heap.size w w') := by
  have hs := cs_size ht.len
  have H1 : Hid (Below w.heap.size w (w.alloc (.cells t.cs 26))) := hid ((Below.refl _ w).alloc (Nat.le_refl _) _)
  have HB := Box.new w 26 t.cs
  have c19 : ∀ z : Gr (w.alloc (.cells t.cs 26)), (grw z).cell? ⟨w.heap.size, 19, none⟩ = some (.int .u64 (t.f : Int)) := fun z => gr_cell z ((HB.cell 19).trans (cs_f ht.len))
  have c0 : ∀ z : Gr (w.alloc (.cells t.cs 26)), (grw z).cell? ⟨w.heap.size, 0, none⟩ = some (.int .u8 ((t.c.getD 0 0).toNat : Int)) := fun z => gr_cell z ((HB.cell 0).trans (c0_v ht.len).1)
  have c22 : ∀ z : Gr (w.alloc (.cells t.cs 26)), (grw z).cell? ⟨w.heap.size, 22, none⟩ = some (.int .i64 t.m) := fun z => gr_cell z ((HB.cell 22).trans (cs_m ht.len))
  have c23 : ∀ z : Gr (w.alloc (.cells t.cs 26)), (grw z).cell? ⟨w.heap.size, 23, none⟩ = some (.int .i64 t.s) := fun z => gr_cell z ((HB.cell 23).trans (cs_s ht.len))
  clear HB
  have hA := okF_v ht.f
  have hC := (c0_v ht.len).2
  have hr : Hid (rightB t = (decide (okF t.f) && decide (t.c.getD 0 0 = 0) && fitsB t.m && fitsB t.s)) := hid rfl
  generalize decide (okF t.f) = A at hA hr
  generalize decide (t.c.getD 0 0 = 0) = C at hC hr
  generalize (t.c.getD 0 0).toNat = y at c0 hC
  cases hm : fitsB t.m <;> cases hq : fitsB t.s <;> cases A <;> cases C
  all_goals
    go_enter Try.func18, Try.ntmps18
    go_wp2_with (refine bx26 (by rfl) _ (by rfl) _ (by rfl) hs ?_; intro _)
    refine wp_region_grown (by kernel_rfl) (by kernel_rfl) ?_
    repeat (go_big_quiet_step (first | (go_at_call 32; with_reducible exact q32) | (go_at_call 33; with_reducible exact q33 hm) | (go_at_call 33; with_reducible exact q33 hq)))
    refine wpQuiet_nil ?_
    intro z
    go_wp2
    go_ret
    exact ⟨by rw [hr.out, hm, hq]; rfl, hid (H1.out.trans (z.b.mono H1.out.size))⟩
end Go.Proofs.Ytgkcappcjlfloaa
