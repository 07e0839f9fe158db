import Derived.Test.YtbkgicbhdkffmaaMU
namespace Go.Proofs.Ytbkgicbhdkffmaa
open Go.RowKit

theorem q13 {u0 : World} {z : Gr u0} {t : Tm} {op : Int} {b : Bool} (ht : t.Ok) (hb : hasN t.f op = b) : Calls Try.prog 13 #[.agg t.cs, .int .i64 op] (grw z) fun e w'' => e = .returned (.bool b) ∧ ∃ z' : Gr u0, w'' = grw z' := by
  subst hb
  exact gr_call (hasr_any _ t ht op)
theorem s14 {u0 : World} {z : Gr u0} {t : Tm} {op : Int} {on : Bool} (ht : t.Ok) : Calls Try.prog 14 #[.agg t.cs, .int .i64 op, .bool on] (grw z) fun e w'' => e = .returned (.agg (setT t op on).cs) ∧ ∃ z' : Gr u0, w'' = grw z' := gr_call (set_any _ t ht op on)
theorem s15 {u0 : World} {z : Gr u0} {t : Tm} {op : Int} {on : Bool} (ht : t.Ok) : Calls Try.prog 15 #[.agg t.cs, .int .i64 op, .bool on] (grw z) fun e w'' => e = .returned (.agg (setT t op on).cs) ∧ ∃ z' : Gr u0, w'' = grw z' := gr_call (setr_any _ t ht op on)
theorem q16 {u0 : World} {z : Gr u0} {t : Tm} {op : Int} {x : UInt8} {b : Bool} (ht : t.Ok) (hb : (chB t op && decide (x = chV t op)) = b) : Calls Try.prog 16 #[.agg t.cs, .int .i64 op, .int .u8 (x.toNat : Int)] (grw z) fun e w'' => e = .returned (.bool b) ∧ ∃ z' : Gr u0, w'' = grw z' := by
  subst hb
  exact gr_call (is_any _ t ht op x)
theorem q17 {u0 : World} {z : Gr u0} {t : Tm} {op : Int} {x : UInt8} {b : Bool} (ht : t.Ok) (hb : (chB t op && decide (x = chV t op)) = b) : Calls Try.prog 17 #[.agg t.cs, .int .i64 op, .int .u8 (x.toNat : Int)] (grw z) fun e w'' => e = .returned (.bool b) ∧ ∃ z' : Gr u0, w'' = grw z' := by
  subst hb
  exact gr_call (isr_any _ t ht op x)
theorem q19 {u0 : World} {z : Gr u0} {t : Tm} {b : Bool} (ht : t.Ok) (hb : rightB t = b) : Calls Try.prog 19 #[.agg t.cs] (grw z) fun e w'' => e = .returned (.bool b) ∧ ∃ z' : Gr u0, w'' = grw z' := by
  subst hb
  exact gr_call (rightr_any _ t ht)
theorem q20 {u0 : World} {z : Gr u0} : Calls Try.prog 20 #[] (grw z) fun e w'' => e = .returned (.agg dT.cs) ∧ ∃ z' : Gr u0, w'' = grw z' := gr_call (default_any _)
theorem q21 {u0 : World} {z : Gr u0} : Calls Try.prog 21 #[] (grw z) fun e w'' => e = .returned (.agg dT.cs) ∧ ∃ z' : Gr u0, w'' = grw z' := gr_call (defaultr_any _)
attribute [local go_sem ↓] wp_st26 wp_ldR wp_eq26 wp_ne26 wq_ld26 wq_eq26 wq_ne26 Go.wp_at_zero Go.wp_at_succ
attribute [local go_sem] isP_v blkV_v aggV_v
set_option maxRecDepth 100000 in
set_option maxHeartbeats 4000000 in
theorem asks_walk (w : World) (t : Tm) (ht : t.Ok) (op : Int) (on : Bool) (x : UInt8) : Calls Try.prog 3 #[.agg (askedV t op on x)] w fun e w' => e = .returned (.bool true) ∧ Hid (Below w.heap.size w w') := by
  have hl := ht.len
  obtain ⟨f0, f1, f2, f3, f4⟩ := front_at hl (.int .i64 op) (.bool on) (.int .u8 (x.toNat : Int))
  have hsz : Hid ((Try.prog.info? 28).map (·.size) = some (askedV t op on x).size) := hid (by unfold askedV; rw [f0]; exact Try.size28)
  have HB0 : Hid (Box (w.alloc (.cells (askedV t op on x) 28)) w.heap.size 28 (askedV t op on x)) := hid (Box.new w 28 _)
  have HK0 : Hid (Below w.heap.size w (w.alloc (.cells (askedV t op on x) 28))) := hid ((Below.refl _ w).alloc (Nat.le_refl _) _)
  have F1 := hid f1
  have F2 : Hid ((askedV t op on x)[24]? = some (.int .i64 op)) := hid f2
  have F3 : Hid ((askedV t op on x)[25]? = some (.bool on)) := hid f3
  have F4 : Hid ((askedV t op on x)[26]? = some (.int .u8 (x.toNat : Int))) := hid f4
  clear f0 f1 f2 f3 f4
  go_enter Try.func3, Try.ntmps3
  go_wp2_with (first
    | (refine bxT (by rfl) 28 _ (by rfl) _ (by rfl) hsz.out ?_)
    | (go_at_call 9
       (with_reducible refine (call_alive _).mono ?_)
       rintro e u1 ⟨rfl, K1⟩
       have HB1 := hid (box_below HB0.out K1.out)
       have HK1 := bel_t HK0 K1.out
       clear K1 HB0 HK0))
  obtain ⟨r1, r2⟩ := front_R (W := u1.drew) (g := w.heap.size) hl HB1.out F1.out
  obtain ⟨r3, r4⟩ := front_R (W := (u1.alloc (.cells #[.int .u8 0, .int .u8 0, .int .u8 0, .int .u8 0, .int .u8 0, .int .u8 0, .int .u8 0, .int .u8 0, .int .u8 0, .int .u8 0, .int .u8 0, .int .u8 0, .int .u8 0, .int .u8 0, .int .u8 0, .int .u8 0, .int .u8 0, .int .u8 0, .int .u8 0, .int .u64 0, .int .u32 0, .int .u32 0, .int .i64 0, .int .i64 0] 26)).drew) (g := w.heap.size) hl (box_below HB1.out ((Below.refl _ u1).alloc (Nat.le_refl _) _).drew) F1.out
  obtain ⟨r31, r41⟩ := front_R (W := u1.drew.alloc (.cells #[.int .u8 0, .int .u8 0, .int .u8 0, .int .u8 0, .int .u8 0, .int .u8 0, .int .u8 0, .int .u8 0, .int .u8 0, .int .u8 0, .int .u8 0, .int .u8 0, .int .u8 0, .int .u8 0, .int .u8 0, .int .u8 0, .int .u8 0, .int .u8 0, .int .u8 0, .int .u64 0, .int .u32 0, .int .u32 0, .int .i64 0, .int .i64 0] 26)) (g := w.heap.size) hl (box_below HB1.out ((Below.refl _ u1).alloc (Nat.le_refl _) _).drew) F1.out
  have r5 := isB_new u1 #[.int .u8 0, .int .u8 0, .int .u8 0, .int .u8 0, .int .u8 0, .int .u8 0, .int .u8 0, .int .u8 0, .int .u8 0, .int .u8 0, .int .u8 0, .int .u8 0, .int .u8 0, .int .u8 0, .int .u8 0, .int .u8 0, .int .u8 0, .int .u8 0, .int .u8 0, .int .u64 0, .int .u32 0, .int .u32 0, .int .i64 0, .int .i64 0] rfl
  have r51 := isB_new u1.drew #[.int .u8 0, .int .u8 0, .int .u8 0, .int .u8 0, .int .u8 0, .int .u8 0, .int .u8 0, .int .u8 0, .int .u8 0, .int .u8 0, .int .u8 0, .int .u8 0, .int .u8 0, .int .u8 0, .int .u8 0, .int .u8 0, .int .u8 0, .int .u8 0, .int .u8 0, .int .u64 0, .int .u32 0, .int .u32 0, .int .i64 0, .int .i64 0] rfl
  have r52 : isB (u1.alloc (.cells #[.int .u8 0, .int .u8 0, .int .u8 0, .int .u8 0, .int .u8 0, .int .u8 0, .int .u8 0, .int .u8 0, .int .u8 0, .int .u8 0, .int .u8 0, .int .u8 0, .int .u8 0, .int .u8 0, .int .u8 0, .int .u8 0, .int .u8 0, .int .u8 0, .int .u8 0, .int .u64 0, .int .u32 0, .int .u32 0, .int .i64 0, .int .i64 0] 26)).drew u1.heap.size = true := r5
  have r53 : isB (u1.drew.alloc (.cells #[.int .u8 0, .int .u8 0, .int .u8 0, .int .u8 0, .int .u8 0, .int .u8 0, .int .u8 0, .int .u8 0, .int .u8 0, .int .u8 0, .int .u8 0, .int .u8 0, .int .u8 0, .int .u8 0, .int .u8 0, .int .u8 0, .int .u8 0, .int .u8 0, .int .u8 0, .int .u64 0, .int .u32 0, .int .u32 0, .int .i64 0, .int .i64 0] 26)) u1.heap.size = true := r51
  have c24 : u1.cell? ⟨w.heap.size, 24, none⟩ = some (.int .i64 op) := (HB1.out.cell 24).trans F2.out
  have c25 : u1.cell? ⟨w.heap.size, 25, none⟩ = some (.bool on) := (HB1.out.cell 25).trans F3.out
  have c26 : u1.cell? ⟨w.heap.size, 26, none⟩ = some (.int .u8 (x.toNat : Int)) := (HB1.out.cell 26).trans F4.out
  have d24 : ∀ o, (u1.alloc o).cell? ⟨w.heap.size, 24, none⟩ = some (.int .i64 op) := fun o => cellOld o c24
  have d25 : ∀ o, (u1.alloc o).cell? ⟨w.heap.size, 25, none⟩ = some (.bool on) := fun o => cellOld o c25
  have d26 : ∀ o, (u1.alloc o).cell? ⟨w.heap.size, 26, none⟩ = some (.int .u8 (x.toNat : Int)) := fun o => cellOld o c26
  have hne : w.heap.size ≠ u1.heap.size := by have := HB1.out.lt; omega
  have e24 : ∀ o cs, ((u1.alloc o).drew.setRow u1.heap.size cs).cell? ⟨w.heap.size, 24, none⟩ = some (.int .i64 op) := fun o cs => (cell_setRow_other _ _ _ _ hne).trans (d24 o)
  have e25 : ∀ o cs, ((u1.alloc o).drew.setRow u1.heap.size cs).cell? ⟨w.heap.size, 25, none⟩ = some (.bool on) := fun o cs => (cell_setRow_other _ _ _ _ hne).trans (d25 o)
  have e26 : ∀ o cs, ((u1.alloc o).drew.setRow u1.heap.size cs).cell? ⟨w.heap.size, 26, none⟩ = some (.int .u8 (x.toNat : Int)) := fun o cs => (cell_setRow_other _ _ _ _ hne).trans (d26 o)
  obtain ⟨r6, r7⟩ := okS_cs hl
  go_region
  all_goals
    obtain ⟨HK3, HG3, HL3⟩ := bel_new (g := u1.heap.size) t.cs #[.int .u8 0, .int .u8 0, .int .u8 0, .int .u8 0, .int .u8 0, .int .u8 0, .int .u8 0, .int .u8 0, .int .u8 0, .int .u8 0, .int .u8 0, .int .u8 0, .int .u8 0, .int .u8 0, .int .u8 0, .int .u8 0, .int .u8 0, .int .u8 0, .int .u8 0, .int .u64 0, .int .u32 0, .int .u32 0, .int .i64 0, .int .i64 0] rfl HK1
    generalize hW : World.setRow _ _ _ = u3 at HK3 HG3 HL3 ⊢
    clear hW r1 r2 r3 r4 r31 r41 r5 r51 r52 r53 c24 c25 c26 d24 d25 d26 e24 e25 e26 hne HB1 HL3 HK1
    generalize u1.heap.size = g3 at HG3 ⊢
    clear F1 F2 F3 F4
    have hts := cs_size hl
    go_wp2_with (first
      | (refine ld26 (by rfl) _ (by rfl) _ (by rfl) t.cs HG3.out hts ?_)
      | (refine ld26 (by rfl) _ (by rfl) _ (by rfl) t.cs HG4.out hts ?_)
      | (go_at_call 10
         (with_reducible refine (char_any _ t ht op).mono ?_)
         rintro e u4 ⟨rfl, K4⟩
         have HK4 := bel_t HK3 K4.out
         have HG4 := hid (box_below HG3.out K4.out)
         clear HK3 HG3 K4)
      | (go_at_call 11
         (with_reducible refine (charr_any _ t ht op).mono ?_)
         rintro e u5 ⟨rfl, K5⟩
         have HK5 := bel_t HK4 K5.out
         have HG5 := hid (box_below HG4.out K5.out)
         clear HK4 HG4 K5))
    obtain ⟨q1, q2⟩ := box_isB HG5.out hl
    have i1 := isT_cs hl
    have o1 := (setT_ok ht op on).len
    have i2 := isT_cs o1
    have i3 := isT_cs dT_ok.len
    have v1 := eqV_of o1 o1 (eqT_self (setT t op on))
    have v2 := eqV_of dT_ok.len dT_ok.len (eqT_self dT)
    generalize hX : ((chV t op).toNat : Int) = X at *
    cases hb : hasN t.f op
    all_goals
      cases hr : rightB t
      all_goals
        cases hi : (chB t op && decide (x = chV t op))
        all_goals
          cases hc : chB t op
          all_goals
          refine wp_region_grown (by kernel_rfl) (by kernel_rfl) ?_
          repeat (go_big_quiet_step (first | (go_at_call 14; with_reducible exact s14 ht) | (go_at_call 15; with_reducible exact s15 ht) | (go_at_call 12; with_reducible exact q12 ht hb) | (go_at_call 13; with_reducible exact q13 ht hb) | (go_at_call 18; with_reducible exact q18 ht hr) | (go_at_call 19; with_reducible exact q19 ht hr) | (go_at_call 16; with_reducible exact q16 ht hi) | (go_at_call 17; with_reducible exact q17 ht hi) | (go_at_call 20; with_reducible exact q20) | (go_at_call 21; with_reducible exact q21)))
          refine wpQuiet_nil ?_
          intro z
          go_wp2
          go_ret
          exact ⟨rfl, bel_t HK5 z.b⟩
end Go.Proofs.Ytbkgicbhdkffmaa
