import Derived.Test.YtbkgicbhdkffmaaMT
namespace Go.Proofs.Ytbkgicbhdkffmaa
open Go.RowKit

theorem run_boxT (w : World) (T : TypeId) (cs : Array Value) (hT : (Try.prog.info? T).map (·.size) = some cs.size) : (Instr.box T (.agg cs)).run Try.prog w = .ok (.pointer (some ⟨w.heap.size, 0, none⟩)) (w.alloc (.cells cs T)) := by
  cases hq : Try.prog.info? T with
  | none => simp [hq] at hT
  | some i => simp [hq] at hT; simp [Instr.box, newVar, newRow, Value.cells, sizeOf, typeInfo, hq, hT, run_newObj_alloc, Sem.run_bind]
theorem bxT {ops : Array Oper} {rest : List Oper} {o : Oper} {a : Act} {w : World} {Q : Exit → Act → World → Prop} (hw : Region.wanted o (yielded ops a.tmps) = true) (T : TypeId) (x : Operand) (ho : o.op = .box T x) (cs : Array Value) (hx : a.eval x = .agg cs) (hT : (Try.prog.info? T).map (·.size) = some cs.size)
    (h : wpList Try.prog ops Q rest (a.put o.dst (.pointer (some ⟨w.heap.size, 0, none⟩))) (w.alloc (.cells cs T))) : wpList Try.prog ops Q (o :: rest) a w :=
  BigFrame.wpList_want hw fun _ hK => by
    unfold Oper.wp execOp
    simp only [ho, hx, Sem.run_bind, run_boxT w T cs hT, Result.andThen_ok]
    exact hK _ _ h
theorem Try.size52 : (Try.prog.info? 52).map (·.size) = some 27 := by kernel_rfl
theorem Try.size28 : (Try.prog.info? 28).map (·.size) = some 27 := by kernel_rfl
theorem Try.size49 : (Try.prog.info? 49).map (·.size) = some 27 := by kernel_rfl
theorem front_at {t : Tm} (ht : t.c.length = 19) (a b c : Value) : ((t.cl ++ [a, b, c]).toArray.size = 27) ∧ (∀ (j : Nat) (v : Value), t.cl[j]? = some v → (t.cl ++ [a, b, c]).toArray[j]? = some v) ∧ (t.cl ++ [a, b, c]).toArray[24]? = some a ∧ (t.cl ++ [a, b, c]).toArray[25]? = some b ∧ (t.cl ++ [a, b, c]).toArray[26]? = some c := by
  have hl := cl_len ht
  refine ⟨by simp [hl], fun j v hj => ?_, ?_, ?_, ?_⟩
  · have := (List.getElem?_eq_some_iff.1 hj).1
    rw [List.getElem?_toArray, List.getElem?_append_left this, hj]
  · rw [List.getElem?_toArray, List.getElem?_append_right (by omega), hl]; rfl
  · rw [List.getElem?_toArray, List.getElem?_append_right (by omega), hl]; rfl
  · rw [List.getElem?_toArray, List.getElem?_append_right (by omega), hl]; rfl
/-- What a world must tell where a struct with a setting ahead is taken apart. -/
theorem front_R {W : World} {g : Nat} {T : TypeId} {cs : Array Value} {t : Tm} (ht : t.c.length = 19) (hb : Box W g T cs) (hc : ∀ (j : Nat) (v : Value), t.cl[j]? = some v → cs[j]? = some v) : isR W (.pointer (some ⟨g, 0, none⟩)) = true ∧ csR W (.pointer (some ⟨g, 0, none⟩)) = t.cs :=
  isR_of (fun j v hj => by rw [Nat.zero_add, hb.cell j]; exact hc j v hj) ht
theorem isB_new (w : World) (cs : Array Value) (hs : cs.size = 24) : isB (w.alloc (.cells cs 26)) w.heap.size = true := by
  unfold isB
  rw [heap_alloc_new]
  simp [hs]
theorem call_alive (w : World) : Calls Try.prog 9 #[] w fun e w' => e = .returned (.bool true) ∧ Hid (Below w.heap.size w w') := alive_any w
theorem setRow_drew (w : World) (g : Nat) (cs : Array Value) : w.drew.setRow g cs = (w.setRow g cs).drew := rfl
theorem q12 {u0 : World} {z : Gr u0} {t : Tm} {op : Int} {b : Bool} (ht : t.Ok) (hb : hasN t.f op = b) : Calls Try.prog 12 #[.agg t.cs, .int .i64 op] (grw z) fun e w'' => e = .returned (.bool b) ∧ ∃ z' : Gr u0, w'' = grw z' := gr_call (has_b _ ht hb)
theorem q14 {u0 : World} {z : Gr u0} {t t' : Tm} {op : Int} {on : Bool} (ht : t.Ok) (hb : setT t op on = t') : Calls Try.prog 14 #[.agg t.cs, .int .i64 op, .bool on] (grw z) fun e w'' => e = .returned (.agg t'.cs) ∧ ∃ z' : Gr u0, w'' = grw z' := by
  subst hb
  exact gr_call (set_any _ t ht op on)
theorem q18 {u0 : World} {z : Gr u0} {t : Tm} {b : Bool} (ht : t.Ok) (hb : rightB t = b) : Calls Try.prog 18 #[.agg t.cs] (grw z) fun e w'' => e = .returned (.bool b) ∧ ∃ z' : Gr u0, w'' = grw z' := by
  subst hb
  exact gr_call (right_any _ t ht)
theorem setT_again {t : Tm} (ht : t.Ok) (op : Int) (a on : Bool) : setT (setT t op a) op on = setT t op on := by
  unfold setT
  simp only
  congr 1
  refine bits_eq (setN_lt (setN_lt ht.f op a) op on) (setN_lt ht.f op on) fun i _ => ?_
  rw [setN_bit (setN_lt ht.f op a), setN_bit ht.f, setN_bit ht.f]
  split <;> rfl
theorem setT_back {t : Tm} (ht : t.Ok) {op : Int} {on : Bool} (h : hasN t.f op = !on) : setT (setT t op on) op (!on) = t := by
  rw [setT_again ht, setT_same ht h]
theorem right_set {t : Tm} (ht : t.Ok) (op : Int) (on : Bool) : rightB (setT t op on) = rightB t := by
  unfold rightB setT
  simp only
  congr 3
  exact decide_eq_decide.2 (okF_set ht.f op on)
theorem bel_new {w u : World} {g : Nat} (cs cs' : Array Value) (hg : g = u.heap.size) (h : Hid (Below w.heap.size w u)) : Hid (Below w.heap.size w ((u.alloc (.cells cs' 26)).drew.setRow g cs)) ∧ Hid (Box ((u.alloc (.cells cs' 26)).drew.setRow g cs) g 26 cs) ∧ Hid (Below u.heap.size u ((u.alloc (.cells cs' 26)).drew.setRow g cs)) := by
  subst hg
  have h1 : Below u.heap.size u ((u.alloc (.cells cs' 26)).drew.setRow u.heap.size cs) := (((Below.refl _ u).alloc (Nat.le_refl _) _).drew).trans ((Turn.setRow _ u.heap.size cs).below (Nat.le_refl _))
  exact ⟨bel_t h h1, hid (setRow_heap _ _ cs' cs 26 _ (heap_alloc_new u _)), hid h1⟩
attribute [local go_sem ↓] wp_st26 wp_ldR wp_eq26 wp_ne26 wq_ld26 wq_eq26 wq_ne26 Go.wp_at_zero Go.wp_at_succ
attribute [local go_sem] isP_v blkV_v aggV_v
set_option maxRecDepth 100000 in
set_option maxHeartbeats 4000000 in
theorem sets_walk (w : World) (t : Tm) (ht : t.Ok) (op other : Int) (on : Bool) : Calls Try.prog 8 #[.agg (flagsV t op other on)] w fun e w' => e = .returned (.bool true) ∧ Hid (Below w.heap.size w w') := by
  have hl := ht.len
  obtain ⟨f0, f1, f2, f3, f4⟩ := front_at hl (.int .i64 op) (.int .i64 other) (.bool on)
  have hsz : Hid ((Try.prog.info? 52).map (·.size) = some (flagsV t op other on).size) := hid (by unfold flagsV; rw [f0]; exact Try.size52)
  have HB0 : Hid (Box (w.alloc (.cells (flagsV t op other on) 52)) w.heap.size 52 (flagsV t op other on)) := hid (Box.new w 52 _)
  have HK0 : Hid (Below w.heap.size w (w.alloc (.cells (flagsV t op other on) 52))) := hid ((Below.refl _ w).alloc (Nat.le_refl _) _)
  have F1 := hid f1
  have F2 : Hid ((flagsV t op other on)[24]? = some (.int .i64 op)) := hid f2
  have F3 : Hid ((flagsV t op other on)[25]? = some (.int .i64 other)) := hid f3
  have F4 : Hid ((flagsV t op other on)[26]? = some (.bool on)) := hid f4
  clear f0 f1 f2 f3 f4
  go_enter Try.func8, Try.ntmps8
  go_wp2_with (first
    | (refine bxT (by rfl) 52 _ (by rfl) _ (by rfl) hsz.out ?_)
    | (go_at_call 9
       (with_reducible refine (call_alive _).mono ?_)
       rintro e u1 ⟨rfl, K1⟩
       have HB1 := hid (box_below HB0.out K1.out)
       have HK1 := bel_t HK0 K1.out
       clear K1 HB0 HK0))
  obtain ⟨r1, r2⟩ := front_R (W := u1.drew) (g := w.heap.size) hl HB1.out F1.out
  obtain ⟨r3, r4⟩ := front_R (W := (u1.alloc (.cells #[.int .u8 0, .int .u8 0, .int .u8 0, .int .u8 0, .int .u8 0, .int .u8 0, .int .u8 0, .int .u8 0, .int .u8 0, .int .u8 0, .int .u8 0, .int .u8 0, .int .u8 0, .int .u8 0, .int .u8 0, .int .u8 0, .int .u8 0, .int .u8 0, .int .u8 0, .int .u64 0, .int .u32 0, .int .u32 0, .int .i64 0, .int .i64 0] 26)).drew) (g := w.heap.size) hl (box_below HB1.out ((Below.refl _ u1).alloc (Nat.le_refl _) _).drew) F1.out
  obtain ⟨r31, r41⟩ := front_R (W := u1.drew.alloc (.cells #[.int .u8 0, .int .u8 0, .int .u8 0, .int .u8 0, .int .u8 0, .int .u8 0, .int .u8 0, .int .u8 0, .int .u8 0, .int .u8 0, .int .u8 0, .int .u8 0, .int .u8 0, .int .u8 0, .int .u8 0, .int .u8 0, .int .u8 0, .int .u8 0, .int .u8 0, .int .u64 0, .int .u32 0, .int .u32 0, .int .i64 0, .int .i64 0] 26)) (g := w.heap.size) hl (box_below HB1.out ((Below.refl _ u1).alloc (Nat.le_refl _) _).drew) F1.out
  have r5 := isB_new u1 #[.int .u8 0, .int .u8 0, .int .u8 0, .int .u8 0, .int .u8 0, .int .u8 0, .int .u8 0, .int .u8 0, .int .u8 0, .int .u8 0, .int .u8 0, .int .u8 0, .int .u8 0, .int .u8 0, .int .u8 0, .int .u8 0, .int .u8 0, .int .u8 0, .int .u8 0, .int .u64 0, .int .u32 0, .int .u32 0, .int .i64 0, .int .i64 0] rfl
  have r51 := isB_new u1.drew #[.int .u8 0, .int .u8 0, .int .u8 0, .int .u8 0, .int .u8 0, .int .u8 0, .int .u8 0, .int .u8 0, .int .u8 0, .int .u8 0, .int .u8 0, .int .u8 0, .int .u8 0, .int .u8 0, .int .u8 0, .int .u8 0, .int .u8 0, .int .u8 0, .int .u8 0, .int .u64 0, .int .u32 0, .int .u32 0, .int .i64 0, .int .i64 0] rfl
  have r52 : isB (u1.alloc (.cells #[.int .u8 0, .int .u8 0, .int .u8 0, .int .u8 0, .int .u8 0, .int .u8 0, .int .u8 0, .int .u8 0, .int .u8 0, .int .u8 0, .int .u8 0, .int .u8 0, .int .u8 0, .int .u8 0, .int .u8 0, .int .u8 0, .int .u8 0, .int .u8 0, .int .u8 0, .int .u64 0, .int .u32 0, .int .u32 0, .int .i64 0, .int .i64 0] 26)).drew u1.heap.size = true := r5
  have r53 : isB (u1.drew.alloc (.cells #[.int .u8 0, .int .u8 0, .int .u8 0, .int .u8 0, .int .u8 0, .int .u8 0, .int .u8 0, .int .u8 0, .int .u8 0, .int .u8 0, .int .u8 0, .int .u8 0, .int .u8 0, .int .u8 0, .int .u8 0, .int .u8 0, .int .u8 0, .int .u8 0, .int .u8 0, .int .u64 0, .int .u32 0, .int .u32 0, .int .i64 0, .int .i64 0] 26)) u1.heap.size = true := r51
  have c24 : u1.cell? ⟨w.heap.size, 24, none⟩ = some (.int .i64 op) := (HB1.out.cell 24).trans F2.out
  have c25 : u1.cell? ⟨w.heap.size, 25, none⟩ = some (.int .i64 other) := (HB1.out.cell 25).trans F3.out
  have c26 : u1.cell? ⟨w.heap.size, 26, none⟩ = some (.bool on) := (HB1.out.cell 26).trans F4.out
  have d24 : ∀ o, (u1.alloc o).cell? ⟨w.heap.size, 24, none⟩ = some (.int .i64 op) := fun o => cellOld o c24
  have d25 : ∀ o, (u1.alloc o).cell? ⟨w.heap.size, 25, none⟩ = some (.int .i64 other) := fun o => cellOld o c25
  have d26 : ∀ o, (u1.alloc o).cell? ⟨w.heap.size, 26, none⟩ = some (.bool on) := fun o => cellOld o c26
  have hne : w.heap.size ≠ u1.heap.size := by have := HB1.out.lt; omega
  have e24 : ∀ o cs, ((u1.alloc o).drew.setRow u1.heap.size cs).cell? ⟨w.heap.size, 24, none⟩ = some (.int .i64 op) := fun o cs => (cell_setRow_other _ _ _ _ hne).trans (d24 o)
  have e25 : ∀ o cs, ((u1.alloc o).drew.setRow u1.heap.size cs).cell? ⟨w.heap.size, 25, none⟩ = some (.int .i64 other) := fun o cs => (cell_setRow_other _ _ _ _ hne).trans (d25 o)
  have e26 : ∀ o cs, ((u1.alloc o).drew.setRow u1.heap.size cs).cell? ⟨w.heap.size, 26, none⟩ = some (.bool on) := fun o cs => (cell_setRow_other _ _ _ _ hne).trans (d26 o)
  obtain ⟨r6, r7⟩ := okS_cs hl
  go_region
  all_goals
    obtain ⟨HK3, HG3, HL3⟩ := bel_new (g := u1.heap.size) t.cs #[.int .u8 0, .int .u8 0, .int .u8 0, .int .u8 0, .int .u8 0, .int .u8 0, .int .u8 0, .int .u8 0, .int .u8 0, .int .u8 0, .int .u8 0, .int .u8 0, .int .u8 0, .int .u8 0, .int .u8 0, .int .u8 0, .int .u8 0, .int .u8 0, .int .u8 0, .int .u64 0, .int .u32 0, .int .u32 0, .int .i64 0, .int .i64 0] rfl HK1
    generalize hW : World.setRow _ _ _ = u3 at HK3 HG3 HL3 ⊢
    clear hW r1 r2 r3 r4 r31 r41 r5 r51 r52 r53 c24 c25 c26 d24 d25 d26 e24 e25 e26 hne HB1 HL3 HK1
    generalize u1.heap.size = g3 at HG3 ⊢
    clear F1 F2 F3 F4
    have hts := cs_size hl
    cases on
    · have HX : Hid ((setT t op false).Ok) := hid (setT_ok ht op false)
      have hxl := HX.out.len
      have hxs := cs_size hxl
      go_wp2_with (first
        | (refine ld26 (by rfl) _ (by rfl) _ (by rfl) t.cs HG3.out hts ?_)
        | (go_at_call 14
           (with_reducible refine (set_any _ t ht op false).mono ?_)
           rintro e u4 ⟨rfl, K4⟩
           have HK4 := bel_t HK3 K4.out
           have HG4 := hid (box_below HG3.out K4.out)
           clear HK3 HG3 K4)
        | (refine sn26 (by rfl) _ _ (by rfl) u4 _ rfl rfl (by rfl) (setT t op false) hxl (by rfl) ?_
           intro u5 hb5 hk5
           have HK5 := bel_t HK4 hk5.out
           have HG5 := hid (box_below HG4.out hk5.out)
           clear HK4 HG4 hk5))
      dsimp only [Act.put]
      generalize u4.heap.size = g7 at hb5 ⊢
      obtain ⟨q1, q2⟩ := box_isB HG5.out hl
      obtain ⟨q3, q4⟩ := box_isB hb5.out hxl
      have i1 := isT_cs hl
      have i2 := isT_cs hxl
      have a1 := setT_again ht op false false
      have a2 := setT_again ht op true false
      have v1 := eqV_of hxl hxl (eqT_self (setT t op false))
      have o1 := setT_ok ht op true
      have hh : op ≠ other → hasN (setT t op false).f other = hasN t.f other := fun hne => by
        show hasN (setN t.f op false) other = _
        rw [setN_has ht.f, if_neg (fun h => hne h.2)]
      by_cases hoo : op = other
      · subst hoo
        have hn : (op != op) = false := by simp
        refine wp_region_grown (by kernel_rfl) (by kernel_rfl) ?_
        repeat (go_big_quiet_step (first | (go_at_call 14; first | (with_reducible exact q14 HX.out a1) | (with_reducible exact q14 ht rfl) | (with_reducible exact q14 o1 a2)) | (go_at_call 12; first | (with_reducible exact q12 HX.out hh1) | (with_reducible exact q12 ht hb))))
        refine wpQuiet_nil ?_
        intro z
        have HK6 : Hid (Below w.heap.size w (grw z)) := bel_t HK5 z.b
        have HG6 := hid (gr_box z HG5.out)
        have HX6 := hid (gr_box z hb5.out)
        generalize grw z = u6 at HK6 HG6 HX6 ⊢
        clear HK5 HG5 hb5 q1 q2 q3 q4
        cases hbq : eqT (setT t op false) t
        · have hfo : flagB op = true ∧ hasN t.f op = true := by
            by_cases hf : flagB op = true
            · refine ⟨hf, ?_⟩
              cases hz : hasN t.f op <;> first | rfl | (exfalso; rw [setT_same ht hz, eqT_self] at hbq; cases hbq)
            · exfalso
              rw [setT_no (by simpa using hf), eqT_self] at hbq
              cases hbq
          have n1 : hasN (setT t op false).f op = false := by
            show hasN (setN t.f op false) op = _
            rw [setN_has ht.f, if_pos ⟨hfo.1, rfl⟩]
          have n2 : setT (setT t op false) op true = t := setT_back ht hfo.2
          have n3 := right_set ht op false
          have v2 := eqV_of hl hl (eqT_self t)
          go_wp2_with (first
            | (refine ld26 (by rfl) _ (by rfl) _ (by rfl) t.cs HG6.out hts ?_)
            | (refine ld26 (by rfl) _ (by rfl) _ (by rfl) (setT t op false).cs HX6.out hxs ?_)
            | (refine eqw26 (by rfl) _ _ _ (by rfl) (setT t op false) t hxl hl (by rfl) (by rfl) false hbq ?_))
          simp only [Act.put, List.setIfInBounds_toArray, List.set_cons_succ, List.set_cons_zero]
          obtain ⟨q1, q2⟩ := box_isB HG6.out hl
          obtain ⟨q3, q4⟩ := box_isB HX6.out hxl
          cases hr : rightB t
          all_goals
            rw [hr] at n3
            refine wp_region_grown (by kernel_rfl) (by kernel_rfl) ?_
            repeat (go_big_quiet_step (first | (go_at_call 14; with_reducible exact q14 HX.out n2) | (go_at_call 12; with_reducible exact q12 HX.out n1) | (go_at_call 18; first | (with_reducible exact q18 HX.out n3) | (with_reducible exact q18 ht hr))))
            refine wpQuiet_nil ?_
            intro z
            go_wp2
            go_ret
            exact ⟨rfl, bel_t HK6 z.b⟩
        · go_wp2_with (first
            | (refine ld26 (by rfl) _ (by rfl) _ (by rfl) t.cs HG6.out hts ?_)
            | (refine ld26 (by rfl) _ (by rfl) _ (by rfl) (setT t op false).cs HX6.out hxs ?_)
            | (refine eqw26 (by rfl) _ _ _ (by rfl) (setT t op false) t hxl hl (by rfl) (by rfl) true hbq ?_))
          go_ret
          exact ⟨rfl, HK6⟩
      · have hn : (op != other) = true := by simp [hoo]
        have hh1 := hh hoo
        cases hb : hasN t.f other
        all_goals
          rw [hb] at hh1
          refine wp_region_grown (by kernel_rfl) (by kernel_rfl) ?_
          repeat (go_big_quiet_step (first | (go_at_call 14; first | (with_reducible exact q14 HX.out a1) | (with_reducible exact q14 ht rfl) | (with_reducible exact q14 o1 a2)) | (go_at_call 12; first | (with_reducible exact q12 HX.out hh1) | (with_reducible exact q12 ht hb))))
          refine wpQuiet_nil ?_
          intro z
          have HK6 : Hid (Below w.heap.size w (grw z)) := bel_t HK5 z.b
          have HG6 := hid (gr_box z HG5.out)
          have HX6 := hid (gr_box z hb5.out)
          generalize grw z = u6 at HK6 HG6 HX6 ⊢
          clear HK5 HG5 hb5 q1 q2 q3 q4
          cases hbq : eqT (setT t op false) t
          · have hfo : flagB op = true ∧ hasN t.f op = true := by
              by_cases hf : flagB op = true
              · refine ⟨hf, ?_⟩
                cases hz : hasN t.f op <;> first | rfl | (exfalso; rw [setT_same ht hz, eqT_self] at hbq; cases hbq)
              · exfalso
                rw [setT_no (by simpa using hf), eqT_self] at hbq
                cases hbq
            have n1 : hasN (setT t op false).f op = false := by
              show hasN (setN t.f op false) op = _
              rw [setN_has ht.f, if_pos ⟨hfo.1, rfl⟩]
            have n2 : setT (setT t op false) op true = t := setT_back ht hfo.2
            have n3 := right_set ht op false
            have v2 := eqV_of hl hl (eqT_self t)
            go_wp2_with (first
              | (refine ld26 (by rfl) _ (by rfl) _ (by rfl) t.cs HG6.out hts ?_)
              | (refine ld26 (by rfl) _ (by rfl) _ (by rfl) (setT t op false).cs HX6.out hxs ?_)
              | (refine eqw26 (by rfl) _ _ _ (by rfl) (setT t op false) t hxl hl (by rfl) (by rfl) false hbq ?_))
            simp only [Act.put, List.setIfInBounds_toArray, List.set_cons_succ, List.set_cons_zero]
            obtain ⟨q1, q2⟩ := box_isB HG6.out hl
            obtain ⟨q3, q4⟩ := box_isB HX6.out hxl
            cases hr : rightB t
            all_goals
              rw [hr] at n3
              refine wp_region_grown (by kernel_rfl) (by kernel_rfl) ?_
              repeat (go_big_quiet_step (first | (go_at_call 14; with_reducible exact q14 HX.out n2) | (go_at_call 12; with_reducible exact q12 HX.out n1) | (go_at_call 18; first | (with_reducible exact q18 HX.out n3) | (with_reducible exact q18 ht hr))))
              refine wpQuiet_nil ?_
              intro z
              go_wp2
              go_ret
              exact ⟨rfl, bel_t HK6 z.b⟩
          · go_wp2_with (first
              | (refine ld26 (by rfl) _ (by rfl) _ (by rfl) t.cs HG6.out hts ?_)
              | (refine ld26 (by rfl) _ (by rfl) _ (by rfl) (setT t op false).cs HX6.out hxs ?_)
              | (refine eqw26 (by rfl) _ _ _ (by rfl) (setT t op false) t hxl hl (by rfl) (by rfl) true hbq ?_))
            go_ret
            exact ⟨rfl, HK6⟩
    · have HX : Hid ((setT t op true).Ok) := hid (setT_ok ht op true)
      have hxl := HX.out.len
      have hxs := cs_size hxl
      go_wp2_with (first
        | (refine ld26 (by rfl) _ (by rfl) _ (by rfl) t.cs HG3.out hts ?_)
        | (go_at_call 14
           (with_reducible refine (set_any _ t ht op true).mono ?_)
           rintro e u4 ⟨rfl, K4⟩
           have HK4 := bel_t HK3 K4.out
           have HG4 := hid (box_below HG3.out K4.out)
           clear HK3 HG3 K4)
        | (refine sn26 (by rfl) _ _ (by rfl) u4 _ rfl rfl (by rfl) (setT t op true) hxl (by rfl) ?_
           intro u5 hb5 hk5
           have HK5 := bel_t HK4 hk5.out
           have HG5 := hid (box_below HG4.out hk5.out)
           clear HK4 HG4 hk5))
      dsimp only [Act.put]
      generalize u4.heap.size = g7 at hb5 ⊢
      obtain ⟨q1, q2⟩ := box_isB HG5.out hl
      obtain ⟨q3, q4⟩ := box_isB hb5.out hxl
      have i1 := isT_cs hl
      have i2 := isT_cs hxl
      have a1 := setT_again ht op true true
      have a2 := setT_again ht op false true
      have v1 := eqV_of hxl hxl (eqT_self (setT t op true))
      have o1 := setT_ok ht op false
      have hh : op ≠ other → hasN (setT t op true).f other = hasN t.f other := fun hne => by
        show hasN (setN t.f op true) other = _
        rw [setN_has ht.f, if_neg (fun h => hne h.2)]
      by_cases hoo : op = other
      · subst hoo
        have hn : (op != op) = false := by simp
        refine wp_region_grown (by kernel_rfl) (by kernel_rfl) ?_
        repeat (go_big_quiet_step (first | (go_at_call 14; first | (with_reducible exact q14 HX.out a1) | (with_reducible exact q14 ht rfl) | (with_reducible exact q14 o1 a2)) | (go_at_call 12; first | (with_reducible exact q12 HX.out hh1) | (with_reducible exact q12 ht hb))))
        refine wpQuiet_nil ?_
        intro z
        have HK6 : Hid (Below w.heap.size w (grw z)) := bel_t HK5 z.b
        have HG6 := hid (gr_box z HG5.out)
        have HX6 := hid (gr_box z hb5.out)
        generalize grw z = u6 at HK6 HG6 HX6 ⊢
        clear HK5 HG5 hb5 q1 q2 q3 q4
        cases hbq : eqT (setT t op true) t
        · have hfo : flagB op = true ∧ hasN t.f op = false := by
            by_cases hf : flagB op = true
            · refine ⟨hf, ?_⟩
              cases hz : hasN t.f op <;> first | rfl | (exfalso; rw [setT_same ht hz, eqT_self] at hbq; cases hbq)
            · exfalso
              rw [setT_no (by simpa using hf), eqT_self] at hbq
              cases hbq
          have n1 : hasN (setT t op true).f op = true := by
            show hasN (setN t.f op true) op = _
            rw [setN_has ht.f, if_pos ⟨hfo.1, rfl⟩]
          have n2 : setT (setT t op true) op false = t := setT_back ht hfo.2
          have n3 := right_set ht op true
          have v2 := eqV_of hl hl (eqT_self t)
          go_wp2_with (first
            | (refine ld26 (by rfl) _ (by rfl) _ (by rfl) t.cs HG6.out hts ?_)
            | (refine ld26 (by rfl) _ (by rfl) _ (by rfl) (setT t op true).cs HX6.out hxs ?_)
            | (refine eqw26 (by rfl) _ _ _ (by rfl) (setT t op true) t hxl hl (by rfl) (by rfl) false hbq ?_))
          simp only [Act.put, List.setIfInBounds_toArray, List.set_cons_succ, List.set_cons_zero]
          obtain ⟨q1, q2⟩ := box_isB HG6.out hl
          obtain ⟨q3, q4⟩ := box_isB HX6.out hxl
          cases hr : rightB t
          all_goals
            rw [hr] at n3
            refine wp_region_grown (by kernel_rfl) (by kernel_rfl) ?_
            repeat (go_big_quiet_step (first | (go_at_call 14; with_reducible exact q14 HX.out n2) | (go_at_call 12; with_reducible exact q12 HX.out n1) | (go_at_call 18; first | (with_reducible exact q18 HX.out n3) | (with_reducible exact q18 ht hr))))
            refine wpQuiet_nil ?_
            intro z
            go_wp2
            go_ret
            exact ⟨rfl, bel_t HK6 z.b⟩
        · go_wp2_with (first
            | (refine ld26 (by rfl) _ (by rfl) _ (by rfl) t.cs HG6.out hts ?_)
            | (refine ld26 (by rfl) _ (by rfl) _ (by rfl) (setT t op true).cs HX6.out hxs ?_)
            | (refine eqw26 (by rfl) _ _ _ (by rfl) (setT t op true) t hxl hl (by rfl) (by rfl) true hbq ?_))
          go_ret
          exact ⟨rfl, HK6⟩
      · have hn : (op != other) = true := by simp [hoo]
        have hh1 := hh hoo
        cases hb : hasN t.f other
        all_goals
          rw [hb] at hh1
          refine wp_region_grown (by kernel_rfl) (by kernel_rfl) ?_
          repeat (go_big_quiet_step (first | (go_at_call 14; first | (with_reducible exact q14 HX.out a1) | (with_reducible exact q14 ht rfl) | (with_reducible exact q14 o1 a2)) | (go_at_call 12; first | (with_reducible exact q12 HX.out hh1) | (with_reducible exact q12 ht hb))))
          refine wpQuiet_nil ?_
          intro z
          have HK6 : Hid (Below w.heap.size w (grw z)) := bel_t HK5 z.b
          have HG6 := hid (gr_box z HG5.out)
          have HX6 := hid (gr_box z hb5.out)
          generalize grw z = u6 at HK6 HG6 HX6 ⊢
          clear HK5 HG5 hb5 q1 q2 q3 q4
          cases hbq : eqT (setT t op true) t
          · have hfo : flagB op = true ∧ hasN t.f op = false := by
              by_cases hf : flagB op = true
              · refine ⟨hf, ?_⟩
                cases hz : hasN t.f op <;> first | rfl | (exfalso; rw [setT_same ht hz, eqT_self] at hbq; cases hbq)
              · exfalso
                rw [setT_no (by simpa using hf), eqT_self] at hbq
                cases hbq
            have n1 : hasN (setT t op true).f op = true := by
              show hasN (setN t.f op true) op = _
              rw [setN_has ht.f, if_pos ⟨hfo.1, rfl⟩]
            have n2 : setT (setT t op true) op false = t := setT_back ht hfo.2
            have n3 := right_set ht op true
            have v2 := eqV_of hl hl (eqT_self t)
            go_wp2_with (first
              | (refine ld26 (by rfl) _ (by rfl) _ (by rfl) t.cs HG6.out hts ?_)
              | (refine ld26 (by rfl) _ (by rfl) _ (by rfl) (setT t op true).cs HX6.out hxs ?_)
              | (refine eqw26 (by rfl) _ _ _ (by rfl) (setT t op true) t hxl hl (by rfl) (by rfl) false hbq ?_))
            simp only [Act.put, List.setIfInBounds_toArray, List.set_cons_succ, List.set_cons_zero]
            obtain ⟨q1, q2⟩ := box_isB HG6.out hl
            obtain ⟨q3, q4⟩ := box_isB HX6.out hxl
            cases hr : rightB t
            all_goals
              rw [hr] at n3
              refine wp_region_grown (by kernel_rfl) (by kernel_rfl) ?_
              repeat (go_big_quiet_step (first | (go_at_call 14; with_reducible exact q14 HX.out n2) | (go_at_call 12; with_reducible exact q12 HX.out n1) | (go_at_call 18; first | (with_reducible exact q18 HX.out n3) | (with_reducible exact q18 ht hr))))
              refine wpQuiet_nil ?_
              intro z
              go_wp2
              go_ret
              exact ⟨rfl, bel_t HK6 z.b⟩
          · go_wp2_with (first
              | (refine ld26 (by rfl) _ (by rfl) _ (by rfl) t.cs HG6.out hts ?_)
              | (refine ld26 (by rfl) _ (by rfl) _ (by rfl) (setT t op true).cs HX6.out hxs ?_)
              | (refine eqw26 (by rfl) _ _ _ (by rfl) (setT t op true) t hxl hl (by rfl) (by rfl) true hbq ?_))
            go_ret
            exact ⟨rfl, HK6⟩
end Go.Proofs.Ytbkgicbhdkffmaa
