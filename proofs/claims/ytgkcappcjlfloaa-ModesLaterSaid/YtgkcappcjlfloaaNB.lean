import Derived.Test.YtgkcappcjlfloaaNI
import Derived.Test.YtgkcappcjlfloaaNA
import Derived.Deep.RegionLaw
namespace Go.Proofs.Ytgkcappcjlfloaa
open Go.RowKit

theorem run_boxT (w : World) (T : TypeId) (cs : Array Value) (hT : (Try.prog.info? T).map (·.size) = some cs.size) : (Instr.box T (.agg cs)).run Try.prog w = .ok (.pointer (some ⟨w.heap.size, 0, none⟩)) (w.alloc (.cells cs T)) := by
  cases hq : Try.prog.info? T with
  | none => simp [hq] at hT
  | some i => simp [hq] at hT; simp [Instr.box, newVar, newRow, Value.cells]
theorem bxT {ops : Array Oper} {rest : List Oper} {o : Oper} {a : Act} {w : World} {Q : Exit → Act → World → Prop} (hw : Region.wanted o (yielded ops a.tmps) = true) (T : TypeId) (x : Operand) (ho : o.op = .box T x) (cs : Array Value) (hx : a.eval x = .agg cs) (hT : (Try.prog.info? T).map (·.size) = some cs.size)
    (h : wpList Try.prog ops Q rest (a.put o.dst (.pointer (some ⟨w.heap.size, 0, none⟩))) (w.alloc (.cells cs T))) : wpList Try.prog ops Q (o :: rest) a w :=
  BigFrame.wpList_want hw fun _ hK => by
    unfold Oper.wp execOp
    simp only [ho, hx, Sem.run_bind, run_boxT w T cs hT, Result.andThen_ok]
    exact hK _ _ h
theorem Try.size52 : (Try.prog.info? 52).map (·.size) = some 27 := by kernel_rfl
theorem Try.size28 : (Try.prog.info? 28).map (·.size) = some 27 := by kernel_rfl
theorem Try.size49 : (Try.prog.info? 49).map (·.size) = some 27 := by kernel_rfl
theorem isB_new (w : World) (cs : Array Value) (hs : cs.size = 24) : isB (w.alloc (.cells cs 26)) w.heap.size = true := by
  unfold isB
  rw [heap_alloc_new]
  simp [hs]
theorem call_alive4 (w : World) : Calls Try.prog 9 #[] w fun e w' => e = .returned (.bool true) ∧ Hid (Below w.heap.size w w') := alive_any w
theorem setRow_drew (w : World) (g : Nat) (cs : Array Value) : w.drew.setRow g cs = (w.setRow g cs).drew := rfl
theorem bel_new {w u : World} {g : Nat} (cs cs' : Array Value) (hg : g = u.heap.size) (h : Hid (Below w.heap.size w u)) : Hid (Below w.heap.size w ((u.alloc (.cells cs' 26)).drew.setRow g cs)) ∧ Hid (Box ((u.alloc (.cells cs' 26)).drew.setRow g cs) g 26 cs) ∧ Hid (Below u.heap.size u ((u.alloc (.cells cs' 26)).drew.setRow g cs)) := by
  subst hg
  have h1 : Below u.heap.size u ((u.alloc (.cells cs' 26)).drew.setRow u.heap.size cs) := (((Below.refl _ u).alloc (Nat.le_refl _) _).drew).trans ((Turn.setRow _ u.heap.size cs).below (Nat.le_refl _))
  exact ⟨bel_t h h1, hid (setRow_heap _ _ cs' cs 26 _ (heap_alloc_new u _)), hid h1⟩
theorem two_at {t : Tm} (ht : t.c.length = 19) (A B : Option Addr) (n c m d : Nat) (x : UInt8) : (twoV A n c x B m d t).size = 27 ∧ (∀ (j : Nat) (v : Value), t.cl[j]? = some v → (twoV A n c x B m d t)[3 + j]? = some v) ∧ (twoV A n c x B m d t)[0]? = some (.slice A n c) ∧ (twoV A n c x B m d t)[1]? = some (.int .u8 (x.toNat : Int)) ∧ (twoV A n c x B m d t)[2]? = some (.slice B m d) := by
  have hl := cl_len ht
  unfold twoV
  refine ⟨by simp [hl], fun j v hj => ?_, rfl, rfl, rfl⟩
  rw [List.getElem?_toArray, List.getElem?_append_right (by simp)]
  simpa using hj
theorem two_R {W : World} {g : Nat} {T : TypeId} {cs : Array Value} {t : Tm} (ht : t.c.length = 19) (hb : Box W g T cs) (hc : ∀ (j : Nat) (v : Value), t.cl[j]? = some v → cs[3 + j]? = some v) : isR W (.pointer (some ⟨g, 3, none⟩)) = true ∧ csR W (.pointer (some ⟨g, 3, none⟩)) = t.cs :=
  isR_of (fun j v hj => by rw [hb.cell (3 + j)]; exact hc j v hj) ht
theorem call_alive3 (w : World) : Calls Try.prog 9 #[] w fun e w' => e = .returned (.bool true) ∧ Hid (Below w.heap.size w w') := alive_any w
theorem wrap5 {p : Nat} (hb : (p : Int) + 5 < 9223372036854775808) : wrap64 ((p : Int) + 5) = ((p + 5 : Nat) : Int) := by unfold wrap64; omega
theorem meas5 {k p : Nat} (h : p < k) (hb : (p : Int) + 5 < 9223372036854775808) : k - (intOf (.int .i64 (wrap64 ((p : Int) + 5)))).toNat < k - (intOf (.int .i64 (p : Int))).toNat := by
  rw [wrap5 hb]
  simp only [intOf, Int.toNat_natCast]
  omega
theorem val5 {p j : Nat} (hp : p = 5 * j) (hb : (p : Int) + 5 < 9223372036854775808) : Value.int .i64 (wrap64 ((p : Int) + 5)) = .int .i64 ((5 * (j + 1) : Nat) : Int) := by
  rw [wrap5 hb, show p + 5 = 5 * (j + 1) by omega]
theorem later_k (x : UInt8) (n : Nat) (hn : n ≤ 5000) : ∃ k q : Nat, Hid (k = 5 * q) ∧ Hid (k ≤ n) ∧ wrap64 (5 * (wrap64 (x.toNat : Int)).tmod ((n : Int) / 5 + 1)) = (k : Int) := by
  have hx := x.toNat_lt
  have h1 : wrap64 (x.toNat : Int) = (x.toNat : Int) := by unfold wrap64; omega
  have h2 : (x.toNat : Int).tmod ((n : Int) / 5 + 1) = ((x.toNat % (n / 5 + 1) : Nat) : Int) := by
    rw [Int.tmod_eq_emod_of_nonneg (by omega)]
    push_cast
    rfl
  have h3 : x.toNat % (n / 5 + 1) < n / 5 + 1 := Nat.mod_lt _ (by omega)
  rw [h1, h2]
  generalize x.toNat % (n / 5 + 1) = q at h3
  exact ⟨5 * q, q, hid rfl, hid (by omega), by unfold wrap64; omega⟩
theorem sl38 {ops : Array Oper} {rest : List Oper} {o : Oper} {a : Act} {w : World} {Q : Exit → Act → World → Prop} (hw : Region.wanted o (yielded ops a.tmps) = true) (x y : Operand) (ho : o.op = .slice 38 x none (some y) none) (A : Option Addr) (n c k : Nat) (hx : a.eval x = .slice A n c) (hy : a.eval y = .int .i64 (k : Int)) (hk : k ≤ c) (hc : A = none → c = 0)
    (h : wpList Try.prog ops Q rest (a.put o.dst (.slice A k c)) w) : wpList Try.prog ops Q (o :: rest) a w :=
  BigFrame.wpList_want hw fun K hK => by
    have h2 := hK _ _ h
    have hrun : (Instr.sliceAt 38 (.slice A n c) none (some (.int .i64 (k : Int))) none).run Try.prog w = .ok (.slice A k c) w := by
      have hk2 : (k : Int) ≤ (c : Int) := by omega
      rcases A with _ | ad
      · obtain rfl := hc rfl
        obtain rfl : k = 0 := by omega
        simp [Instr.sliceAt, Instr.slice, go_sem]
      · simp [Instr.sliceAt, Instr.slice, go_sem, hk2]
    unfold Oper.wp execOp
    simp only [ho, hx, hy, Option.map_some, Option.map_none, Sem.run_bind, hrun, Result.andThen_ok, Sem.run_pure]
    exact h2
attribute [local go_sem ↓] wp_st26 wp_ldR ex_ld26 ex_st26 Go.wp_at_zero Go.wp_at_succ
attribute [local go_sem] isP_v blkV_v aggV_v bel_al bel_dr isB_al isB_dr isB_nw
set_option maxRecDepth 100000 in
set_option maxHeartbeats 40000000 in
theorem later_walk (w : World) (t : Tm) (ht : t.Ok) (A B : Option Addr) (n c m d : Nat) (x : UInt8) (al bl : List UInt8) (hA : Hid (SlB w w.heap.size A c al)) (hB : Hid (SlB w w.heap.size B d bl)) (hn : al.length = n) (hm : bl.length = m) :
    Calls Try.prog 7 #[.agg (twoV A n c x B m d t)] w fun e w' => e = .returned (.bool true) ∧ Hid (Below w.heap.size w w') := by
  have hl := ht.len
  obtain ⟨f0, f1, f2, f3, f4⟩ := two_at hl A B n c m d x
  have hsz : Hid ((Try.prog.info? 49).map (·.size) = some (twoV A n c x B m d t).size) := hid (by rw [f0]; exact Try.size49)
  have HB0 : Hid (Box (w.alloc (.cells (twoV A n c x B m d t) 49)) w.heap.size 49 (twoV A n c x B m d t)) := hid (Box.new w 49 _)
  have HK0 : Hid (Below w.heap.size w (w.alloc (.cells (twoV A n c x B m d t) 49))) := hid ((Below.refl _ w).alloc (Nat.le_refl _) _)
  have F1 := hid f1
  have F2 := hid f2
  have F3 := hid f3
  have F4 := hid f4
  clear f0 f1 f2 f3 f4
  go_enter Try.func7, Try.ntmps7
  go_wp2_with (first
    | (refine bxT (by rfl) 49 _ (by rfl) _ (by rfl) hsz.out ?_)
    | (go_at_call 9
       (with_reducible refine (call_alive3 _).mono ?_)
       rintro e u1 ⟨rfl, K1⟩
       have HB1 := hid (box_below HB0.out K1.out)
       have HK1 := bel_t HK0 K1.out
       clear K1 HB0 HK0))
  obtain ⟨r1, r2⟩ := two_R (W := u1.drew) (g := w.heap.size) hl HB1.out F1.out
  obtain ⟨r3, r4⟩ := two_R (W := (u1.alloc (.cells #[.int .u8 0, .int .u8 0, .int .u8 0, .int .u8 0, .int .u8 0, .int .u8 0, .int .u8 0, .int .u8 0, .int .u8 0, .int .u8 0, .int .u8 0, .int .u8 0, .int .u8 0, .int .u8 0, .int .u8 0, .int .u8 0, .int .u8 0, .int .u8 0, .int .u8 0, .int .u64 0, .int .u32 0, .int .u32 0, .int .i64 0, .int .i64 0] 26)).drew) (g := w.heap.size) hl (box_below HB1.out ((Below.refl _ u1).alloc (Nat.le_refl _) _).drew) F1.out
  obtain ⟨r31, r41⟩ := two_R (W := u1.drew.alloc (.cells #[.int .u8 0, .int .u8 0, .int .u8 0, .int .u8 0, .int .u8 0, .int .u8 0, .int .u8 0, .int .u8 0, .int .u8 0, .int .u8 0, .int .u8 0, .int .u8 0, .int .u8 0, .int .u8 0, .int .u8 0, .int .u8 0, .int .u8 0, .int .u8 0, .int .u8 0, .int .u64 0, .int .u32 0, .int .u32 0, .int .i64 0, .int .i64 0] 26)) (g := w.heap.size) hl (box_below HB1.out ((Below.refl _ u1).alloc (Nat.le_refl _) _).drew) F1.out
  have r5 := isB_new u1 #[.int .u8 0, .int .u8 0, .int .u8 0, .int .u8 0, .int .u8 0, .int .u8 0, .int .u8 0, .int .u8 0, .int .u8 0, .int .u8 0, .int .u8 0, .int .u8 0, .int .u8 0, .int .u8 0, .int .u8 0, .int .u8 0, .int .u8 0, .int .u8 0, .int .u8 0, .int .u64 0, .int .u32 0, .int .u32 0, .int .i64 0, .int .i64 0] rfl
  have r51 := isB_new u1.drew #[.int .u8 0, .int .u8 0, .int .u8 0, .int .u8 0, .int .u8 0, .int .u8 0, .int .u8 0, .int .u8 0, .int .u8 0, .int .u8 0, .int .u8 0, .int .u8 0, .int .u8 0, .int .u8 0, .int .u8 0, .int .u8 0, .int .u8 0, .int .u8 0, .int .u8 0, .int .u64 0, .int .u32 0, .int .u32 0, .int .i64 0, .int .i64 0] rfl
  have r52 : isB (u1.alloc (.cells #[.int .u8 0, .int .u8 0, .int .u8 0, .int .u8 0, .int .u8 0, .int .u8 0, .int .u8 0, .int .u8 0, .int .u8 0, .int .u8 0, .int .u8 0, .int .u8 0, .int .u8 0, .int .u8 0, .int .u8 0, .int .u8 0, .int .u8 0, .int .u8 0, .int .u8 0, .int .u64 0, .int .u32 0, .int .u32 0, .int .i64 0, .int .i64 0] 26)).drew u1.heap.size = true := r5
  have r53 : isB (u1.drew.alloc (.cells #[.int .u8 0, .int .u8 0, .int .u8 0, .int .u8 0, .int .u8 0, .int .u8 0, .int .u8 0, .int .u8 0, .int .u8 0, .int .u8 0, .int .u8 0, .int .u8 0, .int .u8 0, .int .u8 0, .int .u8 0, .int .u8 0, .int .u8 0, .int .u8 0, .int .u8 0, .int .u64 0, .int .u32 0, .int .u32 0, .int .i64 0, .int .i64 0] 26)) u1.heap.size = true := r51
  have c24 : u1.cell? ⟨w.heap.size, 0, none⟩ = some (.slice A n c) := (HB1.out.cell 0).trans F2.out
  have c25 : u1.cell? ⟨w.heap.size, 1, none⟩ = some (.int .u8 (x.toNat : Int)) := (HB1.out.cell 1).trans F3.out
  have c26 : u1.cell? ⟨w.heap.size, 2, none⟩ = some (.slice B m d) := (HB1.out.cell 2).trans F4.out
  have d24 : ∀ o, (u1.alloc o).cell? ⟨w.heap.size, 0, none⟩ = some (.slice A n c) := fun o => cellOld o c24
  have d25 : ∀ o, (u1.alloc o).cell? ⟨w.heap.size, 1, none⟩ = some (.int .u8 (x.toNat : Int)) := fun o => cellOld o c25
  have d26 : ∀ o, (u1.alloc o).cell? ⟨w.heap.size, 2, none⟩ = some (.slice B m d) := fun o => cellOld o c26
  have hne : w.heap.size ≠ u1.heap.size := by have := HB1.out.lt; omega
  have e24 : ∀ o cs, ((u1.alloc o).drew.setRow u1.heap.size cs).cell? ⟨w.heap.size, 0, none⟩ = some (.slice A n c) := fun o cs => (cell_setRow_other _ _ _ _ hne).trans (d24 o)
  have e25 : ∀ o cs, ((u1.alloc o).drew.setRow u1.heap.size cs).cell? ⟨w.heap.size, 1, none⟩ = some (.int .u8 (x.toNat : Int)) := fun o cs => (cell_setRow_other _ _ _ _ hne).trans (d25 o)
  have e26 : ∀ o cs, ((u1.alloc o).drew.setRow u1.heap.size cs).cell? ⟨w.heap.size, 2, none⟩ = some (.slice B m d) := fun o cs => (cell_setRow_other _ _ _ _ hne).trans (d26 o)
  obtain ⟨r6, r7⟩ := okS_cs hl
  go_region
  all_goals
    obtain ⟨HK3, HG3, HL3⟩ := bel_new (g := u1.heap.size) t.cs #[.int .u8 0, .int .u8 0, .int .u8 0, .int .u8 0, .int .u8 0, .int .u8 0, .int .u8 0, .int .u8 0, .int .u8 0, .int .u8 0, .int .u8 0, .int .u8 0, .int .u8 0, .int .u8 0, .int .u8 0, .int .u8 0, .int .u8 0, .int .u8 0, .int .u8 0, .int .u64 0, .int .u32 0, .int .u32 0, .int .i64 0, .int .i64 0] rfl HK1
    generalize hW : World.setRow _ _ _ = u3 at HK3 HG3 HL3 ⊢
    clear hW r1 r2 r3 r4 r31 r41 r5 r51 r52 r53 c24 c25 c26 d24 d25 d26 e24 e25 e26 hne HB1 HL3 HK1
    generalize u1.heap.size = g3 at HG3 ⊢
    clear F1 F2 F3 F4
    have hts := cs_size hl
    have SA := slb_at hA HK3
    have SB := slb_at hB HK3
    by_cases h1 : 5000 < n
    · have k1 : (5000 : Int) < (n : Int) := by omega
      go_wp2
      go_ret
      exact ⟨rfl, HK3⟩
    · have k1 : ¬ (5000 : Int) < (n : Int) := by omega
      by_cases h2 : 5000 < m
      · have k2 : (5000 : Int) < (m : Int) := by omega
        go_wp2
        go_ret
        exact ⟨rfl, HK3⟩
      · have k2 : ¬ (5000 : Int) < (m : Int) := by omega
        cases hr : rightB t
        · go_wp2_with (first
            | (refine ld26 (by rfl) _ (by rfl) _ (by rfl) t.cs HG3.out hts ?_)
            | (go_at_call 18
               (with_reducible refine (right_b _ ht hr).mono ?_)
               rintro e u4 ⟨rfl, K4⟩
               have HK4 := bel_t HK3 K4.out
               clear K4 HK3))
          go_ret
          exact ⟨rfl, HK4⟩
        · obtain ⟨k, q, hkq, hkn, hk⟩ := later_k x n (by omega)
          have hcn : n ≤ c := by rw [← hn]; exact SA.out.1
          have SF : Hid (SlB u3 u3.heap.size A c (al.take k)) := hid (SA.out.take k)
          have hfl : (al.take k).length = k := by rw [List.length_take, hn]; have := hkn.out; omega
          have kc : (k : Int) ≤ (c : Int) := by have := hkn.out; omega
          generalize al.take k = fs at SF hfl
          clear hA SA hn
          clear al
          go_wp2_with (first
            | (refine ld26 (by rfl) _ (by rfl) _ (by rfl) t.cs HG3.out hts ?_)
            | (go_at_call 18
               (with_reducible refine (right_b _ ht hr).mono ?_)
               rintro e u4 ⟨rfl, K4⟩
               have HK4 := bel_t HK3 K4.out
               have HG4 := hid (box_below HG3.out K4.out)
               have SF4 := slb_at SF K4
               have SB4 := slb_at SB K4
               clear K4 HK3 HG3 SF SB)
            | (refine sl38 (by rfl) _ _ (by rfl) A n c k (by rfl) (by rfl) (by have := hkn.out; omega) SF4.out.2.2.1 ?_)
            | (at_builtin
               (refine app_copy u4 rfl (.tmp 47) (.tmp 50) rfl rfl A k c fs rfl SF4 hfl (by have := hkn.out; omega) ?_)
               intro A2 c2 u5 k5 S5
               have HK5 := bel_trans HK4 k5
               have SB5 := slb_at SB4 k5
               have HG5 := hid (box_below HG4.out k5.out)
               clear k5 HK4 SF4 SB4 HG4))
          clear kc hcn hsz
          obtain ⟨HX, hd1⟩ : ∃ Z : Tm × Int, Hid (decT fs t = Z) := ⟨_, hid rfl⟩
          go_loopw [9] (fun i wr => ∃ j : Nat, j ≤ q ∧ i = .int .i64 ((5 * j : Nat) : Int) ∧ wr = u5 ∧ Hid (∀ i, i < j → endB (fs.getD (5 * i) 0) = false)) (fun i _ => k - (intOf i).toNat)
          case atStart => exact ⟨0, by omega, rfl, rfl, hid (fun i hi => absurd hi (by omega))⟩
          case round =>
            obtain ⟨j, hj, rfl, rfl, hv⟩ := hrel
            by_cases hjq : j < q
            · obtain ⟨p, hp⟩ : ∃ p, p = 5 * j := ⟨_, rfl⟩
              rw [← hp]
              have hpk : p < k := by have := hkq.out; omega
              have hp0 : (p : Int) < (k : Int) := by omega
              have hp1 := hid (show (p : Int) + 5 < 9223372036854775808 by have := hkn.out; omega)
              obtain ⟨y, hy⟩ : ∃ y, fs[p]? = some y := ⟨_, List.getElem?_eq_getElem (by omega)⟩
              have hyd : fs.getD (5 * j) 0 = y := by rw [← hp]; simp [List.getD, hy]
              obtain ⟨b, o, rfl, hb, hc⟩ := S5.out.2.2.2 (by
                intro e
                have : fs = [] := by simpa [bv] using e
                rw [this] at hfl
                simp at hfl
                omega)
              have cy := hc p (.int .u8 (y.toNat : Int)) (by simp [bv, hy])
              have HP := hid hp
              have HYD := hid hyd
              have HJ := hid hj
              clear hc hp hyd hy hj hb
              obtain ⟨Y, hY⟩ : ∃ Y, (y.toNat : Int) = Y := ⟨_, rfl⟩
              rw [hY] at cy
              cases hey : endB y
              · have hy0 : ¬ (Y = 0) := by simp [endB] at hey; omega
                have hy2 : ¬ ((160 : Int) ≤ Y) := by simp [endB] at hey; omega
                have hy3 : decide ((160 : Int) ≤ Y) = false := by simpa using hy2
                have hy4 : (Y == 0) = false := by simpa using hy0
                clear hy0 hy2
                clear hY
                go_wp2
                go_roundw
                case rel => exact ⟨j + 1, by omega, val5 HP.out hp1.out, by first | rfl | trivial, hid (fun i hi => by
                  rcases (by omega : i < j ∨ i = j) with h | h
                  · exact hv.out i h
                  · rw [h, HYD.out]; exact hey)⟩
                case measure => exact meas5 hpk hp1.out
              · by_cases hy0 : Y = 0
                · clear hY
                  go_wp2
                  go_ret
                  exact ⟨rfl, HK5⟩
                · have hy1 : (160 : Int) ≤ Y := by simp [endB] at hey; omega
                  clear hY
                  go_wp2
                  go_ret
                  exact ⟨rfl, HK5⟩
            · obtain rfl : j = q := by omega
              rw [← hkq.out]
              clear hjq hj
              obtain ⟨X, e1⟩ := HX
              have hXo : Hid (X.Ok) := hid (by
                have := dec_ok _ fs t (Nat.le_refl _) ht
                rw [hd1.out] at this
                exact this)
              have happ := dec_app _ fs bl t (by rw [hfl]; exact hkq.out) hv.out
              rw [hd1.out] at happ
              dsimp only at happ
              have hxl := hXo.out.len
              have hxs := cs_size hxl
              go_wp2_with (first
                | (refine ld26 (by rfl) _ (by rfl) _ (by rfl) t.cs HG5.out hts ?_)
                | (go_at_call 22
                   (with_reducible refine (dec_b _ _ _ _ S5 hfl ht hd1.out).mono ?_)
                   rintro e u6 ⟨rfl, K6⟩
                   have HK6 := bel_t HK5 K6.out
                   have HG6 := hid (box_below HG5.out K6.out)
                   have SF6 := slb_at S5 K6
                   have SB6 := slb_at SB5 K6
                   clear K6 HK5 HG5 S5 SB5)
                | (refine sn26 (by rfl) _ _ (by rfl) u6 _ rfl rfl (by rfl) X hxl (by rfl) ?_
                   intro u7 X7 K7
                   have HK7 := bel_t HK6 K7.out
                   have HG7 := hid (box_below HG6.out K7.out)
                   have SF7 := slb_at SF6 K7
                   have SB7 := slb_at SB6 K7
                   clear K7 HK6 HG6 SF6 SB6))
              have bz : ∀ W, Below u7.heap.size u7 W → isB W g3 = true ∧ cs26 W g3 = t.cs := fun W h => ⟨isB_mk (box_below HG7.out h) hts, cs26_of (box_below HG7.out h)⟩
              obtain ⟨⟨Y, f1⟩, hd2⟩ : ∃ Z : Tm × Int, decT (fs ++ bl) t = Z := ⟨_, rfl⟩
              have hyo : Hid (Y.Ok) := hid (by
                have := dec_ok _ (fs ++ bl) t (Nat.le_refl _) ht
                rw [hd2] at this
                exact this)
              have hyl := hyo.out.len
              obtain ⟨r8, r9⟩ := okS_cs hyl
              have hlen : (fs ++ bl).length = k + m := by rw [List.length_append, hfl, hm]; try omega
              have HH := hid happ
              have HD2 := hid hd2
              clear happ hd2
              go_region_held3 (fun W => isB W g3 = true ∧ cs26 W g3 = t.cs) (exact bz _ (by repeat (first | exact Below.refl _ _ | exact hb10 | exact hb9 | exact hb8 | exact Nat.le_refl _ | exact hb10.size | exact hb9.size | exact hb8.size | exact Nat.le_succ _ | with_reducible apply bel_dr | with_reducible apply bel_al | with_reducible apply bel_row))) ((first
                | (refine step_copy u7 rfl (.tmp 76) (.tmp 77) rfl _ rfl ?b1 ?b2 ?b3 A2 k c2 fs rfl SF7 hfl (by have := hkn.out; omega) ?_
                   case b1 => repeat (first | exact box_nw (by simp) | with_reducible apply box_al | with_reducible apply box_dr)
                   case b2 => simp
                   case b3 => repeat (first | exact Below.refl _ _ | with_reducible apply bel_dr | with_reducible apply bel_al)
                   intro A8 c8 u8 hb8 ho8 hz8
                   first | have z8a := hz8 u7.heap.size (isB_al (isB_nw rfl)) | have z8a := hz8 u7.heap.size (isB_al (isB_dr (isB_nw rfl))) | have z8a := hz8 u7.heap.size (isB_dr (isB_al (isB_nw rfl))) | skip
                   first | have z8b := hz8 (u7.heap.size + 1) (isB_nw2 rfl) | have z8b := hz8 (u7.heap.size + 1) (isB_dr (isB_nw2 rfl)) | have z8b := hz8 (u7.heap.size + 1) (isB_nw3 rfl) | skip)
                | (refine step_more u7 u8 rfl (.tmp 78) (.tmp 79) rfl A8 k c8 fs rfl ho8 ?b1 ?b2 B m d bl rfl SB7 hm (by have := hkn.out; omega) ?_
                   case b1 => repeat (first | exact Below.refl _ _ | with_reducible apply bel_dr | with_reducible apply bel_al)
                   case b2 => repeat (first | exact hb8 | with_reducible apply bel_dr | with_reducible apply bel_al)
                   intro A9 c9 u9 hb9 ho9 hz9
                   skip
                   first | have z9a := hz9 u7.heap.size z8a | have z9a := hz9 u7.heap.size (isB_al z8a) | skip
                   first | have z9b := hz9 (u7.heap.size + 1) z8b | have z9b := hz9 (u7.heap.size + 1) (isB_al z8b) | skip
                   first | have z9c := hz9 u8.heap.size (isB_nw rfl) | skip)
                | (go_at_call 22
                   (with_reducible refine (dec_own u7 u9 _ ?b1 ?b2 A9 _ c9 (fs ++ bl) ho9 hlen ht HD2.out).mono ?_)
                   case b1 => repeat (first | exact hb9 | with_reducible apply bel_dr | with_reducible apply bel_al)
                   case b2 => repeat (first | exact Below.refl _ _ | with_reducible apply bel_dr | with_reducible apply bel_al)
                   rintro e u10 ⟨rfl, hb10, hz10⟩
                   first | have z10a := hz10 u7.heap.size z9a | have z10a := hz10 u7.heap.size (isB_al z9a) | skip
                   first | have z10b := hz10 (u7.heap.size + 1) z9b | have z10b := hz10 (u7.heap.size + 1) (isB_al z9b) | skip
                   first | have z10c := hz10 u8.heap.size z9c | have z10c := hz10 u8.heap.size (isB_al z9c) | skip
                   first | have z10d := hz10 u9.heap.size (isB_nw rfl) | skip
                   have z10e := isB_nw (w := u10) rfl)))
              all_goals
                generalize hW : World.setRow _ _ _ = u11
                obtain ⟨b11, y11⟩ := fin_reg (u := u7) hW (by repeat (first | exact hb10 | with_reducible apply bel_dr | with_reducible apply bel_al)) (by have h8 := hb8.size; have h9 := hb9.size; have h10 := hb10.size; first | exact Nat.le_refl _ | exact h8 | exact h9 | exact h10 | exact Nat.le_succ _ | (simp; done) | (simp; omega)) (by repeat (first | exact isB_nw (by simp) | with_reducible apply isB_al | with_reducible apply isB_dr | exact z10a | exact z10b | exact z10c | exact z10d))
                have K11 := bel_t HK7 b11
                have X11 := hid (box_below X7.out b11)
                have Y11 := hid y11
                have SB11 := slb_at SB7 (hid b11)
                clear hW y11 b11 bz HK7 X7 SB7 HG7 SF7 r8 r9 hlen
                have hys := cs_size hyl
                by_cases he : e1 = 0
                · subst he
                  have hd3 : decT bl X = (Y, f1) := by
                    have h1 := HH.out
                    rw [HD2.out, if_pos rfl] at h1
                    exact h1.symm
                  have hrx : rightB X = true := by
                    have h1 := dec_right _ fs t (Nat.le_refl _) ht hr (by rw [hd1.out])
                    rw [hd1.out] at h1
                    exact h1
                  by_cases hf : f1 = 0
                  · subst hf
                    have hry : rightB Y = true := by
                      have h1 := dec_right _ bl X (Nat.le_refl _) hXo.out hrx (by rw [hd3])
                      rw [hd3] at h1
                      exact h1
                    clear HH HD2
                    go_wp2_with (first
                      | (refine ld26 (by rfl) _ (by rfl) _ (by rfl) X.cs X11.out hxs ?_)
                      | (go_at_call 22
                         (with_reducible refine (dec_b _ _ _ _ SB11 hm hXo.out hd3).mono ?_)
                         rintro e u12 ⟨rfl, k12⟩
                         have K12 := bel_t K11 k12.out
                         have X12 := hid (box_below X11.out k12.out)
                         have Y12 := hid (box_below Y11.out k12.out)
                         clear k12 K11 X11 Y11 SB11)
                      | (refine sn26 (by rfl) _ _ (by rfl) u12 _ rfl rfl (by rfl) Y hyl (by rfl) ?_
                         intro u13 Z13 k13
                         have K13 := bel_t K12 k13.out
                         have X13 := hid (box_below X12.out k13.out)
                         have Y13 := hid (box_below Y12.out k13.out)
                         clear k13 K12 X12 Y12)
                      | (refine ld26 (by rfl) _ (by rfl) _ (by rfl) Y.cs Y13.out hys ?_)
                      | (refine ld26 (by rfl) _ (by rfl) _ (by rfl) Y.cs Z13.out hys ?_)
                      | (refine ld26 (by rfl) _ (by rfl) _ (by rfl) X.cs X13.out hxs ?_)
                      | (refine ld26 (by rfl) _ (by rfl) _ (by rfl) Y.cs Z14.out hys ?_)
                      | (refine eqw26 (by rfl) _ _ _ (by rfl) Y Y hyl hyl (by rfl) (by rfl) true (eqT_self Y) ?_)
                      | (go_at_call 18
                         (first
                           | ((with_reducible refine (right_b _ hXo.out hrx).mono ?_)
                              rintro e u14 ⟨rfl, k14⟩
                              have K14 := bel_t K13 k14.out
                              have Z14 := hid (box_below Z13.out k14.out)
                              clear k14 K13 X13 Y13 Z13)
                           | ((with_reducible refine (right_b _ hyo.out hry).mono ?_)
                              rintro e u15 ⟨rfl, k15⟩
                              have K15 := bel_t K14 k15.out
                              clear k15 K14 Z14))))
                    go_ret
                    exact ⟨rfl, K15⟩
                  · have hf1 : (f1 == 0) = false := by simpa using hf
                    have hf2 : (f1 != 0) = true := by simp [bne, hf1]
                    clear HH HD2 hf
                    go_wp2_with (first
                      | (refine ld26 (by rfl) _ (by rfl) _ (by rfl) X.cs X11.out hxs ?_)
                      | (go_at_call 22
                         (with_reducible refine (dec_b _ _ _ _ SB11 hm hXo.out hd3).mono ?_)
                         rintro e u12 ⟨rfl, k12⟩
                         have K12 := bel_t K11 k12.out
                         have X12 := hid (box_below X11.out k12.out)
                         have Y12 := hid (box_below Y11.out k12.out)
                         clear k12 K11 X11 Y11 SB11)
                      | (refine sn26 (by rfl) _ _ (by rfl) u12 _ rfl rfl (by rfl) Y hyl (by rfl) ?_
                         intro u13 Z13 k13
                         have K13 := bel_t K12 k13.out
                         have X13 := hid (box_below X12.out k13.out)
                         have Y13 := hid (box_below Y12.out k13.out)
                         clear k13 K12 X12 Y12)
                      | (refine ld26 (by rfl) _ (by rfl) _ (by rfl) Y.cs Y13.out hys ?_)
                      | (refine ld26 (by rfl) _ (by rfl) _ (by rfl) Y.cs Z13.out hys ?_)
                      | (refine ld26 (by rfl) _ (by rfl) _ (by rfl) X.cs X13.out hxs ?_)
                      | (refine ld26 (by rfl) _ (by rfl) _ (by rfl) Y.cs Z14.out hys ?_)
                      | (refine eqw26 (by rfl) _ _ _ (by rfl) Y Y hyl hyl (by rfl) (by rfl) true (eqT_self Y) ?_)
                      | (go_at_call 18
                         (first
                           | ((with_reducible refine (right_b _ hXo.out hrx).mono ?_)
                              rintro e u14 ⟨rfl, k14⟩
                              have K14 := bel_t K13 k14.out
                              have Z14 := hid (box_below Z13.out k14.out)
                              clear k14 K13 X13 Y13 Z13)
                           | ((with_reducible refine (right_b _ hyo.out hry).mono ?_)
                              rintro e u15 ⟨rfl, k15⟩
                              have K15 := bel_t K14 k15.out
                              clear k15 K14 Z14))))
                    go_ret
                    exact ⟨rfl, K14⟩
                · have hx0 : X = Tm.zero := by
                    have h1 := dec_bad _ fs t (Nat.le_refl _) (by rw [hd1.out]; exact he)
                    rw [hd1.out] at h1
                    exact h1
                  have hyx : Y = X ∧ f1 = e1 := by
                    have h1 := HH.out
                    rw [HD2.out, if_neg he] at h1
                    exact ⟨congrArg Prod.fst h1, congrArg Prod.snd h1⟩
                  have he1 : (e1 == 0) = false := by simpa using he
                  have he2 : (e1 != 0) = true := by simp [bne, he1]
                  have hY : Y = Tm.zero := hyx.1.trans hx0
                  have hF : f1 = e1 := hyx.2
                  clear HH HD2 he hd1 hyx hx0
                  subst hY
                  subst hF
                  go_wp2_with (first
                    | (refine ld26 (by rfl) _ (by rfl) _ (by rfl) Tm.zero.cs Y11.out hys ?_)
                    | (refine eqw26 (by rfl) _ _ _ (by rfl) Tm.zero Tm.zero rfl rfl (by rfl) (by rfl) true (eqT_self _) ?_))
                  go_ret
                  exact ⟨rfl, K11⟩
end Go.Proofs.Ytgkcappcjlfloaa
