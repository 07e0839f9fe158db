import Derived.Test.YtgkcappcjlfloaaMO
namespace Go.Proofs.Ytgkcappcjlfloaa
open Go.RowKit

theorem run_ldc {w : World} {g : Nat} {cs : Array Value} (h : Box w g 26 cs) (hs : cs.size = 24) : (loadCellsFrom ⟨g, 0, none⟩ 0 24 #[]).run Try.prog w = .ok cs w := by
  have := run_loadCells_list (P := Try.prog) w ⟨g, 0, none⟩ cs.toList (fun j v hv => by
    rw [Addr.add_lit, Nat.zero_add, h.cell j]
    simpa using hv)
  simpa [loadCells, hs] using this
theorem run_stc {w : World} {g : Nat} {cs : Array Value} (h : Box w g 26 cs) (hs : cs.size = 24) (t : Tm) (ht : t.c.length = 19) : (storeCells ⟨g, 0, none⟩ t.cs.toList 0).run Try.prog w = .ok () (w.setRow g t.cs) := by
  have := run_storeVar_row (P := Try.prog) w g 26 26 cs t.cs h (by rw [cs_size ht]; exact Try.size26) (by rw [hs, cs_size ht]) (cs_one t)
  have h26 := Try.size26
  cases hq : Try.prog.info? 26 with
  | none => simp [hq] at h26
  | some i =>
    simp [hq] at h26
    simpa [storeVar, sizeOf, typeInfo, hq, Value.cells, cs_size ht, h26] using this
/-- Where a pointer leads, and what an aggregate holds. -/
def blkV : Value → Nat
  | .pointer (some ⟨g, 0, none⟩) => g
  | _ => 0
def isP : Value → Bool
  | .pointer (some ⟨_, 0, none⟩) => true
  | _ => false
def aggV : Value → Array Value
  | .agg cs => cs
  | _ => #[]
def isA : Value → Bool
  | .agg _ => true
  | _ => false
def isB (w : World) (g : Nat) : Bool := match w.heap[g]? with
  | some (.cells cs t fr) => decide (t = 26) && decide (fr = (0, 0)) && decide (cs.size = 24)
  | _ => false
def cs26 (w : World) (g : Nat) : Array Value := match w.heap[g]? with
  | some (.cells cs _ _) => cs
  | _ => #[]
theorem isB_box {w : World} {g : Nat} (h : isB w g = true) : Box w g 26 (cs26 w g) ∧ (cs26 w g).size = 24 := by
  unfold isB at h
  unfold cs26 Box
  split at h
  · rename_i cs t fr he
    simp only [Bool.and_eq_true, decide_eq_true_eq] at h
    obtain ⟨⟨rfl, rfl⟩, h3⟩ := h
    simp [he, h3]
  · cases h
theorem box_isB {w : World} {g : Nat} {t : Tm} (h : Box w g 26 t.cs) (ht : t.c.length = 19) : isB w g = true ∧ cs26 w g = t.cs := by
  unfold Box at h
  unfold isB cs26
  rw [h]
  simp [cs_size ht]
def okS (v : Value) : Bool := isA v && decide ((aggV v).size = 24) && (aggV v).all (·.oneCell')
theorem okS_cs {t : Tm} (ht : t.c.length = 19) : okS (.agg t.cs) = true ∧ aggV (.agg t.cs) = t.cs := by
  refine ⟨?_, rfl⟩
  unfold okS
  show (true && decide (t.cs.size = 24) && t.cs.all (·.oneCell')) = true
  rw [cs_one t, cs_size ht]
  rfl
theorem isP_eq {v : Value} (h : isP v = true) : v = .pointer (some ⟨blkV v, 0, none⟩) := by
  unfold isP at h
  split at h
  · rfl
  · cases h
theorem isA_eq {v : Value} (h : isA v = true) : v = .agg (aggV v) := by
  unfold isA at h
  split at h
  · rfl
  · cases h
theorem wp_ld26 {dst : Option Tmp} {x : Operand} {ty : TypeId} {pos : String} {after : Array Edge} {gd : Option (Nat × Bool)} {a : Act} {w : World} {K : Act → World → Prop} {Q : Exit → Act → World → Prop} (h1 : isP (a.eval x) = true) (h2 : isB w (blkV (a.eval x)) = true) :
    Oper.wp Try.prog { dst, op := .load 26 x, type := ty, pos, after, guard := gd } a w K Q = K (a.put dst (.agg (cs26 w (blkV (a.eval x))))) w := by
  obtain ⟨hb, hs⟩ := isB_box h2
  have hx := isP_eq h1
  generalize blkV (a.eval x) = g at *
  unfold Oper.wp execOp
  simp only [hx, Instr.loadAt, Instr.sureAddr, Sem.run_bind, Sem.run_pure, Result.andThen_ok, run_loadVar_row (P := Try.prog) w g 26 26 _ (0, 0) _ hb Try.underlying26 rfl (by rw [hs]; exact Try.size26)]
  rfl
theorem wp_st26 {dst : Option Tmp} {x y : Operand} {ty : TypeId} {pos : String} {after : Array Edge} {gd : Option (Nat × Bool)} {a : Act} {w : World} {K : Act → World → Prop} {Q : Exit → Act → World → Prop} (h1 : isP (a.eval x) = true) (h2 : isB w (blkV (a.eval x)) = true) (h3 : okS (a.eval y) = true) :
    Oper.wp Try.prog { dst, op := .store 26 x y, type := ty, pos, after, guard := gd } a w K Q = K (a.put dst undef) (w.setRow (blkV (a.eval x)) (aggV (a.eval y))) := by
  obtain ⟨hb, hs⟩ := isB_box h2
  have hx := isP_eq h1
  unfold okS at h3
  simp only [Bool.and_eq_true, decide_eq_true_eq] at h3
  obtain ⟨⟨h4, h5⟩, h6⟩ := h3
  have hy := isA_eq h4
  generalize blkV (a.eval x) = g at *
  generalize aggV (a.eval y) = cs at *
  unfold Oper.wp execOp
  simp only [hx, hy, Instr.storeAt, Instr.sureAddr, Sem.run_bind, Sem.run_pure, Result.andThen_ok, run_storeVar_row (P := Try.prog) w g 26 26 _ cs hb (by rw [h5]; exact Try.size26) (by rw [hs, h5]) h6]
  rfl
def lenV : Value → Nat
  | .slice _ n _ => n
  | _ => 0
@[simp] theorem isP_v (g : Nat) : isP (.pointer (some ⟨g, 0, none⟩)) = true := rfl
@[simp] theorem blkV_v (g : Nat) : blkV (.pointer (some ⟨g, 0, none⟩)) = g := rfl
@[simp] theorem aggV_v (cs : Array Value) : aggV (.agg cs) = cs := rfl
theorem drew_bel {B : Nat} {w w' : World} (h : Below B w.drew w') : Below B w w' := ⟨h.os, h.tape, h.output, h.size, h.block⟩
theorem wE_some {t t' : Tm} {op n : Nat} (h : stepT t op n = some t') : wT t op n = t' ∧ wE t op n = 0 := by simp [wT, wE, h]
theorem wE_none {t : Tm} {op n : Nat} (h : stepT t op n = none) : wT t op n = Tm.zero ∧ wE t op n = 5 := by simp [wT, wE, h]
attribute [local go_sem ↓] wp_ld26 wp_st26 Go.wp_at_zero Go.wp_at_succ
attribute [local go_sem] isP_v blkV_v aggV_v
set_option maxRecDepth 100000 in
set_option maxHeartbeats 4000000 in
theorem decode_any (w : World) (t : Tm) (ht : t.Ok) (A : Option Addr) (c n : Nat) (bs : List UInt8) (hb : SlB w w.heap.size A c bs) (hn : bs.length = n) :
    Calls Try.prog 22 #[.slice A n c, .agg t.cs] w fun e w' => e = .returned (.tuple #[.agg (decT bs t).1.cs, .int .i64 (decT bs t).2]) ∧ Hid (Below w.heap.size w w') := by
  have hs := cs_size ht.len
  have H0 := hid (Pair.new w t)
  have hz : Hid (Tm.zero.cs.size = 24) := hid (cs_size rfl)
  have HB := hid (hb.below (w' := (w.alloc (.cells t.cs 26)).alloc (.cells Tm.zero.cs 26)) H0.out.bel)
  clear hb
  have HE : Hid ((decT bs t).1.Ok) := hid (dec_ok _ _ _ (Nat.le_refl _) ht)
  obtain ⟨E, hE⟩ : ∃ z, decT bs t = z := ⟨_, rfl⟩
  rw [hE] at HE ⊢
  have HD : Hid (decT bs t = E) := hid hE
  clear hE
  have HT := hid ht
  clear ht
  subst hn
  go_enter Try.func22, Try.ntmps22
  go_wp2_with (refine bx26 (by rfl) _ (by rfl) _ (by rfl) hs ?_; intro _)
  go_loopw [0] (fun s wr => ∃ (A2 : Option Addr) (c2 : Nat) (b2 : List UInt8) (u : Tm), s = .slice A2 b2.length c2 ∧ Hid (SlB wr w.heap.size A2 c2 b2) ∧ Hid u.Ok ∧ Hid (Pair w wr w.heap.size (w.heap.size + 1) u Tm.zero) ∧ Hid (decT b2 u = E)) (fun s _ => lenV s)
  case atStart => exact ⟨A, c, bs, t, rfl, HB, HT, H0, HD⟩
  case round =>
    clear HB HT H0 HD hs
    obtain ⟨A2, c2, b2, u, rfl, HB, HT, H0, HD⟩ := hrel
    have hul := HT.out.len
    have hus := cs_size hul
    match b2 with
    | [] =>
      have he : Hid (E = (u, 0)) := hid (HD.out.symm.trans (dec_nil u))
      go_wp2_with (first
        | (refine ld26 (by rfl) _ (by rfl) _ (by rfl) u.cs H0.out.boxT hus ?_)
        | (refine st26 (by rfl) _ _ (by rfl) _ (by rfl) u hul (by rfl) _ H0.out.boxR hz.out ?_
           intro u2 hb2 ht2
           have H2 := hid (H0.out.turnR ht2.out hb2.out)))
      refine bodyPost_ret (results26_2 rfl _ _ _ u hul rfl (.int .i64 0) rfl H2.out.boxR) rfl ?_
      exact ⟨by rw [he.out], hid H2.out.bel⟩
    | x :: rest =>
      obtain ⟨b, o, rfl, hbl, cx⟩ := slb_cell HB.out
      have hcap : rest.length + 1 ≤ c2 ∧ c2 ≤ maxLen := ⟨by simpa using HB.out.1, HB.out.2.1⟩
      simp only [List.length_cons]
      have hpos : (0 : Int) < ((rest.length : Int) + 1) := by omega
      cases he : endB x
      · by_cases h4 : rest.length < 4
        · have hd : Hid (E = (Tm.zero, 3)) := hid (HD.out.symm.trans (dec_short he h4))
          have k4 : ((rest.length : Int) + 1) < 5 := by omega
          go_wp2_with (first
            | (go_at_call 34
               (with_reducible refine (isEnd_b _ he).mono ?_)
               rintro e u1 ⟨rfl, rfl⟩)
            | (refine wpList_build_at rfl 26 _ rfl Tm.zero.cs ?hc ?_
               case hc => kernel_rfl)
            | (refine st26 (by rfl) _ _ (by rfl) _ (by rfl) Tm.zero rfl (by rfl) _ H0.out.boxR hz.out ?_
               intro u2 hb2 ht2
               have H2 := hid (H0.out.turnR ht2.out hb2.out)))
          refine bodyPost_ret (results26_2 rfl _ _ _ Tm.zero rfl rfl (.int .i64 3) rfl H2.out.boxR) rfl ?_
          exact ⟨by rw [hd.out], hid H2.out.bel⟩
        · have k4 : ¬ ((rest.length : Int) + 1) < 5 := by omega
          have k5 : ¬ (c2 = 1) := by omega
          have k6 : (5 : Int) ≤ (rest.length : Int) + 1 ∧ (rest.length : Int) + 1 ≤ (c2 : Int) ∧ (5 : Int) ≤ (c2 : Int) ∧ (1 : Int) ≤ (c2 : Int) := by omega
          have HL : Hid (Lies wr.drew w.heap.size (some ⟨b, o + 1, none⟩) (bv (rest.take 4))) := hid (by
            have h1 := (HB.out.drop 1 (by simp)).take 4
            rw [if_neg k5, Addr.add_lit] at h1
            exact h1.2.2.2)
          have H36 := hid (number_any wr.drew w.heap.size (c2 - 1) (some ⟨b, o + 1, none⟩) (rest.take 4) HL.out (by rw [List.length_take]; omega))
          rw [num4_take _ (by omega)] at H36
          have hx := hid x.toNat_lt
          have hx1 : Hid (1 ≤ x.toNat) := hid (by simp [endB] at he; have := x.toNat_lt; omega)
          have hN := hid (num4_lt rest)
          have hwr : IntKind.i64.wrap ((x.toNat : Nat) : Int) = ((x.toNat : Nat) : Int) := by
            have := x.toNat_lt
            rw [IntKind.wrap_i64]
            omega
          obtain ⟨q1, q2⟩ := box_isB (w := wr.drew) H0.out.drew.boxT hul
          have hwl := (wT_ok HT.out x.toNat (num4 rest) hN.out).len
          obtain ⟨q5, q6⟩ := okS_cs hwl
          have hwo := hid (wT_ok HT.out x.toNat (num4 rest) hN.out)
          have cxd : wr.drew.cell? ⟨b, o, none⟩ = some (.int .u8 (x.toNat : Int)) := cx
          go_wp2_with (first
            | (go_at_call 34
               (with_reducible refine (isEnd_b _ he).mono ?_)
               rintro e u1 ⟨rfl, rfl⟩))
          go_region_law (first
            | (go_simp; go_at_call 36; (with_reducible refine H36.out.mono ?_); rintro e u1 ⟨rfl, rfl⟩)
            | (go_simp; go_at_call 35; (with_reducible refine (with_any _ u HT.out x.toNat (num4 rest) hx1.out hx.out hN.out).mono ?_); rintro e u2 ⟨rfl, K2⟩; have H2 := hid (H0.out.drew.grow K2.out); obtain ⟨q3, q4⟩ := box_isB H2.out.boxT hul))
          all_goals
            have H3 : Hid (Pair w (u2.setRow w.heap.size (wT u x.toNat (num4 rest)).cs) w.heap.size (w.heap.size + 1) (wT u x.toNat (num4 rest)) Tm.zero) := hid (H2.out.turnT (Turn.setRow u2 w.heap.size _) (setRow_heap u2 w.heap.size _ _ 26 _ H2.out.boxT))
            have HB3 : Hid (SlB (u2.setRow w.heap.size (wT u x.toNat (num4 rest)).cs) w.heap.size (some ⟨b, o, none⟩) c2 (x :: rest)) := hid ((HB.out.below (w' := u2) (drew_bel (K2.out.mono H0.out.bel.size))).below ((Turn.setRow u2 w.heap.size _).below (Nat.le_refl _)))
            clear H2 K2 q1 q2 q3 q4 q5 q6 HB H0 cx cxd HL H36
            generalize World.setRow _ _ _ = u3 at H3 HB3 ⊢
            cases hst : stepT u x.toNat (num4 rest) with
            | none =>
              obtain ⟨hw1, hw2⟩ := wE_none hst
              have hd : Hid (E = (Tm.zero, 5)) := hid (HD.out.symm.trans (dec_none he h4 hst))
              rw [hw1, hw2] at *
              go_wp2_with (first
                | (refine wpList_build_at rfl 26 _ rfl Tm.zero.cs ?hc ?_
                   case hc => kernel_rfl)
                | (refine st26 (by rfl) _ _ (by rfl) _ (by rfl) Tm.zero rfl (by rfl) _ H3.out.boxR hz.out ?_
                   intro u4 hb4 ht4
                   have H4 := hid (H3.out.turnR ht4.out hb4.out)))
              refine bodyPost_ret (results26_2 rfl _ _ _ Tm.zero rfl rfl (.int .i64 5) rfl H4.out.boxR) rfl ?_
              exact ⟨by rw [hd.out], hid H4.out.bel⟩
            | some t' =>
              obtain ⟨hw1, hw2⟩ := wE_some hst
              have hd : Hid (decT (rest.drop 4) t' = E) := hid ((dec_some he h4 hst).symm.trans HD.out)
              rw [hw1] at hwo H3
              have HS := hid (HB3.out.drop 5 (by simp; omega))
              have hrd : Hid ((rest.drop 4).length = rest.length - 4) := hid (by rw [List.length_drop])
              rw [hw1, hw2]
              by_cases hc5 : c2 = 5
              · have HS' : Hid (SlB u3 w.heap.size (some ⟨b, o, none⟩) 0 (rest.drop 4)) := hid (by
                  have h9 := HS.out
                  rw [if_pos hc5, hc5] at h9
                  simpa using h9)
                go_wp2
                exact ⟨⟨_, _, rest.drop 4, t', by rw [hrd.out], HS', hwo, H3, hd⟩, by simp [lenV]; omega⟩
              · have HS' : Hid (SlB u3 w.heap.size (some ⟨b, o + 5, none⟩) (c2 - 5) (rest.drop 4)) := hid (by
                  have h9 := HS.out
                  rw [if_neg hc5, Addr.add_lit] at h9
                  simpa using h9)
                go_wp2
                exact ⟨⟨_, _, rest.drop 4, t', by rw [hrd.out], HS', hwo, H3, hd⟩, by simp [lenV]; omega⟩
      · have hd : Hid (E = (u, 0)) := hid (HD.out.symm.trans (dec_end he))
        go_wp2_with (first
          | (go_at_call 34
             (with_reducible refine (isEnd_b _ he).mono ?_)
             rintro e u1 ⟨rfl, rfl⟩)
          | (refine ld26 (by rfl) _ (by rfl) _ (by rfl) u.cs H0.out.boxT hus ?_)
          | (refine st26 (by rfl) _ _ (by rfl) _ (by rfl) u hul (by rfl) _ H0.out.boxR hz.out ?_
             intro u2 hb2 ht2
             have H2 := hid (H0.out.turnR ht2.out hb2.out)))
        refine bodyPost_ret (results26_2 rfl _ _ _ u hul rfl (.int .i64 0) rfl H2.out.boxR) rfl ?_
        exact ⟨by rw [hd.out], hid H2.out.bel⟩
end Go.Proofs.Ytgkcappcjlfloaa
