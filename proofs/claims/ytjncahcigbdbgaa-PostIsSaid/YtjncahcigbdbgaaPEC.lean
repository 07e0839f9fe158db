import Derived.Test.YtjncahcigbdbgaaPEB
import Derived.Deep.RegionHeld3
namespace Go.Proofs.Ytjncahcigbdbgaa
open Go.RowKit

def isZ (w : World) (g : Nat) : Bool := match w.heap[g]? with
  | some (.cells cs t fr) => decide (t = 46) && decide (fr = (0, 0)) && decide (cs.size = 26)
  | _ => false
theorem isZ_box {w : World} {g : Nat} (h : isZ w g = true) : ∃ cs, Box w g 46 cs ∧ cs.size = 26 := by
  unfold isZ at h
  unfold Box
  split at h
  · rename_i cs t fr he
    simp only [Bool.and_eq_true, decide_eq_true_eq] at h
    obtain ⟨⟨rfl, rfl⟩, h3⟩ := h
    exact ⟨cs, he, h3⟩
  · cases h
theorem isZ_mk {w : World} {g : Nat} {cs : Array Value} (h : Box w g 46 cs) (hs : cs.size = 26) : isZ w g = true := by
  unfold Box at h
  unfold isZ
  rw [h]
  simp [hs]
def okP (v : Value) : Bool := isA v && decide ((aggV v).size = 26) && (aggV v).all (·.oneCell')
theorem okP_cs {t : Tm} (ht : t.c.length = 19) (N : Nat) {s : Value} (hs : s.oneCell' = true) : okP (.agg (penC t N s)) = true ∧ aggV (.agg (penC t N s)) = penC t N s := by
  refine ⟨?_, rfl⟩
  unfold okP
  show (true && decide ((penC t N s).size = 26) && (penC t N s).all (·.oneCell')) = true
  rw [penC_one t N hs, penC_size ht]
  rfl
theorem wp_stP {dst : Option Tmp} {x y : Operand} {ty : TypeId} {pos : String} {after : Array Edge} {gd : Option (Nat × Bool)} {a : Act} {w : World} {K : Act → World → Prop} {Q : Exit → Act → World → Prop} (h1 : isP (a.eval x) = true) (h2 : isZ w (blkV (a.eval x)) = true) (h3 : okP (a.eval y) = true) :
    Oper.wp Try.prog { dst, op := .store 46 x y, type := ty, pos, after, guard := gd } a w K Q = K (a.put dst undef) (w.setRow (blkV (a.eval x)) (aggV (a.eval y))) := by
  obtain ⟨old, hb, hs⟩ := isZ_box h2
  have hx := isP_eq h1
  unfold okP at h3
  simp only [Bool.and_eq_true, decide_eq_true_eq] at h3
  obtain ⟨⟨h4, h5⟩, h6⟩ := h3
  have hy := isA_eq h4
  generalize blkV (a.eval x) = g at *
  generalize aggV (a.eval y) = cs at *
  unfold Oper.wp execOp
  simp only [hx, hy, Instr.storeAt, Instr.sureAddr, Sem.run_bind, Sem.run_pure, Result.andThen_ok, run_storeVar_row (P := Try.prog) w g 46 46 _ cs hb (by rw [h5]; exact Try.size46) (by rw [hs, h5]) h6]
  rfl
/-- A pen is built of a setting and a column. -/
def bldV (x y : Value) : Array Value := ((aggV x).push y).push noV
def isI (v : Value) : Bool := match v with
  | .int .i64 _ => true
  | _ => false
def bldO (x y : Value) : Bool := isA x && decide ((aggV x).size = 24) && isI y
theorem bld_eq {t : Tm} (ht : t.c.length = 19) (N : Nat) : bldO (.agg t.cs) (.int .i64 (N : Int)) = true ∧ bldV (.agg t.cs) (.int .i64 (N : Int)) = penC t N noV := by
  refine ⟨?_, penC_push t N⟩
  unfold bldO
  show (true && decide (t.cs.size = 24) && true) = true
  rw [cs_size ht]
  rfl
theorem ex_bP {ev : Operand → Value} {w : World} {dst : Option Tmp} {x y : Operand} {ty : TypeId} {pos : String} {after : Array Edge} {gd : Option (Nat × Bool)} (h : bldO (ev x) (ev y) = true) :
    (execOp ev { dst, op := .build 46 #[(0, x), (1, y)], type := ty, pos, after, guard := gd }).run Try.prog w = .ok (.value (.agg (bldV (ev x) (ev y)))) w := by
  unfold bldO at h
  simp only [Bool.and_eq_true, decide_eq_true_eq] at h
  obtain ⟨⟨h1, h2⟩, h3⟩ := h
  have hx := isA_eq h1
  obtain ⟨n, hy⟩ : ∃ n, ev y = .int .i64 n := by
    unfold isI at h3
    split at h3
    · rename_i n he
      exact ⟨n, he⟩
    · cases h3
  have h4 := run_build (P := Try.prog) w 46 #[(0, .agg (aggV (ev x))), (1, .int .i64 n)] _ (built46 h2 n)
  unfold execOp bldV
  rw [hy]
  simp only [List.map_toArray, List.map_cons, List.map_nil, Sem.run_bind, hy]
  rw [hx, h4]
  rfl
theorem wp_bP {dst : Option Tmp} {x y : Operand} {ty : TypeId} {pos : String} {after : Array Edge} {gd : Option (Nat × Bool)} {a : Act} {w : World} {K : Act → World → Prop} {Q : Exit → Act → World → Prop} (h : bldO (a.eval x) (a.eval y) = true) :
    Oper.wp Try.prog { dst, op := .build 46 #[(0, x), (1, y)], type := ty, pos, after, guard := gd } a w K Q = K (a.put dst (.agg (bldV (a.eval x) (a.eval y)))) w := by
  unfold Oper.wp
  rw [ex_bP h]
  rfl
theorem results46 {fn : Func} {p : Tmp} (h : fn.results = #[.cell p 46]) (tmps : Array Value) (w : World) (g : Nat) (t : Tm) (N : Nat) (s : Value) (ht : t.c.length = 19)
    (hp : tmps.getD p undef = .pointer (some ⟨g, 0, none⟩)) (hb : Box w g 46 (penC t N s)) : (results fn tmps).run Try.prog w = .ok (.agg (penC t N s)) w :=
  results_cell_row h tmps w g 46 (penC t N s) (0, 0) _ hp hb Try.underlying46 rfl (by rw [penC_size ht]; exact Try.size46)
attribute [local go_sem ↓] ex_ld26 wp_ld26 wp_stP wp_bP ex_bP
attribute [local go_sem] isP_v blkV_v aggV_v
set_option maxRecDepth 100000 in
set_option maxHeartbeats 2000000 in
theorem at_any (w : World) {t : Tm} (ht : t.Ok) (col : Int) {M : Nat} (hM : Hid (nrm col = M)) : Calls Try.prog 18 #[.agg t.cs, .int .i64 col] w fun e w' => e = .returned (.agg (penC t M noV)) ∧ Hid (Below w.heap.size w w') := by
  have hs := cs_size ht.len
  have K0 := old26 w t
  obtain ⟨q1, q2⟩ := bld_eq ht.len M
  obtain ⟨q3, q4⟩ := okP_cs ht.len M (s := noV) rfl
  have HZ : Hid (zeroP.size = 26) := hid (penC_size rfl 0 noV)
  go_enter Try.func18, Try.ntmps18
  go_wp2_with (first
    | (refine bx26 (by rfl) _ (by rfl) _ (by rfl) hs ?_
       intro G0))
  have hgB : isB ((w.alloc (.cells t.cs 26)).alloc (.cells zeroP 46)) w.heap.size = true ∧ cs26 ((w.alloc (.cells t.cs 26)).alloc (.cells zeroP 46)) w.heap.size = t.cs := ⟨isB_mk (box_al G0.out) hs, cs26_of (box_al G0.out)⟩
  have hgZ : isZ ((w.alloc (.cells t.cs 26)).alloc (.cells zeroP 46)) (w.heap.size + 1) = true := isZ_mk (cs := zeroP) (box_nw (by simp)) HZ.out
  have hgK : Hid (Below w.heap.size w ((w.alloc (.cells t.cs 26)).alloc (.cells zeroP 46))) := hid (K0.out.alloc K0.out.size _)
  have hz : zeroP = #[.int .u8 0, .int .u8 0, .int .u8 0, .int .u8 0, .int .u8 0, .int .u8 0, .int .u8 0, .int .u8 0, .int .u8 0, .int .u8 0, .int .u8 0, .int .u8 0, .int .u8 0, .int .u8 0, .int .u8 0, .int .u8 0, .int .u8 0, .int .u8 0, .int .u8 0, .int .u64 0, .int .u32 0, .int .u32 0, .int .i64 0, .int .i64 0, .int .i64 0, .slice none 0 0] := rfl
  rw [hz] at hgB hgZ hgK
  clear hz HZ K0 G0 hs
  generalize World.alloc (World.alloc w _) _ = u at hgB hgZ hgK ⊢
  obtain ⟨b1, b2⟩ := hgB
  have b1 : isB u.drew w.heap.size = true := b1
  have b2 : cs26 u.drew w.heap.size = t.cs := b2
  have hgZ : isZ u.drew (w.heap.size + 1) = true := hgZ
  go_region_law (first | (go_simp; go_at_call 26; (with_reducible refine (insidep_any _ col).mono ?_); rintro e u2 ⟨rfl, rfl⟩; rw [hM.out]))
  all_goals
    obtain ⟨old, zb, zs⟩ := isZ_box hgZ
    have HP : Hid (Box (u.drew.setRow (w.heap.size + 1) (penC t M noV)) (w.heap.size + 1) 46 (penC t M noV)) := hid (setRow_heap _ _ old _ 46 _ zb)
    have HK : Hid (Below w.heap.size w (u.drew.setRow (w.heap.size + 1) (penC t M noV))) := hid (hgK.out.drew.trans ((Turn.setRow _ _ _).below (by omega)))
    clear zb zs hgZ b1 b2 hgK q1 q2 q3 q4
    generalize World.setRow _ _ _ = u5 at HP HK ⊢
    go_wp2
    refine bodyPost_ret (results46 rfl _ _ _ t M noV ht.len rfl HP.out) rfl ?_
    exact ⟨rfl, HK⟩
def MovP (w : World) (g : Nat) (t : Tm) (M : Nat) (s : Value) (e : Ending) (w' : World) : Prop := e = .returned (.tuple #[]) ∧ Hid (Pen w' g t M s) ∧ Hid (Kept g [46] w w')
theorem pen_st {w u : World} {g N M : Nat} {t : Tm} {s : Value} {x : Int} (hp : Hid (Pen u g t N s)) (ht : t.c.length = 19) (hk : Hid (Kept g [46] w u)) (hx : x = (M : Int)) : Hid (Pen (u.setCell ⟨g, 24, none⟩ (.int .i64 x)) g t M s) ∧ Hid (Kept g [46] w (u.setCell ⟨g, 24, none⟩ (.int .i64 x))) := by
  subst hx
  exact ⟨hid (hp.out.store ht M), hid (hk.out.trans (hp.out.kept _ (Nat.le_refl _)))⟩
set_option maxRecDepth 100000 in
set_option maxHeartbeats 4000000 in
theorem move_any (w : World) {g N M : Nat} {t : Tm} {s : Value} (hp : Hid (Pen w g t N s)) (hN : N ≤ 65535) (ht : t.Ok) (c : UInt8) {v : Bool} (hs42 : hasN t.f 42 = v) (hM : Hid (movedN v N c = M)) :
    Calls Try.prog 35 #[.pointer (some ⟨g, 0, none⟩), .int .u8 (c.toNat : Int)] w (MovP w g t M s) := by
  have hl := ht.len
  have cn := hp.out.cell hl
  have cf := hp.out.frozen
  have K0 : Hid (Kept g [46] w w) := hid (Kept.refl _ _ _)
  by_cases h9 : c.toNat = 9
  · have e9 : (c.toNat : Int) = 9 := by omega
    have hm9 : clampN ((N / 8 + 1) * 8) = M := by rw [← hM.out]; exact (movedN_9 h9).symm
    rw [e9]
    have cn1 : w.drew.cell? ⟨g, 24, none⟩ = some (.int .i64 (N : Int)) := cn
    have cf1 : w.drew.frozen? ⟨g, 24, none⟩ = false := cf
    have htm : (N : Int).tmod 8 = ((N % 8 : Nat) : Int) := by rw [Int.tmod_eq_emod_of_nonneg (by omega)]; omega
    obtain ⟨r, hr⟩ : ∃ r, N % 8 = r := ⟨_, rfl⟩
    rw [hr] at htm
    have hr8 : r < 8 := by omega
    have hrN : r ≤ N := by omega
    have hw1 : IntKind.i64.wrap ((N : Int) - (r : Int)) = (N : Int) - (r : Int) := by rw [IntKind.wrap_i64]; omega
    have hw2 : IntKind.i64.wrap ((N : Int) - (r : Int) + 8) = (N : Int) - (r : Int) + 8 := by rw [IntKind.wrap_i64]; omega
    have hx : Hid ((N : Int) - (r : Int) + 8 = (((N / 8 + 1) * 8 : Nat) : Int)) := hid (by omega)
    clear hr hr8 hrN
    go_enter Try.func35, Try.ntmps35
    go_wp2
    go_region_law (first
      | (go_simp
         go_at_call 26
         (with_reducible refine (insidep_n _ ((N / 8 + 1) * 8) _ hx.out).mono ?_)
         rintro e u2 ⟨rfl, rfl⟩
         rw [hm9]))
    all_goals
      obtain ⟨HP, HK⟩ := pen_st (u := w) hp hl K0 (rfl : (M : Int) = _)
      have HK2 := hid HK.out.drew
      go_wp2
      go_end0
      exact ⟨rfl, HP, HK2⟩
  · by_cases h8 : c.toNat = 8
    · have e8 : (c.toNat : Int) = 8 := by omega
      have hm8 : N - 1 = M := by rw [← hM.out]; exact (movedN_8 h8).symm
      rw [e8]
      by_cases h0 : N = 0
      · subst h0
        have hm0 : 0 = M := by omega
        subst hm0
        obtain ⟨HP, HK⟩ := pen_st (u := w) hp hl K0 (show (0 : Int) = ((0 : Nat) : Int) by omega)
        go_enter Try.func35, Try.ntmps35
        go_wp2
        all_goals
          go_end0
          exact ⟨rfl, HP, HK⟩
      · have h1 : ¬ (N : Int) - 1 < 0 := by omega
        have h2 : (0 : Int) < (N : Int) - 1 ∨ True := Or.inr trivial
        obtain ⟨HP, HK⟩ := pen_st (u := w) hp hl K0 (show (N : Int) - 1 = (M : Int) by omega)
        go_enter Try.func35, Try.ntmps35
        go_wp2
        all_goals
          go_end0
          exact ⟨rfl, HP, HK⟩
    · by_cases h13 : c.toNat = 13
      · have e13 : (c.toNat : Int) = 13 := by omega
        obtain rfl : M = 0 := by rw [← hM.out]; exact movedN_13 h13
        obtain ⟨HP, HK⟩ := pen_st (u := w) hp hl K0 (show (0 : Int) = ((0 : Nat) : Int) by omega)
        rw [e13]
        go_enter Try.func35, Try.ntmps35
        go_wp2
        go_end0
        exact ⟨rfl, HP, HK⟩
      · have k9 : (((c.toNat : Int)) == 9) = false := beq_eq_false_iff_ne.2 (by omega)
        have k8 : (((c.toNat : Int)) == 8) = false := beq_eq_false_iff_ne.2 (by omega)
        have k13 : (((c.toNat : Int)) == 13) = false := beq_eq_false_iff_ne.2 (by omega)
        cases hsg : signP v c
        · have hmN : N = M := by
            rw [← hM.out]
            by_cases hc : c.toNat < 32 ∨ c.toNat = 127
            · exact (movedN_ctl h9 h8 h13 hc).symm
            · unfold signP at hsg
              rw [decide_eq_true (show 32 ≤ c.toNat by omega), decide_eq_false (show ¬ c.toNat = 127 by omega)] at hsg
              simp at hsg
              obtain ⟨⟨h1, h2⟩, rfl⟩ := hsg
              exact (movedN_cont hc h1 h2).symm
          go_enter Try.func35, Try.ntmps35
          go_wp2_with (first
            | (go_at_call 37
               (with_reducible refine (hasSign_b _ hp ht c hs42 hsg).mono ?_)
               rintro e u1 ⟨rfl, k1⟩))
          go_end0
          subst hmN
          exact ⟨rfl, hid (hp.out.bel k1.out), kep_b K0 k1.out⟩
        · have hmN : clampN (N + 1) = M := by
            rw [← hM.out]
            have h1 := hsg
            unfold signP at h1
            simp at h1
            refine (movedN_one (by omega) ?_).symm
            rintro ⟨rfl, h2, h3⟩
            have := h1.2
            simp at this
            omega
          have hx := hid (show (N : Int) + 1 = ((N + 1 : Nat) : Int) by omega)
          have hw1 : IntKind.i64.wrap ((N : Int) + 1) = (N : Int) + 1 := by rw [IntKind.wrap_i64]; omega
          go_enter Try.func35, Try.ntmps35
          go_wp2_with (first
            | (go_at_call 37
               (with_reducible refine (hasSign_b _ hp ht c hs42 hsg).mono ?_)
               rintro e u1 ⟨rfl, k1⟩
               have P1 := hid (hp.out.bel k1.out)
               have K1 := kep_b K0 k1.out
               have cn1 := P1.out.cell hl
               have cf1 := P1.out.frozen)
            | (go_at_call 26
               (with_reducible refine (insidep_n _ (N + 1) _ hx.out).mono ?_)
               rintro e u2 ⟨rfl, rfl⟩
               rw [hmN]))
          obtain ⟨HP, HK⟩ := pen_st P1 hl K1 (rfl : (M : Int) = _)
          go_end0
          exact ⟨rfl, HP, HK⟩
end Go.Proofs.Ytjncahcigbdbgaa
