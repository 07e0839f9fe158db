import Derived.Test.YtgkcappcjlfloaaMQ
namespace Go.Proofs.Ytgkcappcjlfloaa
open Go.RowKit

section
variable {ops : Array Oper} {rest : List Oper} {o : Oper} {a : Act} {w : World} {Q : Exit → Act → World → Prop}
/-- Two settings are compared. -/
theorem eqw26 (hw : Region.wanted o (yielded ops a.tmps) = true) (x y : Operand) (r : TypeId) (ho : o.op = .binOp .eql 26 x y r) (t u : Tm) (ht : t.c.length = 19) (hu : u.c.length = 19) (hx : a.eval x = .agg t.cs) (hy : a.eval y = .agg u.cs) (b : Bool) (hb : eqT t u = b)
    (h : wpList Try.prog ops Q rest (a.put o.dst (.bool b)) w) : wpList Try.prog ops Q (o :: rest) a w :=
  BigFrame.wpList_want hw fun _ hK => by
    have hm : Try.prog.eqGuardType Try.prog.depth 26 = false := by kernel_rfl
    unfold Oper.wp execOp
    simp only [ho, hx, hy, Sem.run_bind, run_eqGuard_agg w _ 26 _ _ _ _ hm, Result.andThen_ok, run_eql26 w t u ht hu, hb]
    exact hK _ _ h
/-- A new variable of a setting's type takes one. -/
theorem sn26 (hw : Region.wanted o (yielded ops a.tmps) = true) (x y : Operand) (ho : o.op = .store 26 x y) (w0 : World) (cs : Array Value) (hs : cs.size = 24) (hw0 : w = w0.alloc (.cells cs 26)) (hx : a.eval x = .pointer (some ⟨w0.heap.size, 0, none⟩)) (t : Tm) (ht : t.c.length = 19) (hy : a.eval y = .agg t.cs)
    (h : ∀ w', Hid (Box w' w0.heap.size 26 t.cs) → Hid (Below w0.heap.size w0 w') → wpList Try.prog ops Q rest (a.put o.dst undef) w') : wpList Try.prog ops Q (o :: rest) a w := by
  subst hw0
  refine st26 hw x y ho w0.heap.size hx t ht hy cs (Box.new w0 26 cs) hs ?_
  intro w' hb hk
  exact h w' hb (hid (((Below.refl _ w0).alloc (Nat.le_refl _) _).trans (hk.out.below (Nat.le_refl _))))
end
theorem dec_b (w : World) (A : Option Addr) (c n : Nat) {bs : List UInt8} {t t' : Tm} {e : Int} (hb : Hid (SlB w w.heap.size A c bs)) (hn : bs.length = n) (ht : t.Ok) (h : decT bs t = (t', e)) :
    Calls Try.prog 22 #[.slice A n c, .agg t.cs] w fun e' w' => e' = .returned (.tuple #[.agg t'.cs, .int .i64 e]) ∧ Hid (Below w.heap.size w w') := by
  have := decode_any w t ht A c n bs hb.out hn
  rwa [h] at this
theorem has_b (w : World) {t : Tm} (ht : t.Ok) {op : Int} {b : Bool} (hb : hasN t.f op = b) : Calls Try.prog 12 #[.agg t.cs, .int .i64 op] w fun e w' => e = .returned (.bool b) ∧ Hid (Below w.heap.size w w') := by
  subst hb
  exact has_any w t ht op
theorem is_b (w : World) {t : Tm} (ht : t.Ok) {op : Int} {x : UInt8} {X : Int} {b : Bool} (hX : (x.toNat : Int) = X) (hb : (chB t op && decide (x = chV t op)) = b) : Calls Try.prog 16 #[.agg t.cs, .int .i64 op, .int .u8 X] w fun e w' => e = .returned (.bool b) ∧ Hid (Below w.heap.size w w') := by
  subst hb
  subst hX
  exact is_any w t ht op x
theorem slb_lit (w : World) (bs : List UInt8) (n : Nat) (cs : Array Value) (hc : (bv bs).toArray = cs) (hn : bs.length = n) (hm : n ≤ maxLen) : SlB (w.alloc (.cells cs 5)) (w.alloc (.cells cs 5)).heap.size (some ⟨w.heap.size, 0, none⟩) n bs := by
  subst hc
  subst hn
  refine ⟨Nat.le_refl _, hm, by simp, ?_⟩
  have := lies_lit w (bv bs).toArray 5
  rw [World.size_alloc]
  simpa using this
theorem slb_grow {w w' : World} {A : Option Addr} {c : Nat} {bs : List UInt8} (h : SlB w w.heap.size A c bs) (k : Below w.heap.size w w') : SlB w' w'.heap.size A c bs :=
  ⟨h.1, h.2.1, h.2.2.1, (h.2.2.2.below k).more k.size⟩
def L1 : List UInt8 := [3, 0, 0, 0, 8, 53, 0, 0, 0, 0, 0]
def T1 : Tm := (decT L1 dT).1
theorem T1_ok : T1.Ok := dec_ok _ _ _ (Nat.le_refl _) dT_ok
theorem d1 : decT L1 dT = (T1, 0) := Prod.ext rfl (by decide)
theorem d2 : decT [160, 1] T1 = (T1, 0) := dec_end (by decide)
theorem d3 : decT [1, 0, 0, 1, 0] T1 = (Tm.zero, 5) := dec_none (by decide) (by decide) (by decide)
theorem d4 : decT [1, 0] T1 = (Tm.zero, 3) := dec_short (by decide) (by decide)
theorem bel_t {w a b : World} (h : Hid (Below w.heap.size w a)) (k : Below a.heap.size a b) : Hid (Below w.heap.size w b) := hid (h.out.trans (k.mono h.out.size))
set_option maxRecDepth 100000 in
set_option maxHeartbeats 4000000 in
theorem alive_any (w : World) : Calls Try.prog 9 #[] w fun e w' => e = .returned (.bool true) ∧ Hid (Below w.heap.size w w') := by
  have hz : Hid (Tm.zero.cs.size = 24) := hid (cs_size rfl)
  have h1s := hid (cs_size T1_ok.len)
  have S1 := hid (slb_lit w L1 11 #[.int .u8 3, .int .u8 0, .int .u8 0, .int .u8 0, .int .u8 8, .int .u8 53, .int .u8 0, .int .u8 0, .int .u8 0, .int .u8 0, .int .u8 0] rfl rfl (by decide))
  have B1 : Hid (Below w.heap.size w (w.alloc (.cells #[.int .u8 3, .int .u8 0, .int .u8 0, .int .u8 0, .int .u8 8, .int .u8 53, .int .u8 0, .int .u8 0, .int .u8 0, .int .u8 0, .int .u8 0] 5))) := hid ((Below.refl _ w).alloc (Nat.le_refl _) _)
  have hi : (chB T1 3 && decide ((8 : UInt8) = chV T1 3)) = true := by decide
  have hh1 : hasN T1.f 53 = false := by decide
  have hh2 : hasN T1.f 51 = true := by decide
  go_enter Try.func9, Try.ntmps9
  go_wp2_with (first
    | (go_at_call 20
       (with_reducible refine (default_any _).mono ?_)
       rintro e w1 ⟨rfl, K1⟩
       have B2 := bel_t B1 K1.out
       have S0 := hid (slb_grow S1.out K1.out)
       clear B1 S1 K1)
    | (go_at_call 22
       (first
         | ((with_reducible refine (dec_b _ _ _ 11 S0 (by decide) dT_ok d1).mono ?_)
            rintro e u1 ⟨rfl, K1⟩
            have BU1 := bel_t B2 K1.out
            clear S0 K1)
         | ((with_reducible refine (dec_b _ _ _ 2 S2 (by decide) T1_ok d2).mono ?_)
            rintro e u2 ⟨rfl, K2⟩
            have BU2 := bel_t BL2 K2.out
            have GU1_2 := hid (box_below GL1_2.out K2.out)
            clear S2 K2)
         | ((with_reducible refine (dec_b _ _ _ 5 S3 (by decide) T1_ok d3).mono ?_)
            rintro e u3 ⟨rfl, K3⟩
            have BU3 := bel_t BL3 K3.out
            have GU1_3 := hid (box_below GL1_3.out K3.out)
            have GU2_3 := hid (box_below GL2_3.out K3.out)
            clear S3 K3)
         | ((with_reducible refine (dec_b _ _ _ 2 S4 (by decide) T1_ok d4).mono ?_)
            rintro e u4 ⟨rfl, K4⟩
            have BU4 := bel_t BL4 K4.out
            have GU1_4 := hid (box_below GL1_4.out K4.out)
            have GU2_4 := hid (box_below GL2_4.out K4.out)
            clear S4 K4)))
    | (refine sn26 (by rfl) _ _ (by rfl) u1 _ rfl rfl (by rfl) T1 T1_ok.len (by rfl) ?_
       intro v1 hb1 hk1
       have BV1 := bel_t BU1 hk1
       have G1_1 := hb1
       have S2 := hid (slb_lit v1 [160, 1] 2 #[.int .u8 160, .int .u8 1] rfl rfl (by decide))
       have BL2 := bel_t BV1 ((Below.refl _ v1).alloc (Nat.le_refl _) (.cells #[.int .u8 160, .int .u8 1] 5))
       have GL1_2 := hid (box_below G1_1.out ((Below.refl _ v1).alloc (Nat.le_refl _) (.cells #[.int .u8 160, .int .u8 1] 5))))
    | (refine sn26 (by rfl) _ _ (by rfl) u2 _ rfl rfl (by rfl) T1 T1_ok.len (by rfl) ?_
       intro v2 hb2 hk2
       have BV2 := bel_t BU2 hk2
       have G1_2 := hid (box_below GU1_2.out hk2.out)
       have G2_2 := hb2
       have S3 := hid (slb_lit v2 [1, 0, 0, 1, 0] 5 #[.int .u8 1, .int .u8 0, .int .u8 0, .int .u8 1, .int .u8 0] rfl rfl (by decide))
       have BL3 := bel_t BV2 ((Below.refl _ v2).alloc (Nat.le_refl _) (.cells #[.int .u8 1, .int .u8 0, .int .u8 0, .int .u8 1, .int .u8 0] 5))
       have GL1_3 := hid (box_below G1_2.out ((Below.refl _ v2).alloc (Nat.le_refl _) (.cells #[.int .u8 1, .int .u8 0, .int .u8 0, .int .u8 1, .int .u8 0] 5)))
       have GL2_3 := hid (box_below G2_2.out ((Below.refl _ v2).alloc (Nat.le_refl _) (.cells #[.int .u8 1, .int .u8 0, .int .u8 0, .int .u8 1, .int .u8 0] 5))))
    | (refine sn26 (by rfl) _ _ (by rfl) u3 _ rfl rfl (by rfl) Tm.zero rfl (by rfl) ?_
       intro v3 hb3 hk3
       have BV3 := bel_t BU3 hk3
       have G1_3 := hid (box_below GU1_3.out hk3.out)
       have G2_3 := hid (box_below GU2_3.out hk3.out)
       have S4 := hid (slb_lit v3 [1, 0] 2 #[.int .u8 1, .int .u8 0] rfl rfl (by decide))
       have BL4 := bel_t BV3 ((Below.refl _ v3).alloc (Nat.le_refl _) (.cells #[.int .u8 1, .int .u8 0] 5))
       have GL1_4 := hid (box_below G1_3.out ((Below.refl _ v3).alloc (Nat.le_refl _) (.cells #[.int .u8 1, .int .u8 0] 5)))
       have GL2_4 := hid (box_below G2_3.out ((Below.refl _ v3).alloc (Nat.le_refl _) (.cells #[.int .u8 1, .int .u8 0] 5))))
    | (refine sn26 (by rfl) _ _ (by rfl) u4 _ rfl rfl (by rfl) Tm.zero rfl (by rfl) ?_
       intro v4 hb4 hk4
       have BV4 := bel_t BU4 hk4
       have G1_4 := hid (box_below GU1_4.out hk4.out)
       have G2_4 := hid (box_below GU2_4.out hk4.out))
    | (refine ld26 (by rfl) _ (by rfl) _ (by rfl) T1.cs GL1_2.out h1s.out ?_)
    | (refine ld26 (by rfl) _ (by rfl) _ (by rfl) T1.cs GL1_3.out h1s.out ?_)
    | (refine ld26 (by rfl) _ (by rfl) _ (by rfl) T1.cs GL1_4.out h1s.out ?_)
    | (refine ld26 (by rfl) _ (by rfl) _ (by rfl) T1.cs G1_4.out h1s.out ?_)
    | (go_at_call 16
       (with_reducible refine (is_b _ T1_ok (x := 8) (X := 8) (by decide) hi).mono ?_)
       rintro e w5 ⟨rfl, K5⟩
       have BW5 := bel_t BV4 K5.out
       have G1_5 := hid (box_below G1_4.out K5.out)
       have G2_5 := hid (box_below G2_4.out K5.out)
       clear BV4 G1_4 G2_4 K5)
    | (refine ld26 (by rfl) _ (by rfl) _ (by rfl) T1.cs G1_5.out h1s.out ?_)
    | (go_at_call 12
       (first
         | ((with_reducible refine (has_b w5 T1_ok hh1).mono ?_)
            rintro e w6 ⟨rfl, K6⟩
            have BW6 := bel_t BW5 K6.out
            have G1_6 := hid (box_below G1_5.out K6.out)
            have G2_6 := hid (box_below G2_5.out K6.out)
            clear BW5 G1_5 G2_5 K6)
         | ((with_reducible refine (has_b w6 T1_ok hh2).mono ?_)
            rintro e w7 ⟨rfl, K7⟩
            have BW7 := bel_t BW6 K7.out
            have G1_7 := hid (box_below G1_6.out K7.out)
            have G2_7 := hid (box_below G2_6.out K7.out)
            clear BW6 G1_6 G2_6 K7)))
    | (refine ld26 (by rfl) _ (by rfl) _ (by rfl) T1.cs G1_6.out h1s.out ?_)
    | (refine ld26 (by rfl) _ (by rfl) _ (by rfl) T1.cs G1_7.out h1s.out ?_)
    | (refine ld26 (by rfl) _ (by rfl) _ (by rfl) T1.cs G2_7.out h1s.out ?_)
    | (refine eqw26 (by rfl) _ _ _ (by rfl) T1 T1 T1_ok.len T1_ok.len (by rfl) (by rfl) true (eqT_self T1) ?_))
  go_ret
  exact ⟨rfl, BW7⟩
end Go.Proofs.Ytgkcappcjlfloaa
