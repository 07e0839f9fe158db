import Derived.Test.YtpfcjcldokghbaaNF
namespace Go.Proofs.Ytpfcjcldokghbaa
open Go.RowKit

section
variable {ops : Array Oper} {rest : List Oper} {o : Oper} {a : Act} {w : World} {Q : Exit → Act → World → Prop}
/-- A new variable of a setting's type takes one. -/
theorem sn26 (hw : Region.wanted o (yielded ops a.tmps) = true) (x y : Operand) (ho : o.op = .store 26 x y) (w0 : World) (cs : Array Value) (hs : cs.size = 24) (hw0 : w = w0.alloc (.cells cs 26)) (hx : a.eval x = .pointer (some ⟨w0.heap.size, 0, none⟩)) (t : Tm) (ht : t.c.length = 19) (hy : a.eval y = .agg t.cs)
    (h : ∀ w', Hid (Box w' w0.heap.size 26 t.cs) → Hid (Below w0.heap.size w0 w') → wpList Try.prog ops Q rest (a.put o.dst undef) w') : wpList Try.prog ops Q (o :: rest) a w := by
  subst hw0
  refine st26 hw x y ho w0.heap.size hx t ht hy cs (Box.new w0 26 cs) hs ?_
  intro w' hb hk
  exact h w' hb (hid (((Below.refl _ w0).alloc (Nat.le_refl _) _).trans (hk.out.below (Nat.le_refl _))))
end
theorem map_lit (w : World) {t : Tm} (ht : t.Ok) (bs ys : List UInt8) (n g : Nat) (cs : Array Value) (hc : (bv bs).toArray = cs) (hn : bs.length = n) (hm : n ≤ 20000) (hy : mapB t bs = ys) (hg : g = w.heap.size) :
    Calls Try.prog 15 #[.agg t.cs, .slice (some ⟨g, 0, none⟩) n n] (w.alloc (.cells cs 5)) (Ret w ys) := by
  subst hg hy
  refine (map_any _ t ht _ n n bs (hid (slb_lit w bs n cs hc hn (by unfold maxLen; omega))) hn hm).mono ?_
  rintro e w' ⟨A, m, c, h1, h2, h3, h4⟩
  exact ⟨A, m, c, h1, h2, h3, hid (((Below.refl _ w).alloc (Nat.le_refl _) _).trans (h4.out.mono (by simp)))⟩
theorem bytes_eq (w : World) (A A2 : Option Addr) (c c2 n : Nat) (xs : List UInt8) (hn : xs.length = n) (hx : Hid (SlB w w.heap.size A c xs)) (hy : Hid (SlB w w.heap.size A2 c2 xs)) (hl : n ≤ maxLen) :
    Calls Try.prog 12 #[.slice A n c, .slice A2 n c2] w fun e w' => e = .returned (.bool true) ∧ Hid (Below w.heap.size w w') := by
  subst hn
  refine (bytes_any w _ _ A A2 c c2 xs xs hx.out.2.2.2 hy.out.2.2.2 hl hl).mono ?_
  rintro e w' ⟨rfl, k, rfl⟩
  exact ⟨by simp, hid (bel_drewN (Below.refl _ _) k)⟩
theorem bytes_two (w : World) (A A2 : Option Addr) (c c2 n n2 : Nat) (xs ys : List UInt8) (hn : xs.length = n) (hn2 : ys.length = n2) (hxy : xs = ys) (hx : Hid (SlB w w.heap.size A c xs)) (hy : Hid (SlB w w.heap.size A2 c2 ys)) (hl : n ≤ maxLen) :
    Calls Try.prog 12 #[.slice A n c, .slice A2 n2 c2] w fun e w' => e = .returned (.bool true) ∧ Hid (Below w.heap.size w w') := by
  subst hxy
  obtain rfl : n = n2 := by omega
  exact bytes_eq w A A2 c c2 n xs hn hx hy hl
theorem bytes_lit (w : World) (A : Option Addr) (c n g : Nat) (xs : List UInt8) (hn : xs.length = n) (hx : Hid (SlB w w.heap.size A c xs)) (cs : Array Value) (hc : (bv xs).toArray = cs) (hg : g = w.heap.size) (hl : n ≤ maxLen) :
    Calls Try.prog 12 #[.slice A n c, .slice (some ⟨g, 0, none⟩) n n] (w.alloc (.cells cs 5)) fun e w' => e = .returned (.bool true) ∧ Hid (Below w.heap.size w w') := by
  subst hg
  refine (bytes_eq _ A _ c n n xs hn (slb_at hx (hid ((Below.refl _ w).alloc (Nat.le_refl _) _))) (hid (slb_lit w xs n cs hc hn hl)) hl).mono ?_
  rintro e w' ⟨rfl, h⟩
  exact ⟨rfl, hid (((Below.refl _ w).alloc (Nat.le_refl _) _).trans (h.out.mono (by simp)))⟩
theorem set_b (w : World) {t t' : Tm} (ht : t.Ok) {op : Int} {on : Bool} (h : setT t op on = t') : Calls Try.prog 17 #[.agg t.cs, .int .i64 op, .bool on] w fun e w' => e = .returned (.agg t'.cs) ∧ Hid (Below w.heap.size w w') := by
  subst h
  exact set_any w t ht op on
theorem turn_x (w : World) {t : Tm} (ht : t.Ok) {c x : UInt8} {ok : Bool} {C X : Int} (hC : (c.toNat : Int) = C) (hX : (x.toNat : Int) = X) (h : turnB t c = (x, ok)) : Calls Try.prog 8 #[.agg t.cs, .int .u8 C] w fun e w' => e = .returned (.tuple #[.int .u8 X, .bool ok]) ∧ Hid (Below w.heap.size w w') := by
  subst hC hX
  exact turn_b w ht h
theorem a1 : mapB dT [97, 13, 10, 255] = [97, 10, 10, 255] := by decide
theorem a2 : mapB (setT dT 31 true) [255] = [255, 255] := by decide
theorem a3 : mapB (setT dT 33 true) [225] = [97] := by decide
theorem a4 : turnB (setT dT 35 true) 13 = (0, false) := by decide
def D31 : Tm := setT dT 31 true
def D33 : Tm := setT dT 33 true
def D35 : Tm := setT dT 35 true
theorem ok31 : D31.Ok := setT_ok dT_ok _ _
theorem ok33 : D33.Ok := setT_ok dT_ok _ _
theorem ok35 : D35.Ok := setT_ok dT_ok _ _
theorem t35 (w : World) : Calls Try.prog 8 #[.agg D35.cs, .int .u8 13] w fun e w' => e = .returned (.tuple #[.int .u8 0, .bool false]) ∧ Hid (Below w.heap.size w w') := turn_x w ok35 (c := 13) (x := 0) rfl rfl a4
theorem ml1 (w : World) : Calls Try.prog 15 #[.agg dT.cs, .slice (some ⟨w.heap.size, 0, none⟩) 4 4] (w.alloc (.cells #[.int .u8 97, .int .u8 13, .int .u8 10, .int .u8 255] 5)) (Ret w [97, 10, 10, 255]) := map_lit w dT_ok [97, 13, 10, 255] [97, 10, 10, 255] 4 _ _ rfl rfl (by decide) a1 rfl
theorem ml2 (w : World) : Calls Try.prog 15 #[.agg D31.cs, .slice (some ⟨w.heap.size, 0, none⟩) 1 1] (w.alloc (.cells #[.int .u8 255] 5)) (Ret w [255, 255]) := map_lit w ok31 [255] [255, 255] 1 _ _ rfl rfl (by decide) a2 rfl
theorem ml3 (w : World) : Calls Try.prog 15 #[.agg D33.cs, .slice (some ⟨w.heap.size, 0, none⟩) 1 1] (w.alloc (.cells #[.int .u8 225] 5)) (Ret w [97]) := map_lit w ok33 [225] [97] 1 _ _ rfl rfl (by decide) a3 rfl
theorem bl1 (w : World) (A : Option Addr) (c : Nat) (hx : Hid (SlB w w.heap.size A c [97, 10, 10, 255])) : Calls Try.prog 12 #[.slice A 4 c, .slice (some ⟨w.heap.size, 0, none⟩) 4 4] (w.alloc (.cells #[.int .u8 97, .int .u8 10, .int .u8 10, .int .u8 255] 5)) fun e w' => e = .returned (.bool true) ∧ Hid (Below w.heap.size w w') := bytes_lit w A c 4 _ [97, 10, 10, 255] rfl hx _ rfl rfl (by decide)
theorem bl2 (w : World) (A : Option Addr) (c : Nat) (hx : Hid (SlB w w.heap.size A c [97])) : Calls Try.prog 12 #[.slice A 1 c, .slice (some ⟨w.heap.size, 0, none⟩) 1 1] (w.alloc (.cells #[.int .u8 97] 5)) fun e w' => e = .returned (.bool true) ∧ Hid (Below w.heap.size w w') := bytes_lit w A c 1 _ [97] rfl hx _ rfl rfl (by decide)
set_option maxRecDepth 100000 in
set_option maxHeartbeats 4000000 in
theorem alive_any (w : World) : Calls Try.prog 7 #[] w fun e w' => e = .returned (.bool true) ∧ Hid (Below w.heap.size w w') := by
  have hs := hid (cs_size dT_ok.len)
  go_enter Try.func7, Try.ntmps7
  go_wp2_with (first
    | (go_at_call 19
       (with_reducible refine (default_any _).mono ?_)
       rintro e w1 ⟨rfl, K1⟩)
    | (refine sn26 (by rfl) _ _ (by rfl) w1 _ rfl rfl (by rfl) dT dT_ok.len (by rfl) ?_
       intro u1 G1 k1
       have B1 := bel_t K1 k1
       clear K1 k1)
    | (refine ld26 (by rfl) _ (by rfl) _ (by rfl) dT.cs G1.out hs.out ?_)
    | (refine ld26 (by rfl) _ (by rfl) _ (by rfl) dT.cs G2.out hs.out ?_)
    | (refine ld26 (by rfl) _ (by rfl) _ (by rfl) dT.cs G4.out hs.out ?_)
    | (refine ld26 (by rfl) _ (by rfl) _ (by rfl) dT.cs G6.out hs.out ?_)
    | (go_at_call 15
       (first
         | ((with_reducible refine (ml1 u1).mono ?_)
            rintro e u2 ⟨A2, n2, c2, rfl, hn2, S2, K2⟩
            obtain rfl : n2 = 4 := hn2.out.symm
            have B2 := bel_t B1 K2.out
            have G2 := hid (box_below G1.out K2.out)
            clear K2 G1 B1 hn2)
         | ((with_reducible refine (ml2 u3).mono ?_)
            rintro e u4 ⟨A4, n4, c4, rfl, hn4, S4, K4⟩
            obtain rfl : n4 = 2 := hn4.out.symm
            have B4 := bel_t B3 K4.out
            have G4 := hid (box_below G3.out K4.out)
            have S42 := slb_at S32 K4
            clear K4 G3 B3 hn4 S32)
         | ((with_reducible refine (ml3 u5).mono ?_)
            rintro e u6 ⟨A6, n6, c6, rfl, hn6, S6, K6⟩
            obtain rfl : n6 = 1 := hn6.out.symm
            have B6 := bel_t B5 K6.out
            have G6 := hid (box_below G5.out K6.out)
            have S62 := slb_at S52 K6
            have S64 := slb_at S54 K6
            clear K6 G5 B5 hn6 S52 S54)))
    | (go_at_call 17
       (first
         | ((with_reducible refine (set_b _ dT_ok (show setT dT 31 true = D31 from rfl)).mono ?_)
            rintro e u3 ⟨rfl, K3⟩
            have B3 := bel_t B2 K3.out
            have G3 := hid (box_below G2.out K3.out)
            have S32 := slb_at S2 K3
            clear K3 G2 B2 S2)
         | ((with_reducible refine (set_b _ dT_ok (show setT dT 33 true = D33 from rfl)).mono ?_)
            rintro e u5 ⟨rfl, K5⟩
            have B5 := bel_t B4 K5.out
            have G5 := hid (box_below G4.out K5.out)
            have S52 := slb_at S42 K5
            have S54 := slb_at S4 K5
            clear K5 G4 B4 S42 S4)
         | ((with_reducible refine (set_b _ dT_ok (show setT dT 35 true = D35 from rfl)).mono ?_)
            rintro e u7 ⟨rfl, K7⟩
            have B7 := bel_t B6 K7.out
            have S72 := slb_at S62 K7
            have S74 := slb_at S64 K7
            have S76 := slb_at S6 K7
            clear K7 G6 B6 S62 S64 S6)))
    | (go_at_call 8
       (with_reducible refine (t35 _).mono ?_)
       rintro e u8 ⟨rfl, K8⟩
       have B8 := bel_t B7 K8.out
       have S82 := slb_at S72 K8
       have S84 := slb_at S74 K8
       have S86 := slb_at S76 K8
       clear K8 B7 S72 S74 S76)
    | (go_at_call 12
       (first
         | ((with_reducible refine (bl1 u8 A2 c2 S82).mono ?_)
            rintro e u9 ⟨rfl, K9⟩
            have B9 := bel_t B8 K9.out
            have S96 := slb_at S86 K9
            clear K9 B8)
         | ((with_reducible refine (bl2 u9 A6 c6 S96).mono ?_)
            rintro e u10 ⟨rfl, K10⟩
            have B10 := bel_t B9 K10.out
            clear K10 B9))))
  go_ret
  exact ⟨rfl, B10⟩
end Go.Proofs.Ytpfcjcldokghbaa
