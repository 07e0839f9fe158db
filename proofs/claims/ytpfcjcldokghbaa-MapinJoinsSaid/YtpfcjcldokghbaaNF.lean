import Derived.Test.YtpfcjcldokghbaaNE
import Derived.BigQuiet
import Derived.Deep.QuietTactic
namespace Go.Proofs.Ytpfcjcldokghbaa
open Go.RowKit

@[simp] theorem isP_v (g : Nat) : isP (.pointer (some ⟨g, 0, none⟩)) = true := rfl
@[simp] theorem blkV_v (g : Nat) : blkV (.pointer (some ⟨g, 0, none⟩)) = g := rfl
@[simp] theorem aggV_v (cs : Array Value) : aggV (.agg cs) = cs := rfl
section
variable {dst : Option Tmp} {x y : Operand} {ty r : TypeId} {pos : String} {after : Array Edge} {gd : Option (Nat × Bool)} {a : Act}
theorem quiet_val {P : Program} {u0 : World} {o : Oper} {K : Act → Prop} (v : Value) (h : ∀ z : Gr u0, (execOp a.eval o).run P (grw z) = .ok (.value v) (grw z)) :
    Oper.quiet P o a (fun w' => ∃ z : Gr u0, w' = grw z) K = K (a.put o.dst v) := by
  apply propext
  unfold Oper.quiet Oper.quietAt
  constructor
  · rintro ⟨v', h1, h2⟩
    have h3 := h1 (grw (⟨u0, Below.refl _ _⟩ : Gr u0)) ⟨_, rfl⟩
    rw [h] at h3
    obtain ⟨_, rfl⟩ := h3
    exact h2
  · intro hk
    refine ⟨v, ?_, hk⟩
    rintro w ⟨z, rfl⟩
    rw [h z]
    exact ⟨rfl, rfl⟩
theorem wq_ld26 {u0 : World} {K : Act → Prop} (h1 : isP (a.eval x) = true) (h2 : isB u0 (blkV (a.eval x)) = true) :
    Oper.quiet Try.prog { dst, op := .load 26 x, type := ty, pos, after, guard := gd } a (fun w' => ∃ z : Gr u0, w' = grw z) K = K (a.put dst (.agg (cs26 u0 (blkV (a.eval x))))) := by
  obtain ⟨hb, hs⟩ := isB_box h2
  have hx := isP_eq h1
  refine quiet_val _ fun z => ?_
  generalize blkV (a.eval x) = g at *
  unfold execOp
  simp only [hx, Instr.loadAt, Instr.sureAddr, Sem.run_bind, Sem.run_pure, Result.andThen_ok, run_loadVar_row (P := Try.prog) (grw z) g 26 26 _ (0, 0) _ (gr_box z hb) Try.underlying26 rfl (by rw [hs]; exact Try.size26)]
end
theorem q11 {u0 : World} {z : Gr u0} {t : Tm} (ht : t.Ok) {c x : UInt8} (h : stripB t c = x) : Calls Try.prog 11 #[.agg t.cs, .int .u8 (c.toNat : Int)] (grw z) fun e w'' => e = .returned (.int .u8 (x.toNat : Int)) ∧ ∃ z' : Gr u0, w'' = grw z' := gr_call (stripr_b _ ht h)
theorem q9 {u0 : World} {z : Gr u0} {t : Tm} (ht : t.Ok) {c x : UInt8} {ok : Bool} (h : turnB t c = (x, ok)) : Calls Try.prog 9 #[.agg t.cs, .int .u8 (c.toNat : Int)] (grw z) fun e w'' => e = .returned (.tuple #[.int .u8 (x.toNat : Int), .bool ok]) ∧ ∃ z' : Gr u0, w'' = grw z' := gr_call (turnr_b _ ht h)
/-- What the bytes are behind so many steps. -/
def st (t : Tm) (bs : List UInt8) : Nat → List UInt8
  | 0 => bs
  | 1 => bs.flatMap (stripL t)
  | 2 => (bs.flatMap (stripL t)).flatMap (turnL t)
  | _ => ((bs.flatMap (stripL t)).flatMap (turnL t)).flatMap (markB t)
theorem st1 (t : Tm) (bs : List UInt8) : (st t bs 0).flatMap (stripL t) = st t bs 1 := rfl
theorem st2 (t : Tm) (bs : List UInt8) : (st t bs 1).flatMap (turnL t) = st t bs 2 := rfl
theorem st3 (t : Tm) (bs : List UInt8) : (st t bs 2).flatMap (markB t) = st t bs 3 := rfl
theorem st_len (t : Tm) (bs : List UInt8) (h : bs.length ≤ 20000) (j : Nat) (hj : j < 3) : (st t bs j).length ≤ 80000 := by
  rcases (by omega : j = 0 ∨ j = 1 ∨ j = 2) with rfl | rfl | rfl
  · show bs.length ≤ _
    omega
  · have := flat_len (stripL_len t) bs
    show (bs.flatMap (stripL t)).length ≤ _
    omega
  · have h1 := flat_len (stripL_len t) bs
    have h2 := flat_len (turnL_len t) (bs.flatMap (stripL t))
    show ((bs.flatMap (stripL t)).flatMap (turnL t)).length ≤ _
    omega
theorem st_end (t : Tm) (bs : List UInt8) : st t bs 3 = mapB t bs := map_three t bs
theorem all22_x (w : World) (t : Tm) (ht : t.Ok) (A : Option Addr) (n c : Nat) (bs cs : List UInt8) (hb : Hid (SlB w w.heap.size A c bs)) (hn : bs.length = n) (hm : n ≤ 100000) (hc : bs.flatMap (stripL t) = cs) :
    Calls Try.prog 24 #[.func (.func 22) #[] #[], .agg t.cs, .slice A n c] w (Ret w cs) := by
  subst hc
  exact all22 w t ht A n c bs hb hn hm
theorem all23_x (w : World) (t : Tm) (ht : t.Ok) (A : Option Addr) (n c : Nat) (bs cs : List UInt8) (hb : Hid (SlB w w.heap.size A c bs)) (hn : bs.length = n) (hm : n ≤ 100000) (hc : bs.flatMap (turnL t) = cs) :
    Calls Try.prog 24 #[.func (.func 23) #[] #[], .agg t.cs, .slice A n c] w (Ret w cs) := by
  subst hc
  exact all23 w t ht A n c bs hb hn hm
theorem all13_x (w : World) (t : Tm) (ht : t.Ok) (A : Option Addr) (n c : Nat) (bs cs : List UInt8) (hb : Hid (SlB w w.heap.size A c bs)) (hn : bs.length = n) (hm : n ≤ 100000) (hc : bs.flatMap (markB t) = cs) :
    Calls Try.prog 24 #[.func (.func 13) #[] #[], .agg t.cs, .slice A n c] w (Ret w cs) := by
  subst hc
  exact all13 w t ht A n c bs hb hn hm
theorem run_index_one {P : Program} (w : World) (t e : TypeId) (len : Nat) (d : TypeDesc) (cs : Array Value) (k : IntKind) (i : Nat) (v : Value) (ht : P.underlying t = some (.array len e)) (hu : P.underlying e = some d) (hd : (match d with | .struct _ | .array _ _ => true | _ => false) = false) (hi : (P.info? e).map (·.size) = some 1) (hlt : i < len) (hv : cs[i]? = some v) :
    (Instr.index t (.agg cs) (.int k (i : Int))).run P w = .ok v w := by
  have hsz : (sizeOf e).run P w = .ok 1 w := by
    cases hq : P.info? e with
    | none => simp [hq] at hi
    | some i0 => simp [sizeOf, typeInfo, hq] at hi ⊢; exact hi
  have h2 : ((i : Int) < len) := by omega
  have hagg : (isAgg e).run P w = .ok false w := by
    unfold isAgg
    rw [Sem.run_bind, run_underlying hu w]
    cases d <;> simp_all
  have hp : (part e cs i).run P w = .ok v w := by simp [part, Sem.run_bind, hagg, hv]
  simp [Instr.index, asIntOf, run_underlying ht, hsz, hp]
  intro h
  omega
theorem Try.size46 : (Try.prog.info? 46).map (·.size) = some 1 := by kernel_rfl
theorem index47 (j : Nat) (hj : j < 3) (v : Value) (h : (#[.func (.func 22) #[] #[], .func (.func 23) #[] #[], .func (.func 13) #[] #[]] : Array Value)[j]? = some v) : ∀ W : World, (Instr.index 47 (.agg #[.func (.func 22) #[] #[], .func (.func 23) #[] #[], .func (.func 13) #[] #[]]) (.int .i64 (j : Int))).run Try.prog W = .ok v W := fun W =>
  run_index_one W 47 46 3 _ _ .i64 j v Try.underlying47 Try.underlying46 rfl Try.size46 hj h
theorem index47_0 (W : World) : (Instr.index 47 (.agg #[.func (.func 22) #[] #[], .func (.func 23) #[] #[], .func (.func 13) #[] #[]]) (.int .i64 0)).run Try.prog W = .ok (.func (.func 22) #[] #[]) W := index47 0 (by omega) _ rfl W
theorem index47_1 (W : World) : (Instr.index 47 (.agg #[.func (.func 22) #[] #[], .func (.func 23) #[] #[], .func (.func 13) #[] #[]]) (.int .i64 1)).run Try.prog W = .ok (.func (.func 23) #[] #[]) W := index47 1 (by omega) _ rfl W
theorem index47_2 (W : World) : (Instr.index 47 (.agg #[.func (.func 22) #[] #[], .func (.func 23) #[] #[], .func (.func 13) #[] #[]]) (.int .i64 2)).run Try.prog W = .ok (.func (.func 13) #[] #[]) W := index47 2 (by omega) _ rfl W
set_option maxRecDepth 100000 in
set_option maxHeartbeats 2000000 in
theorem map_any (w : World) (t : Tm) (ht : t.Ok) (A : Option Addr) (n c : Nat) (bs : List UInt8) (hb : Hid (SlB w w.heap.size A c bs)) (hn : bs.length = n) (hm : n ≤ 20000) :
    Calls Try.prog 15 #[.agg t.cs, .slice A n c] w (Ret w (mapB t bs)) := by
  have hs := cs_size ht.len
  have K0 : Hid (Below w.heap.size w (w.alloc (.cells t.cs 26))) := hid ((Below.refl _ w).alloc (Nat.le_refl _) _)
  have HL := hid (st_len t bs (by omega))
  go_enter Try.func15, Try.ntmps15
  go_wp2_with (refine bx26 (by rfl) _ (by rfl) _ (by rfl) hs ?_; intro G0)
  go_loopw [1, 8] (fun b i wr => ∃ (j : Nat) (J : Int) (B : Option Addr) (k d : Nat), j ≤ 3 ∧ (j : Int) = J ∧ i = .int .i64 J ∧ b = .slice B k d ∧ Hid ((st t bs j).length = k) ∧ Hid (SlB wr wr.heap.size B d (st t bs j)) ∧ Hid (Below w.heap.size w wr) ∧ Hid (Box wr w.heap.size 26 t.cs)) (fun _ i _ => 3 - (intOf i).toNat)
  case atStart => exact ⟨0, 0, A, n, c, by omega, rfl, rfl, rfl, hid hn, slb_at hb K0, K0, G0⟩
  case round =>
    obtain ⟨j, J, B, k, d, hj, hJ, rfl, rfl, hk, hS, HK, HG⟩ := hrel
    rcases (by omega : j = 0 ∨ j = 1 ∨ j = 2 ∨ j = 3) with rfl | rfl | rfl | rfl
    · obtain rfl : J = 0 := by omega
      have hk2 := hk.out
      have hx := index47_0
      have hl := HL.out 0 (by omega)
      go_wp2_with (first
        | (refine ld26 (by rfl) _ (by rfl) _ (by rfl) t.cs HG.out hs ?_)
        | (go_at_call 24
           (with_reducible refine (all22_x _ t ht B k d (st t bs 0) (st t bs 1) hS hk2 (by rw [hk2] at hl; omega) (st1 t bs)).mono ?_)
           rintro e u1 ⟨B1, k1, d1, rfl, hk1, S1, K1⟩
           have HK1 := bel_t HK K1.out
           have HG1 := hid (box_below HG.out K1.out)))
      go_roundw
      case rel => exact ⟨1, 1, B1, k1, d1, by omega, rfl, rfl, rfl, hk1, S1, HK1, HG1⟩
      case measure => simp [intOf]
    · obtain rfl : J = 1 := by omega
      have hk2 := hk.out
      have hx := index47_1
      have hl := HL.out 1 (by omega)
      go_wp2_with (first
        | (refine ld26 (by rfl) _ (by rfl) _ (by rfl) t.cs HG.out hs ?_)
        | (go_at_call 24
           (with_reducible refine (all23_x _ t ht B k d (st t bs 1) (st t bs 2) hS hk2 (by rw [hk2] at hl; omega) (st2 t bs)).mono ?_)
           rintro e u1 ⟨B1, k1, d1, rfl, hk1, S1, K1⟩
           have HK1 := bel_t HK K1.out
           have HG1 := hid (box_below HG.out K1.out)))
      go_roundw
      case rel => exact ⟨2, 2, B1, k1, d1, by omega, rfl, rfl, rfl, hk1, S1, HK1, HG1⟩
      case measure => simp [intOf]
    · obtain rfl : J = 2 := by omega
      have hk2 := hk.out
      have hx := index47_2
      have hl := HL.out 2 (by omega)
      go_wp2_with (first
        | (refine ld26 (by rfl) _ (by rfl) _ (by rfl) t.cs HG.out hs ?_)
        | (go_at_call 24
           (with_reducible refine (all13_x _ t ht B k d (st t bs 2) (st t bs 3) hS hk2 (by rw [hk2] at hl; omega) (st3 t bs)).mono ?_)
           rintro e u1 ⟨B1, k1, d1, rfl, hk1, S1, K1⟩
           have HK1 := bel_t HK K1.out
           have HG1 := hid (box_below HG.out K1.out)))
      go_roundw
      case rel => exact ⟨3, 3, B1, k1, d1, by omega, rfl, rfl, rfl, hk1, S1, HK1, HG1⟩
      case measure => simp [intOf]
    · obtain rfl : J = 3 := by omega
      go_wp2
      go_ret
      rw [st_end] at hk hS
      exact ⟨B, k, d, rfl, hk, hS, HK⟩
attribute [local go_sem ↓] wq_ld26
attribute [local go_sem] isP_v blkV_v aggV_v
set_option maxRecDepth 100000 in
set_option maxHeartbeats 2000000 in
theorem mapr_any (w : World) (t : Tm) (ht : t.Ok) (A : Option Addr) (n c : Nat) (bs : List UInt8) (hb : Hid (SlB w w.heap.size A c bs)) (hn : bs.length = n) (hm : n ≤ 20000) :
    Calls Try.prog 16 #[.agg t.cs, .slice A n c] w (Ret w (mapB t bs)) := by
  have hs := cs_size ht.len
  have K0 : Hid (Below w.heap.size w (w.alloc (.cells t.cs 26))) := hid ((Below.refl _ w).alloc (Nat.le_refl _) _)
  have HF := hid (flat_take (mapR1_len t) bs)
  unfold mapB
  go_enter Try.func16, Try.ntmps16
  go_wp2_with (refine bx26 (by rfl) _ (by rfl) _ (by rfl) hs ?_; intro G0)
  go_loopw [5, 12] (fun l i wr => ∃ j B k d, j ≤ n ∧ i = .int .i64 (j : Int) ∧ l = .slice B k d ∧ Hid (((bs.take j).flatMap (mapR1 t)).length = k) ∧ Hid (wr.ownsRow w.heap.size 5 1 (.slice B k d) k (bv ((bs.take j).flatMap (mapR1 t)))) ∧ Hid (Below w.heap.size w wr) ∧ Hid (Box wr w.heap.size 26 t.cs)) (fun _ i _ => n - (intOf i).toNat)
  case atStart => exact ⟨0, none, 0, 0, Nat.zero_le _, rfl, rfl, hid rfl, hid (World.ownsRow_nil _ _ _ _), K0, G0⟩
  case round =>
    obtain ⟨j, B, k, d, hj, rfl, rfl, hk, ho, HK, HG⟩ := hrel
    by_cases hjn : j < n
    · have hj2 : (j : Int) < (n : Int) := by omega
      have S1 := slb_at hb HK
      obtain ⟨b, o, y, rfl, hy, cy⟩ := slb_cell S1.out hn hjn
      have HY := hid hy
      have hk2 : k ≤ 200000 := by have := HF.out j; rw [hk.out] at this; omega
      obtain ⟨x, hx⟩ : ∃ x, stripB t y = x := ⟨_, rfl⟩
      obtain ⟨⟨v, ok⟩, hv⟩ : ∃ z, turnB t x = z := ⟨_, rfl⟩
      obtain ⟨q1, q2⟩ := box_isB HG.out ht.len
      clear hy
      go_wp2
      refine wp_region_grown (by kernel_rfl) (by kernel_rfl) ?_
      repeat (go_big_quiet_step (first | (go_at_call 11; with_reducible exact q11 ht hx) | (go_at_call 9; with_reducible exact q9 ht hv)))
      refine wpQuiet_nil ?_
      intro z
      have HK1 := bel_t HK z.b
      have HG1 := hid (gr_box z HG.out)
      have ho1 := hid (own_keep ho.out z.b)
      have hz1 : Hid (w.heap.size ≤ (grw z).heap.size) := hid HK1.out.size
      cases ok
      · have e0 : Hid (mapR1 t y = []) := hid (by unfold mapR1; rw [hx, hv]; rfl)
        clear q1 q2
        go_wp2
        go_roundw
        case rel => exact ⟨j + 1, B, k, d, by omega, by go_num, rfl, hid (by rw [flat_snoc _ _ _ _ HY.out, e0.out, List.append_nil]; exact hk.out), hid (by rw [flat_snoc _ _ _ _ HY.out, e0.out, List.append_nil]; exact ho1.out), HK1, HG1⟩
        case measure => simp [intOf]; omega
      · have e0 : Hid (mapR1 t y = markB t v) := hid (by unfold mapR1; rw [hx, hv]; rfl)
        clear q1 q2
        go_wp2_with (first
          | (refine ld26 (by rfl) _ (by rfl) _ (by rfl) t.cs HG1.out hs ?_)
          | (go_at_call 14
             (with_reducible refine (markr_any _ t ht v).mono ?_)
             rintro e u2 ⟨A1, n1, c1, rfl, hn1, S2, K2⟩
             have HK2 := bel_t HK1 K2.out
             have HG2 := hid (box_below HG1.out K2.out)
             have ho2 := hid (own_keep ho1.out K2.out))
          | (at_builtin
             (refine app_own u2 rfl (.tmp 25) (.tmp 28) rfl w.heap.size k d B ((bs.take j).flatMap (mapR1 t)) rfl ho2 HK2.out.size A1 n1 c1 (markB t v) rfl S2 hn1.out (by have := markB_len t v; rw [hn1.out] at this; omega) ?_)
             intro B2 d2 u3 ho3 hk3))
        go_roundw
        case rel => exact ⟨j + 1, B2, k + n1, d2, by omega, by go_num, rfl, hid (by rw [flat_snoc _ _ _ _ HY.out, e0.out, List.length_append, hk.out, hn1.out]), hid (by rw [flat_snoc _ _ _ _ HY.out, e0.out]; exact ho3.out), bel_k HK2 hk3, hid (hk3.out.box HG2.out (by decide))⟩
        case measure => simp [intOf]; omega
    · obtain rfl : j = n := by omega
      go_wp2
      go_ret
      rw [List.take_of_length_le (by omega)] at hk ho
      exact ret_own hk.out ho HK
end Go.Proofs.Ytpfcjcldokghbaa
