import Derived.Test.YtggcampdkgfmgaaVC
import Derived.Test.YtggcampdkgfmgaaOI
import Derived.Test.YtggcampdkgfmgaaTH
import Derived.Deep.DeepCutAuto
namespace Go.Proofs.Ytggcampdkgfmgaa
open Go.RowKit

/-! The Tops of layer 17: shaken. -/
namespace W1
theorem run_store_func (P : Program) (w : World) (a : Addr) (m : Mode) (f : Fn) (xs ys : Array Value) : (store a (.func f xs ys) m).run P w = stored P w a (.func f xs ys) m := run_store P w a _ m rfl
theorem run_store_nilFunc (P : Program) (w : World) (a : Addr) (m : Mode) : (store a .nilFunc m).run P w = stored P w a .nilFunc m := run_store P w a _ m rfl
def waysV : Array Value := #[.nilFunc, .func (.func 39) #[] #[], .func (.func 40) #[] #[], .func (.func 41) #[] #[], .func (.func 42) #[] #[], .func (.func 43) #[] #[], .func (.func 44) #[] #[]]

set_option maxHeartbeats 400000 in
set_option maxRecDepth 100000 in
theorem writers_any (w : World) :
    Calls Try.prog 24 #[] w fun e w' => e = .returned (.agg waysV) ∧ Below w.heap.size w w' := by
  have h1 := run_store_func Try.prog
  have h2 := run_store_nilFunc Try.prog
  go_enter Try.func24, Try.ntmps24
  go_wp2
  exact bodyPost_ret (v := .agg waysV) (by simp [results, Try.results24, go_sem, waysV]) rfl ⟨rfl, (Below.refl _ _).alloc (Nat.le_refl _) _⟩


theorem mayStand_c (w : World) : Calls Try.prog 23 #[.int .i64 2, .int .i64 0, .int .i64 1] w fun e w' => e = .returned (.bool true) ∧ w' = w := by
  go_enter Try.func23, Try.ntmps23
  go_wp2
  go_ret
  exact ⟨rfl, rfl⟩
theorem bool_c {w W : World} {g : Nat} (hs : Hid (WSt W w.heap.size g [])) : Calls Try.prog 40 #[.pointer (some ⟨g, 0, none⟩), .agg #[.int .i64 2, .int .u32 1, .slice none 0 0, .slice none 0 0]] W fun e w' => e = .returned (.int .i64 0) ∧ Hid (Kept w.heap.size [71, 5] W w') ∧ Hid (WSt w' w.heap.size g [1]) := by
  refine (putBool_any w.heap.size g [] W _ ⟨2, 1, [], []⟩ ⟨none, 0, none, 0, rfl, by show (1 : Nat) < _; decide, by show (-9223372036854775808 : Int) ≤ 2 ∧ (2 : Int) ≤ _; decide, Nat.zero_le _, Nat.zero_le _, ⟨Nat.le_refl _, Nat.le_refl _⟩, Lies.nil_, Lies.nil_, by simp⟩ hs.out (by simp)).mono ?_
  rintro e w' ⟨he, k, h⟩
  exact ⟨he, hid k, hid (h rfl)⟩
set_option maxHeartbeats 4000000 in
set_option maxRecDepth 100000 in
theorem write_bool (w : World) (b0 : Nat) (hb0 : b0 < w.heap.size) (e0 : w.cell? ⟨b0, 0, none⟩ = some (.int .i64 2)) (e1 : w.cell? ⟨b0, 1, none⟩ = some (.int .u32 1)) (e2 : w.cell? ⟨b0, 2, none⟩ = some (.slice none 0 0)) (e3 : w.cell? ⟨b0, 3, none⟩ = some (.slice none 0 0)) :
    Calls Try.prog 10 #[.slice (some ⟨b0, 0, none⟩) 1 1] w fun e w' => ∃ A c, e = .returned (.tuple #[.slice A 1 c, .int .i64 0]) ∧ Hid (w'.ownsRow w.heap.size 5 1 (.slice A 1 c) 1 (bv [1])) ∧ Hid (Below w.heap.size w w') := by
  have h1 := run_store_func Try.prog
  have h2 := run_store_nilFunc Try.prog
  have cc : Hid (∀ W, Below w.heap.size w W → W.cell? ⟨b0, 0, none⟩ = some (.int .i64 2) ∧ W.cell? ⟨b0, 1, none⟩ = some (.int .u32 1) ∧ W.cell? ⟨b0, 2, none⟩ = some (.slice none 0 0) ∧ W.cell? ⟨b0, 3, none⟩ = some (.slice none 0 0)) := hid (fun W k => ⟨(k.cell (p := ⟨b0, 0, none⟩) hb0).trans e0, (k.cell (p := ⟨b0, 1, none⟩) hb0).trans e1, (k.cell (p := ⟨b0, 2, none⟩) hb0).trans e2, (k.cell (p := ⟨b0, 3, none⟩) hb0).trans e3⟩)
  clear e0 e1 e2 e3
  go_enter Try.func10, Try.ntmps10
  go_wp2_with fail
  go_loopg [13] 1 (fun gk i wr => ∃ k : Nat, k + gk = 1 ∧ i = .int .i64 k ∧ Hid (Below w.heap.size w wr))
  case atStart => exact ⟨0, by omega, rfl, hid (Below.refl _ _)⟩
  case round =>
    obtain ⟨k, hk, rfl, K1⟩ := hrel
    by_cases hlt : k < 1
    · obtain rfl : k = 0 := by omega
      obtain ⟨c0, c1, c2, c3⟩ := cc.out wr K1.out
      go_wp2_with (first
        | (go_at_call 23
           (with_reducible refine (mayStand_c _).mono ?_)
           rintro e w' ⟨rfl, rfl⟩))
      go_roundg (gk - 1)
      case measure => omega
      case rel => exact ⟨1, by omega, by go_num, hid (K1.out.alloc K1.out.size _)⟩
    · obtain rfl : k = 1 := by omega
      have hg : w.heap.size ≤ wr.heap.size := K1.out.size
      go_wp2_with (first
        | (go_at_call 24
           (with_reducible refine (writers_any _).mono ?_)
           rintro e w2 ⟨rfl, hb2⟩
           have HB2 := hid hb2
           clear hb2
           unfold waysV))
      have hbx : Box w2 wr.heap.size 71 #[.slice none 0 0] := (Box.new wr 71 _).same (HB2.out.block _ (by simp))
      have hbel : Below w.heap.size w w2 := (K1.out.alloc hg _).trans (HB2.out.mono (by simp; omega))
      have hw2 : w.heap.size ≤ w2.heap.size := hbel.size
      generalize hW3 : w2.alloc _ = w3
      have hwy3 : Hid (Box w3 w2.heap.size 73 waysV) := hid (by subst hW3; exact Box.new w2 73 _)
      have hst3 : Hid (WSt w3 w.heap.size wr.heap.size (List.replicate 0 1)) := hid ⟨hg, none, 0, by subst hW3; exact hbx.same (Below.heap_alloc _ _ _ hbx.lt), World.ownsRow_nil _ _ _ _⟩
      have hbel3 : Hid (Below w.heap.size w w3) := hid (by subst hW3; exact hbel.alloc hw2 _)
      clear hW3 hbx hbel HB2 K1
      obtain ⟨g, hgq⟩ : ∃ g, wr.heap.size = g := ⟨_, rfl⟩
      obtain ⟨gw, hgw⟩ : ∃ g, w2.heap.size = g := ⟨_, rfl⟩
      rw [hgq] at hst3 ⊢
      rw [hgw] at hwy3 ⊢
      clear hgw hgq
      go_loopg [29] 1 (fun gk i wr => ∃ k : Nat, k + gk = 1 ∧ i = .int .i64 k ∧ Hid (Below w.heap.size w wr) ∧ Hid (WSt wr w.heap.size g (List.replicate k 1)) ∧ Hid (Box wr gw 73 waysV))
      case atStart => exact ⟨0, by omega, rfl, hbel3, hst3, hwy3⟩
      case round =>
        clear hst3 hwy3 hbel3
        obtain ⟨k, hk, rfl, K3, HS, HY⟩ := hrel
        by_cases hlt : k < 1
        · obtain rfl : k = 0 := by omega
          obtain ⟨c0, c1, c2, c3⟩ := cc.out wr K3.out
          go_upto_region 12 with fail
          obtain ⟨v6, hv6⟩ : ∃ v6, v6 = wr.alloc (.cells #[.int .i64 2, .int .u32 1, .slice none 0 0, .slice none 0 0] 46) := ⟨_, rfl⟩
          have BX : Hid (Box v6 wr.heap.size 46 #[.int .i64 2, .int .u32 1, .slice none 0 0, .slice none 0 0]) := hid (by rw [hv6]; exact Box.new wr _ _)
          have K6 : Hid (Below wr.heap.size wr v6) := hid (by rw [hv6]; exact (Below.refl _ _).alloc (Nat.le_refl _) _)
          rw [← hv6]
          clear hv6 c0 c1 c2 c3
          have HS6 : Hid (WSt v6 w.heap.size g []) := hid (HS.out.kept (B := 0) (T := []) (Kept.of_below K6.out _ _) (by simp) (by simp))
          have HY6 := hid (box_below HY.out K6.out)
          have K36 : Hid (Below w.heap.size w v6) := hid (K3.out.trans (K6.out.mono K3.out.size))
          clear HS HY K3 K6
          have cB : ∀ W, Below v6.heap.size v6 W → Calls Try.prog 40 #[.pointer (some ⟨g, 0, none⟩), .agg #[.int .i64 2, .int .u32 1, .slice none 0 0, .slice none 0 0]] W fun e w' => e = .returned (.int .i64 0) ∧ Hid (Kept w.heap.size [71, 5] W w') ∧ Hid (WSt w' w.heap.size g [1]) := fun W k => bool_c (hid (HS6.out.kept (B := 0) (T := []) (Kept.of_below k _ _) (by simp) (by simp)))
          have b0' : ∀ W, Below v6.heap.size v6 W → W.cell? ⟨wr.heap.size, 0, none⟩ = some (.int .i64 2) ∧ W.cell? ⟨wr.heap.size, 1, none⟩ = some (.int .u32 1) ∧ W.cell? ⟨wr.heap.size, 2, none⟩ = some (.slice none 0 0) ∧ W.cell? ⟨wr.heap.size, 3, none⟩ = some (.slice none 0 0) ∧ W.cell? ⟨gw, 2, none⟩ = some (.func (.func 40) #[] #[]) := fun W k => ⟨(box_below BX.out k).cell 0, (box_below BX.out k).cell 1, (box_below BX.out k).cell 2, (box_below BX.out k).cell 3, (box_below HY6.out k).cell 2⟩
          go_cut [10] (fun x wx => x = .int .i64 0 ∧ Hid (Below w.heap.size w wx) ∧ Hid (WSt wx w.heap.size g [1]) ∧ Hid (Box wx gw 73 waysV))
          case first =>
            have kd : Below v6.heap.size v6 v6.drew := bel_dr (Below.refl _ v6)
            obtain ⟨a0, a1, a2, a3, a4⟩ := b0' _ (Below.refl _ v6)
            obtain ⟨d0, d1, d2, d3, d4⟩ := b0' _ kd
            have cB0 := cB _ (Below.refl _ v6)
            have cB1 := cB _ kd
            go_region_law (first
              | (go_simp
                 go_at_call 40
                 (first
                   | ((with_reducible refine cB1.mono ?_)
                      rintro e w8 ⟨rfl, k8, s8⟩
                      have K8 := hid ((K36.out.trans (kd.mono K36.out.size)).trans (k8.out.below (Nat.le_trans K36.out.size kd.size)))
                      have Y8 := hid (k8.out.box (box_below HY6.out kd) (by decide)))
                   | ((with_reducible refine cB0.mono ?_)
                      rintro e w8 ⟨rfl, k8, s8⟩
                      have K8 := hid (K36.out.trans (k8.out.below K36.out.size))
                      have Y8 := hid (k8.out.box HY6.out (by decide))))))
            all_goals
              go_wp2_with fail
              go_meet
              exact ⟨rfl, K8, s8, Y8⟩
          case rest =>
          obtain ⟨rfl, K8, S8, Y8⟩ := hcut
          obtain ⟨_, A8, c8, X8, _⟩ := S8.out
          have X8 := hid X8
          have x8 : wc.cell? ⟨g, 0, none⟩ = some (.slice A8 1 c8) := X8.out.cell 0
          clear b0' cB
          go_wp2_with fail
          go_roundg (gk - 1)
          case measure => omega
          case rel => exact ⟨1, by omega, by go_num, K8, S8, Y8⟩
        · obtain rfl : k = 1 := by omega
          obtain ⟨_, A8, c8, X8, O8⟩ := HS.out
          have X8 := hid X8
          have O8 := hid O8
          have x8 : wr.cell? ⟨g, 0, none⟩ = some (.slice A8 1 c8) := X8.out.cell 0
          go_wp2_with fail
          go_ret2
          exact ⟨A8, c8, rfl, O8, K3⟩
end W1
theorem put_s (w : World) (A : Option Addr) (c : Nat) (hb : Hid (SlB w w.heap.size A c [1])) :
    Calls Try.prog 11 #[.slice A 1 c] w fun e w' => ∃ A1 c1, e = .returned (.tuple #[.slice A1 5 c1, .int .i64 0]) ∧ Hid (w'.ownsRow w.heap.size 5 1 (.slice A1 5 c1) 5 (bv [0, 0, 0, 1, 1])) ∧ Hid (Below w.heap.size w w') := by
  refine (F2.put_any w _ A c [1] hb.out (Nat.le_refl _) (by unfold maxLen; simp)).mono ?_
  rw [show F2.putF [1] = (0, [0, 0, 0, 1, 1]) by kernel_rfl]
  rintro e w' ⟨A1, c1, rfl, ho, hb⟩
  exact ⟨A1, c1, rfl, hid ho, hid hb⟩
theorem feed_s (w : World) (A : Option Addr) (c : Nat) (hb : Hid (SlB w w.heap.size A c [0, 0, 0, 1, 1])) :
    Calls Try.prog 12 #[.agg #[.slice none 0 0, .bool false], .slice A 5 c] w fun e w' => ∃ A1 c1 gl lc, e = .returned (.tuple #[.agg #[.slice A1 0 c1, .bool false], .slice (some ⟨gl, 0, none⟩) 1 lc, .int .i64 0]) ∧ ∃ A2 c2, Hid (w'.cell? ⟨gl, 0, none⟩ = some (.slice A2 1 c2)) ∧ Hid (SlB w' w'.heap.size A2 c2 [1]) ∧ Hid (Below w.heap.size w w') := by
  refine (F2.feed_any w w.heap.size none A 0 c [] [0, 0, 0, 1, 1] false ⟨Nat.le_refl _, Nat.zero_le _, fun _ => rfl, Lies.nil_⟩ hb.out (Nat.le_refl _) (by simp)).mono ?_
  rw [show F2.feedX false ([] ++ [0, 0, 0, 1, 1]) = ([[1]], [], 0) by
    have h1 : F2.nextF [0, 0, 0, 1, 1] = (5, 0) := by kernel_rfl
    show F2.feedF [0, 0, 0, 1, 1] = _
    rw [F2.feedF_next h1]
    rw [F2.feedF_short (n := 0) (by kernel_rfl)]
    rfl]
  rintro e w' ⟨A1, c1, LA, lc, cs, M, rfl, _, _, _, hol, hpl, _, hbl⟩
  obtain ⟨gl, hg⟩ : ∃ g, LA = some ⟨g, 0, none⟩ := by
    rcases hol.2 with ⟨_, h0⟩ | ⟨g, cap, cur, hv, _⟩
    · simp at h0
    · injection hv with hv
      exact ⟨g, hv⟩
  subst hg
  obtain ⟨A2, c2, h1, h2⟩ := hpl.2 0 (by simp)
  refine ⟨A1, c1, gl, lc, rfl, A2, c2, ?_, hid (own_slb (_n := 0) h2), hid hbl⟩
  have := hol.cells (g := gl) rfl 0 _ h1
  show _ = _
  rw [Addr.add_lit] at this
  simpa using this
theorem lit_slb (u : World) (y : UInt8) : Hid (SlB (u.alloc (.cells #[.int .u8 (y.toNat : Int)] 5)) (u.alloc (.cells #[.int .u8 (y.toNat : Int)] 5)).heap.size (some ⟨u.heap.size, 0, none⟩) 1 [y]) :=
  hid ⟨Nat.le_refl _, by unfold maxLen; decide, (fun h => by cases h), by
    have := lies_lit u #[.int .u8 (y.toNat : Int)] 5
    rw [World.size_alloc]
    exact this⟩
theorem bytes_lit1 (u : World) (A : Option Addr) (c g : Nat) (hg : u.heap.size = g) (hS : Hid (SlB u u.heap.size A c [1])) :
    Calls Try.prog 9 #[.slice A 1 c, .slice (some ⟨g, 0, none⟩) 1 1] (u.alloc (.cells #[.int .u8 1] 5)) fun e w' => e = .returned (.bool true) ∧ Hid (Below u.heap.size u w') := by
  subst hg
  have k : Below u.heap.size u (u.alloc (.cells #[.int .u8 1] 5)) := (Below.refl _ u).alloc (Nat.le_refl _) _
  refine (bytes_two _ A (some ⟨u.heap.size, 0, none⟩) c 1 1 1 [1] [1] rfl rfl rfl (slb_at hS (hid k)) (lit_slb u 1) (by unfold maxLen; decide)).mono ?_
  rintro e w' ⟨rfl, k2⟩
  exact ⟨rfl, hid (k.trans (k2.out.mono k.size))⟩
set_option maxHeartbeats 2000000 in
set_option maxRecDepth 100000 in
theorem shaken_any (w : World) : Calls Try.prog 4 #[] w fun e w' => e = .returned (.bool true) ∧ Hid (Below w.heap.size w w') := by
  obtain ⟨v, hv⟩ : ∃ v, v = w.alloc (.cells #[.int .i64 2, .int .u32 1, .slice none 0 0, .slice none 0 0] 46) := ⟨_, rfl⟩
  have BX : Hid (Box v w.heap.size 46 #[.int .i64 2, .int .u32 1, .slice none 0 0, .slice none 0 0]) := hid (by rw [hv]; exact Box.new w _ _)
  have K0 : Hid (Below w.heap.size w v) := hid (by rw [hv]; exact (Below.refl _ _).alloc (Nat.le_refl _) _)
  have cW := W1.write_bool v w.heap.size BX.out.lt (BX.out.cell 0) (BX.out.cell 1) (BX.out.cell 2) (BX.out.cell 3)
  go_enter Try.func4, Try.ntmps4
  go_wp2_with (first
    | (go_at_call 10
       rw [← hv]
       (with_reducible refine cW.mono ?_)
       rintro e w1 ⟨A1, c1, rfl, HO1, HB1⟩
       have HS1 : Hid (SlB w1 w1.heap.size A1 c1 [1]) := own_slb (_n := 0) HO1.out
       have K1 := bel_t K0 HB1.out)
    | (go_at_call 11
       (with_reducible refine (put_s w1 A1 c1 HS1).mono ?_)
       rintro e w2 ⟨A2, c2, rfl, HO2, HB2⟩
       have HS2 : Hid (SlB w2 w2.heap.size A2 c2 [0, 0, 0, 1, 1]) := own_slb (_n := 0) HO2.out
       have K2 := bel_t K1 HB2.out)
    | (go_at_call 12
       (with_reducible refine (feed_s w2 A2 c2 HS2).mono ?_)
       rintro e w3 ⟨A3, c3, gl, lc, rfl, A4, c4, HC3, HS3, HB3⟩
       have K3 := bel_t K2 HB3.out
       have cl : ∀ o, (w3.alloc o).cell? ⟨gl, 0, none⟩ = some (.slice A4 1 c4) := fun o => cellOld o HC3.out
       have HL3 : ∀ o, Hid (SlB (w3.alloc o) (w3.alloc o).heap.size A4 c4 [1]) := fun o => slb_at HS3 (hid ((Below.refl _ _).alloc (Nat.le_refl _) o)))
    | (go_at_call 9
       (with_reducible refine (bytes_lit1 _ A4 c4 _ (by simp) (HL3 _)).mono ?_)
       rintro e w4 ⟨rfl, HB4⟩
       have K4 := hid (K3.out.trans ((((Below.refl _ w3).alloc (Nat.le_refl _) _).trans (HB4.out.mono (by simp))).mono K3.out.size))))
  go_ret
  exact ⟨rfl, K4⟩
end Go.Proofs.Ytggcampdkgfmgaa
