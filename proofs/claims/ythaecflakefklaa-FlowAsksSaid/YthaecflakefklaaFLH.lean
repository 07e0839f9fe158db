import Derived.Test.YthaecflakefklaaFLG
namespace Go.Proofs.Ythaecflakefklaa
open Go.RowKit

/-! Layer 15: FlowTurns, the walk. -/
/-- Numbers in memory. -/
def SlI (w : World) (B : Nat) (A : Option Addr) (c : Nat) (l : List Int) : Prop := l.length ≤ c ∧ c ≤ maxLen ∧ (A = none → c = 0) ∧ Lies w B A (l.map fun x => Value.int .i64 x)
theorem sli_up {u W : World} {A : Option Addr} {c : Nat} {l : List Int} (h : Hid (SlI u u.heap.size A c l)) (hW : Below u.heap.size u W) : Hid (SlI W W.heap.size A c l) :=
  hid ⟨h.out.1, h.out.2.1, h.out.2.2.1, (h.out.2.2.2.below hW).more hW.size⟩
theorem sli_cell {w : World} {B n c : Nat} {A : Option Addr} {l : List Int} (h : SlI w B A c l) {j : Nat} (hn : l.length = n) (hj : j < n) : ∃ b o y, A = some ⟨b, o, none⟩ ∧ l[j]? = some y ∧ w.cell? ⟨b, o + j, none⟩ = some (.int .i64 y) := by
  subst hn
  obtain ⟨b, o, rfl, hb, hc⟩ := h.2.2.2 (by
    intro e
    have : l = [] := by simpa using e
    subst this; simp at hj)
  exact ⟨b, o, l[j], rfl, by simp [hj], hc j _ (by simp [hj])⟩
theorem markOn {t : Tm} {hh : Bool} {u low high : Int} (h40 : hasN t.f 40 = true) (c8 : chB t 8 = true) (c9 : chB t 9 = true) :
    markF t false hh u low high = if hh = false then (if high ≤ u then ((false, true), [chV t 9]) else ((false, false), [])) else if low < u then ((false, true), []) else ((false, false), [chV t 8]) := by
  cases hh <;> simp [markF, toldF, h40, c8, c9]
theorem char_b (w : World) (t : Tm) (ht : t.Ok) (op : Int) {x : UInt8} {b : Bool} (hx : Hid (chV t op = x)) (hb : Hid (chB t op = b)) : Calls Try.prog 18 #[.agg t.cs, .int .i64 op] w fun e w' => e = .returned (.tuple #[.int .u8 (x.toNat : Int), .bool b]) ∧ Hid (Below w.heap.size w w') := by
  rw [← hx.out, ← hb.out]
  exact char_any w t ht op
theorem sizeTurns : (Try.prog.info? 55).map (·.size) = some 27 := by kernel_rfl
attribute [local go_sem ↓] wp_st26 wp_ldR ex_ld26 wq_ld26 Go.wp_at_zero Go.wp_at_succ
attribute [local go_sem] isP_v blkV_v aggV_v
set_option maxRecDepth 100000 in
set_option maxHeartbeats 8000000 in
theorem turns_walk0 (w : World) (t : Tm) (ht : t.Ok) (low high : Int) (A : Option Addr) (c n : Nat) (l : List Int) (hx : Hid (SlI w w.heap.size A c l)) (hn : Hid (l.length = n)) (r : List Value) (hr : r = [.slice A n c, .int .i64 low, .int .i64 high]) :
    Calls Try.prog 5 #[.agg (tmV t r)] w fun e w' => e = .returned (.bool true) ∧ Hid (Below w.heap.size w w') := by
  have hl := ht.len
  have hs := cs_size hl
  have hsz : Hid ((Try.prog.info? 55).map (·.size) = some (tmV t r).size) := hid (by rw [tmV_size ht, hr]; exact sizeTurns)
  have HB0 : Hid (Box (w.alloc (.cells (tmV t r) 55)) w.heap.size 55 (tmV t r)) := hid (Box.new w 55 _)
  have HK0 : Hid (Below w.heap.size w (w.alloc (.cells (tmV t r) 55))) := hid ((Below.refl _ w).alloc (Nat.le_refl _) _)
  have F24 : Hid ((tmV t r)[24]? = some (.slice A n c)) := hid (tmV_back ht (j := 0) (by rw [hr]; rfl))
  have F25 : Hid ((tmV t r)[25]? = some (.int .i64 low)) := hid (tmV_back ht (j := 1) (by rw [hr]; rfl))
  have F26 : Hid ((tmV t r)[26]? = some (.int .i64 high)) := hid (tmV_back ht (j := 2) (by rw [hr]; rfl))
  generalize hV : tmV t r = V at hsz HB0 HK0 F24 F25 F26 ⊢
  have F0 : Hid (∀ (j : Nat) (v : Value), t.cl[j]? = some v → V[j]? = some v) := hid (by rw [← hV]; exact tmV_front r)
  clear hV hr
  go_enter Try.func5, Try.ntmps5
  go_wp2_with (first
    | (refine bxT (by rfl) 55 _ (by rfl) _ (by rfl) hsz.out ?_)
    | (go_at_call 7
       (with_reducible refine (alive_any _).mono ?_)
       rintro e v1 ⟨rfl, k1⟩
       have HK1 := bel_t HK0 k1.out
       have HB1 := boxA HB0 k1.out
       clear k1 HB0 HK0))
  go_cut [3, 4, 5, 6] (fun a b x y wx => ∃ g, a = .pointer (some ⟨g, 0, none⟩) ∧ b = .slice A n c ∧ x = .int .i64 low ∧ y = .int .i64 high ∧ w.heap.size ≤ g ∧ Hid (Below w.heap.size w wx) ∧ Hid (Box wx g 26 t.cs))
  case first =>
    obtain ⟨r1, r2⟩ := front_R (W := v1.drew) (g := w.heap.size) hl HB1.out F0.out
    obtain ⟨r3, r4⟩ := front_R (W := (v1.alloc (.cells #[.int .u8 0, .int .u8 0, .int .u8 0, .int .u8 0, .int .u8 0, .int .u8 0, .int .u8 0, .int .u8 0, .int .u8 0, .int .u8 0, .int .u8 0, .int .u8 0, .int .u8 0, .int .u8 0, .int .u8 0, .int .u8 0, .int .u8 0, .int .u8 0, .int .u8 0, .int .u64 0, .int .u32 0, .int .u32 0, .int .i64 0, .int .i64 0] 26)).drew) (g := w.heap.size) hl (box_below HB1.out (bel_dr (bel_al (Below.refl _ _)))) F0.out
    obtain ⟨r31, r41⟩ := front_R (W := v1.drew.alloc (.cells #[.int .u8 0, .int .u8 0, .int .u8 0, .int .u8 0, .int .u8 0, .int .u8 0, .int .u8 0, .int .u8 0, .int .u8 0, .int .u8 0, .int .u8 0, .int .u8 0, .int .u8 0, .int .u8 0, .int .u8 0, .int .u8 0, .int .u8 0, .int .u8 0, .int .u8 0, .int .u64 0, .int .u32 0, .int .u32 0, .int .i64 0, .int .i64 0] 26)) (g := w.heap.size) hl (box_below HB1.out (bel_al (bel_dr (Below.refl _ _)))) F0.out
    have r5 := isB_new v1 #[.int .u8 0, .int .u8 0, .int .u8 0, .int .u8 0, .int .u8 0, .int .u8 0, .int .u8 0, .int .u8 0, .int .u8 0, .int .u8 0, .int .u8 0, .int .u8 0, .int .u8 0, .int .u8 0, .int .u8 0, .int .u8 0, .int .u8 0, .int .u8 0, .int .u8 0, .int .u64 0, .int .u32 0, .int .u32 0, .int .i64 0, .int .i64 0] rfl
    have r51 := isB_new v1.drew #[.int .u8 0, .int .u8 0, .int .u8 0, .int .u8 0, .int .u8 0, .int .u8 0, .int .u8 0, .int .u8 0, .int .u8 0, .int .u8 0, .int .u8 0, .int .u8 0, .int .u8 0, .int .u8 0, .int .u8 0, .int .u8 0, .int .u8 0, .int .u8 0, .int .u8 0, .int .u64 0, .int .u32 0, .int .u32 0, .int .i64 0, .int .i64 0] rfl
    have r52 : isB (v1.alloc (.cells #[.int .u8 0, .int .u8 0, .int .u8 0, .int .u8 0, .int .u8 0, .int .u8 0, .int .u8 0, .int .u8 0, .int .u8 0, .int .u8 0, .int .u8 0, .int .u8 0, .int .u8 0, .int .u8 0, .int .u8 0, .int .u8 0, .int .u8 0, .int .u8 0, .int .u8 0, .int .u64 0, .int .u32 0, .int .u32 0, .int .i64 0, .int .i64 0] 26)).drew v1.heap.size = true := r5
    have r53 : isB (v1.drew.alloc (.cells #[.int .u8 0, .int .u8 0, .int .u8 0, .int .u8 0, .int .u8 0, .int .u8 0, .int .u8 0, .int .u8 0, .int .u8 0, .int .u8 0, .int .u8 0, .int .u8 0, .int .u8 0, .int .u8 0, .int .u8 0, .int .u8 0, .int .u8 0, .int .u8 0, .int .u8 0, .int .u64 0, .int .u32 0, .int .u32 0, .int .i64 0, .int .i64 0] 26)) v1.heap.size = true := r51
    have hne : w.heap.size ≠ v1.heap.size := by have := HB1.out.lt; omega
    have c24 : v1.cell? ⟨w.heap.size, 24, none⟩ = some (.slice A n c) := (HB1.out.cell 24).trans F24.out
    have d24 : ∀ o, (v1.alloc o).cell? ⟨w.heap.size, 24, none⟩ = some (.slice A n c) := fun o => cellOld o c24
    have e24 : ∀ o cs, ((v1.alloc o).drew.setRow v1.heap.size cs).cell? ⟨w.heap.size, 24, none⟩ = some (.slice A n c) := fun o cs => (cell_setRow_other _ _ _ _ hne).trans (d24 o)
    have c25 : v1.cell? ⟨w.heap.size, 25, none⟩ = some (.int .i64 low) := (HB1.out.cell 25).trans F25.out
    have d25 : ∀ o, (v1.alloc o).cell? ⟨w.heap.size, 25, none⟩ = some (.int .i64 low) := fun o => cellOld o c25
    have e25 : ∀ o cs, ((v1.alloc o).drew.setRow v1.heap.size cs).cell? ⟨w.heap.size, 25, none⟩ = some (.int .i64 low) := fun o cs => (cell_setRow_other _ _ _ _ hne).trans (d25 o)
    have c26 : v1.cell? ⟨w.heap.size, 26, none⟩ = some (.int .i64 high) := (HB1.out.cell 26).trans F26.out
    have d26 : ∀ o, (v1.alloc o).cell? ⟨w.heap.size, 26, none⟩ = some (.int .i64 high) := fun o => cellOld o c26
    have e26 : ∀ o cs, ((v1.alloc o).drew.setRow v1.heap.size cs).cell? ⟨w.heap.size, 26, none⟩ = some (.int .i64 high) := fun o cs => (cell_setRow_other _ _ _ _ hne).trans (d26 o)
    obtain ⟨r6, r7⟩ := okS_cs hl
    have hgw : w.heap.size ≤ v1.heap.size := HK1.out.size
    go_region
    all_goals
      obtain ⟨HK3, HG3, _⟩ := bel_new (g := v1.heap.size) t.cs #[.int .u8 0, .int .u8 0, .int .u8 0, .int .u8 0, .int .u8 0, .int .u8 0, .int .u8 0, .int .u8 0, .int .u8 0, .int .u8 0, .int .u8 0, .int .u8 0, .int .u8 0, .int .u8 0, .int .u8 0, .int .u8 0, .int .u8 0, .int .u8 0, .int .u8 0, .int .u64 0, .int .u32 0, .int .u32 0, .int .i64 0, .int .i64 0] rfl HK1
      generalize hW : World.setRow _ _ _ = u3 at HK3 HG3 ⊢
      clear hW r1 r2 r3 r4 r31 r41 r5 r51 r52 r53 c24 d24 e24 c25 d25 e25 c26 d26 e26 hne HB1 HK1
      go_wp2_with fail
      go_meet
      exact ⟨_, rfl, rfl, rfl, rfl, hgw, HK3, HG3⟩
  case rest =>
  obtain ⟨g, rfl, rfl, rfl, rfl, hgw, HK, HG⟩ := hcut
  obtain ⟨v2, hv2⟩ : ∃ v2, v2 = wc := ⟨_, rfl⟩
  subst hv2
  clear HB1 HK1 F24 F25 F26 F0 hsz
  have HX := sli_up hx HK.out
  obtain ⟨t1, hq1⟩ : ∃ t1, Hid (setT t 40 true = t1) := ⟨_, hid rfl⟩
  have ht1 : t1.Ok := by rw [← hq1.out]; exact setT_ok ht _ _
  have hl1 := ht1.len
  have hs1 := cs_size hl1
  have h40 : Hid (hasN t1.f 40 = true) := hid (by rw [← hq1.out]; exact set_has ht 40 true (by decide))
  obtain ⟨x8, hx8⟩ : ∃ x, Hid (chV t1 8 = x) := ⟨_, hid rfl⟩
  obtain ⟨x9, hx9⟩ : ∃ x, Hid (chV t1 9 = x) := ⟨_, hid rfl⟩
  obtain ⟨b8, hb8⟩ : ∃ x, Hid (chB t1 8 = x) := ⟨_, hid rfl⟩
  obtain ⟨b9, hb9⟩ : ∃ x, Hid (chB t1 9 = x) := ⟨_, hid rfl⟩
  go_upto_region 7 with (first
    | (refine ld26 (by rfl) _ (by rfl) _ (by rfl) t.cs HG.out hs ?_)
    | (refine ld26 (by rfl) _ (by rfl) _ (by rfl) t1.cs G4.out hs1 ?_)
    | (refine ld26 (by rfl) _ (by rfl) _ (by rfl) t1.cs G5.out hs1 ?_)
    | (go_at_call 17
       (with_reducible refine (set_b _ ht hq1.out).mono ?_)
       rintro e v3 ⟨rfl, k3⟩
       have B3 := bel_t HK k3.out
       have G3 := boxA HG k3.out
       clear k3 HG HK)
    | (refine st26 (by rfl) _ _ (by rfl) _ (by rfl) t1 hl1 (by rfl) _ G3.out hs ?_
       intro v4 G4 k4
       have B4 := hid (B3.out.trans (k4.out.below hgw))
       clear k4 G3 B3)
    | (go_at_call 18
       (first
         | ((with_reducible refine (char_b _ t1 ht1 8 hx8 hb8).mono ?_)
            rintro e v5 ⟨rfl, k5⟩
            have B5 := bel_t B4 k5.out
            have G5 := boxA G4 k5.out
            clear k5 G4 B4)
         | ((with_reducible refine (char_b _ t1 ht1 9 hx9 hb9).mono ?_)
            rintro e v6 ⟨rfl, k6⟩
            have B6 := bel_t B5 k6.out
            have G6 := boxA G5 k6.out
            clear k6 G5 B5))))
  cases b8
  · go_wp2_with fail
    go_ret
    exact ⟨rfl, B6⟩
  cases b9
  · go_wp2_with fail
    go_ret
    exact ⟨rfl, B6⟩
  by_cases hxx : x8 = x9
  · have hxe : (((x8.toNat : Int)) == (x9.toNat : Int)) = true := by rw [hxx]; simp
    go_wp2_with fail
    go_ret
    exact ⟨rfl, B6⟩
  have hxe : (((x8.toNat : Int)) == (x9.toNat : Int)) = false := by rw [u8_eq]; exact decide_eq_false hxx
  by_cases hlh : high ≤ low
  · go_wp2_with fail
    go_ret
    exact ⟨rfl, B6⟩
  by_cases h1 : 1000 < n
  · have k1 : (1000 : Int) < (n : Int) := by omega
    go_wp2_with fail
    go_ret
    exact ⟨rfl, B6⟩
  have k1 : ¬ (1000 : Int) < (n : Int) := by omega
  have hgl := G6.out.lt
  go_upto_region 9 with fail
  go_cut [11] (fun a wx => ∃ gx, a = .pointer (some ⟨gx, 0, none⟩) ∧ g < gx ∧ Hid (Box wx gx 32 #[.bool false, .bool false]) ∧ Hid (Box wx g 26 t1.cs) ∧ Hid (Below w.heap.size w wx))
  case first =>
    go_wp2_with fail
    go_meet
    exact ⟨_, rfl, hgl, bx_new v6 _ _, boxA G6 (bel_new1 v6 _), bel_t B6 (bel_new1 v6 _)⟩
  case rest =>
  obtain ⟨gx, rfl, hgx, X7, G7, B7⟩ := hcut
  obtain ⟨v7, hv7⟩ : ∃ v7, v7 = wc := ⟨_, rfl⟩
  subst hv7
  clear B6 G6 HX hxe hgl
  go_wp2_with fail
  go_loopg [62] n (fun gk i wr => ∃ (k : Nat) (hh : Bool), k + gk = n ∧ i = .int .i64 k ∧ Hid (Box wr gx 32 #[.bool false, .bool hh]) ∧ Hid (Box wr g 26 t1.cs) ∧ Hid (Below w.heap.size w wr))
  case atStart => exact ⟨0, false, by omega, rfl, X7, G7, B7⟩
  case round =>
    obtain ⟨k, hh, hk, rfl, X3, G3, B3⟩ := hrel
    have hL := sli_up hx B3.out
    by_cases hlt : k < n
    · obtain ⟨b0, o0, y, hA, hy, cy⟩ := sli_cell hL.out hn.out hlt
      subst hA
      obtain ⟨⟨⟨fa, fb⟩, out⟩, e1⟩ : ∃ z, Hid (markF t1 false hh y low high = z) := ⟨_, hid rfl⟩
      have e2 := hid ((markOn h40.out hb8.out hb9.out).symm.trans e1.out)
      have hkn : (k : Int) < (n : Int) := by omega
      have x0 : World.cell? wr ⟨gx, 0, none⟩ = some (.bool false) := by simpa using X3.out.cell 0
      have x1 : World.cell? wr ⟨gx, 1, none⟩ = some (.bool hh) := by simpa using X3.out.cell 1
      go_upto_region 13 with fail
      go_cut [13, 14, 15] (fun q1 q2 q3 wx => ∃ gy A2 n2 c2, q1 = .int .i64 y ∧ q2 = .pointer (some ⟨gy, 0, none⟩) ∧ q3 = .slice A2 n2 c2 ∧ Hid (out.length = n2) ∧ Hid (SlB wx wx.heap.size A2 c2 out) ∧ Hid (Box wx gy 32 #[.bool fa, .bool fb]) ∧ Hid (Below wr.heap.size wr wx))
      case first =>
        go_wp2_with (first
          | (refine ld26 (by rfl) _ (by rfl) _ (by rfl) t1.cs G3.out hs1 ?_)
          | (go_at_call 10
             (with_reducible refine (markp_any _ t1 ht1 false hh y low high e1).mono ?_)
             rintro e vx ⟨Ax, nx, dx, rfl, hx, Sx, kx⟩))
        go_meet
        exact ⟨_, _, _, _, rfl, rfl, rfl, hx, slb_up Sx (bel_new1 vx _), bx_new vx _ _, bel_t kx (bel_new1 vx _)⟩
      case rest =>
      obtain ⟨gy, A2, n2, c2, rfl, rfl, rfl, hn2, S4, Y4, k4⟩ := hcut
      obtain ⟨v4, hv4⟩ : ∃ v4, v4 = wc := ⟨_, rfl⟩
      subst hv4
      have X4 := boxA X3 k4.out
      have G4 := boxA G3 k4.out
      have B4 := bel_t B3 k4.out
      clear k4 X3 G3 B3 x0 x1 cy hL hy e1 X7 G7 B7
      have x0 : World.cell? v4 ⟨gx, 0, none⟩ = some (.bool false) := by simpa using X4.out.cell 0
      have x1 : World.cell? v4 ⟨gx, 1, none⟩ = some (.bool hh) := by simpa using X4.out.cell 1
      have y0 : World.cell? v4 ⟨gy, 0, none⟩ = some (.bool fa) := by simpa using Y4.out.cell 0
      have y1 : World.cell? v4 ⟨gy, 1, none⟩ = some (.bool fb) := by simpa using Y4.out.cell 1
      have q0 := X4.out.frozen 0
      have q1 := X4.out.frozen 1
      cases hh
      · by_cases hm : high ≤ y
        · obtain ⟨⟨rfl, rfl⟩, rfl⟩ : (false = fa ∧ true = fb) ∧ [x9] = out := by have := e2.out; rw [hx9.out, hx8.out] at this; simpa [hm] using this
          obtain rfl : n2 = 1 := hn2.out.symm
          clear e2
          go_wp2_with (first
            | (go_at_call 14
               (with_reducible refine (bytes_lit v4 A2 c2 1 _ [x9] rfl S4 #[.int .u8 (x9.toNat : Int)] rfl rfl (by decide)).mono ?_)
               rintro e v5 ⟨rfl, k5⟩
               have X5 := boxA X4 k5.out
               have Y5 := boxA Y4 k5.out
               have G5 := boxA G4 k5.out
               have B5 := bel_t B4 k5.out
               have x0 := X5.out.cell 0
               have x1 := X5.out.cell 1
               have y0 := Y5.out.cell 0
               have y1 := Y5.out.cell 1
               have q0 := X5.out.frozen 0
               have q1 := X5.out.frozen 1
               clear k5))
          go_roundg (gk - 1)
          case measure => omega
          case rel => exact ⟨k + 1, true, by omega, rfl, two_st X5, box_two G5 (by omega), bel_two B5 (by omega)⟩
        · obtain ⟨⟨rfl, rfl⟩, rfl⟩ : (false = fa ∧ false = fb) ∧ [] = out := by have := e2.out; simpa [hm] using this
          obtain rfl : n2 = 0 := hn2.out.symm
          clear e2
          go_wp2_with fail
          go_roundg (gk - 1)
          case measure => omega
          case rel => exact ⟨k + 1, false, by omega, rfl, two_st X4, box_two G4 (by omega), bel_two B4 (by omega)⟩
      · by_cases hm : low < y
        · obtain ⟨⟨rfl, rfl⟩, rfl⟩ : (false = fa ∧ true = fb) ∧ [] = out := by have := e2.out; simpa [hm] using this
          obtain rfl : n2 = 0 := hn2.out.symm
          clear e2
          go_wp2_with fail
          go_roundg (gk - 1)
          case measure => omega
          case rel => exact ⟨k + 1, true, by omega, rfl, two_st X4, box_two G4 (by omega), bel_two B4 (by omega)⟩
        · obtain ⟨⟨rfl, rfl⟩, rfl⟩ : (false = fa ∧ false = fb) ∧ [x8] = out := by have := e2.out; rw [hx9.out, hx8.out] at this; simpa [hm] using this
          obtain rfl : n2 = 1 := hn2.out.symm
          clear e2
          go_wp2_with (first
            | (go_at_call 14
               (with_reducible refine (bytes_lit v4 A2 c2 1 _ [x8] rfl S4 #[.int .u8 (x8.toNat : Int)] rfl rfl (by decide)).mono ?_)
               rintro e v5 ⟨rfl, k5⟩
               have X5 := boxA X4 k5.out
               have Y5 := boxA Y4 k5.out
               have G5 := boxA G4 k5.out
               have B5 := bel_t B4 k5.out
               have x0 := X5.out.cell 0
               have x1 := X5.out.cell 1
               have y0 := Y5.out.cell 0
               have y1 := Y5.out.cell 1
               have q0 := X5.out.frozen 0
               have q1 := X5.out.frozen 1
               clear k5))
          go_roundg (gk - 1)
          case measure => omega
          case rel => exact ⟨k + 1, false, by omega, rfl, two_st X5, box_two G5 (by omega), bel_two B5 (by omega)⟩
    · obtain rfl : k = n := by omega
      go_wp2_with fail
      go_ret
      exact ⟨rfl, B3⟩
end Go.Proofs.Ythaecflakefklaa
