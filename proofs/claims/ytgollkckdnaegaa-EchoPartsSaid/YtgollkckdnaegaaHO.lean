import Derived.Test.YtgollkckdnaegaaHN
namespace Go.Proofs.Ytgollkckdnaegaa
open Go.RowKit

/-- A call has answered these bytes; all that was there in u is as it was. -/
def RetG (u W : World) (bs : List UInt8) (e : Ending) (w' : World) : Prop := ∃ A n c, e = .returned (.slice A n c) ∧ Hid (bs.length = n) ∧ Hid (SlB w' w'.heap.size A c bs) ∧ Below u.heap.size u w' ∧ Below W.heap.size W w'
theorem ret_grow {u W : World} (hW : Below u.heap.size u W) {fn : FuncId} {args : Array Value} {bs x : List UInt8} (hx : Hid (bs = x)) (h : Calls Try.prog fn args W (Ret W bs)) : Calls Try.prog fn args W (RetG u W x) := by
  obtain rfl := hx.out
  refine h.mono ?_
  rintro e w' ⟨A, n, c, rfl, hn, hS, hb⟩
  exact ⟨A, n, c, rfl, hn, hS, hW.trans (hb.out.mono hW.size), hb.out⟩
theorem own_grow {u W : World} (hW : Below u.heap.size u W) {fn : FuncId} {args : Array Value} {bs x : List UInt8} (hx : Hid (bs = x)) (h : Calls Try.prog fn args W (Own W bs)) : Calls Try.prog fn args W (RetG u W x) :=
  ret_grow hW hx (h.mono fun _ _ => own_ret)
theorem bytes_grow (u W : World) (hW : Below u.heap.size u W) (A A2 : Option Addr) (c c2 n n2 : Nat) (xs ys : List UInt8) (hn : Hid (xs.length = n)) (hn2 : Hid (ys.length = n2)) (hxy : Hid (xs = ys)) (hx : Hid (SlB W W.heap.size A c xs)) (hy : Hid (SlB W W.heap.size A2 c2 ys)) (hl : n ≤ maxLen) :
    Calls Try.prog 9 #[.slice A n c, .slice A2 n2 c2] W fun e w' => e = .returned (.bool true) ∧ Below u.heap.size u w' ∧ Below W.heap.size W w' := by
  refine (bytes_two W A A2 c c2 n n2 xs ys hn.out hn2.out hxy.out hx hy hl).mono ?_
  rintro e w' ⟨rfl, h⟩
  exact ⟨rfl, hW.trans (h.out.mono hW.size), h.out⟩
attribute [local go_sem ↓] ex_ld26
attribute [local go_sem] isP_v blkV_v aggV_v
set_option maxRecDepth 100000 in
set_option maxHeartbeats 8000000 in
theorem shows_walk (w : World) (t : Tm) (ht : t.Ok) (A : Option Addr) (c n : Nat) (bs : List UInt8) (hb : Hid (SlB w w.heap.size A c bs)) (hn : bs.length = n) :
    Calls Try.prog 3 #[.agg t.cs, .slice A n c] w fun e w' => e = .returned (.bool true) ∧ Hid (Below w.heap.size w w') := by
  have hs := cs_size ht.len
  have K0 := old26 w t
  have L0 := slb_at hb K0
  by_cases h1 : 2000 < n
  · have k1 : (2000 : Int) < (n : Int) := by omega
    go_enter Try.func3, Try.ntmps3
    go_wp2_with (first
      | (refine bx26 (by rfl) _ (by rfl) _ (by rfl) hs ?_
         intro G0)
      | (go_at_call 8
         (with_reducible refine (call_alive K0).mono ?_)
         rintro e u1 ⟨rfl, k, K1⟩))
    go_ret
    exact ⟨rfl, K1⟩
  · have k1 : ¬ (2000 : Int) < (n : Int) := by omega
    have hm : n ≤ 400000 := by omega
    have hmx : n ≤ maxLen := by unfold maxLen; omega
    have HN := hid hn
    obtain ⟨s, hs60⟩ : ∃ s, Hid (hasN t.f 60 = s) := ⟨_, hid rfl⟩
    obtain ⟨ls, hls⟩ : ∃ ls, Hid (lineB s bs = ls) := ⟨_, hid rfl⟩
    have hll : Hid (ls.length ≤ 4000) := by rw [← hls.out]; have := (lineB_len s bs).2; exact hid (by omega)
    go_enter Try.func3, Try.ntmps3
    go_wp2_with (first
      | (refine bx26 (by rfl) _ (by rfl) _ (by rfl) hs ?_
         intro G0)
      | (go_at_call 8
         (with_reducible refine (call_alive K0).mono ?_)
         rintro e u1 ⟨rfl, k, K1⟩
         have G1 := hid (box_below G0.out k.out)
         have L1 := slb_at L0 k
         clear k G0)
      | (at_builtin
         (refine app_copy u1 rfl (.tmp 13) (.tmp 14) rfl rfl A n c bs rfl L1 hn (by omega) ?_)
         intro A2 c2 u2 k2 M2
         have L2 := slb_at L1 k2
         have G2 := hid (box_below G1.out k2.out)
         have K2 := bel_t K1 k2.out
         clear k2 G1 K1 L1))
    go_loopw [18] (fun i wr => ∃ k : Nat, k ≤ n ∧ i = .int .i64 k ∧ Hid (SlB wr wr.heap.size A2 c2 bs) ∧ Hid (SlB wr wr.heap.size A c bs) ∧ Hid (Below w.heap.size w wr) ∧ Hid (Box wr w.heap.size 26 t.cs)) (fun i _ => n - (intOf i).toNat)
    case atStart => exact ⟨0, Nat.zero_le _, rfl, M2, L2, K2, G2⟩
    case round =>
      obtain ⟨k, hk, rfl, HM, HL, HB, HG⟩ := hrel
      by_cases hlt : k < n
      · obtain ⟨b, o, y, rfl, hy, cy⟩ := slb_cell HL.out hn hlt
        obtain ⟨x, hx⟩ : ∃ x, Hid (showB s y = x) := ⟨_, hid rfl⟩
        have hxl : Hid (x.length ≤ 2) := by rw [← hx.out]; exact hid (showB_len s y).2
        clear hy
        have bz : ∀ W, Below wr.heap.size wr W → isB W w.heap.size = true ∧ cs26 W w.heap.size = t.cs := fun W h => ⟨isB_mk (box_below HG.out h) hs, cs26_of (box_below HG.out h)⟩
        go_wp2
        go_region_held3 (fun u => isB u w.heap.size = true ∧ cs26 u w.heap.size = t.cs) (exact bz _ (by repeat (first | exact Below.refl _ _ | exact b6 | exact b5 | exact b4 | with_reducible apply bel_dr | with_reducible apply bel_al))) ((first
          | (go_at_call 10
             (with_reducible refine (own_grow (u := wr) ?c1 hx (show_any _ ht y hs60)).mono ?_)
             case c1 => repeat (first | exact Below.refl _ _ | exact b5 | with_reducible apply bel_dr | with_reducible apply bel_al)
             rintro e u4 ⟨A4, n4, c4, rfl, hn4, S4, b4, d4⟩)
          | (go_at_call 11
             (with_reducible refine (ret_grow (u := wr) ?c2 hx (showr_any _ ht y hs60)).mono ?_)
             case c2 => repeat (first | exact Below.refl _ _ | exact b4 | with_reducible apply bel_dr | with_reducible apply bel_al)
             rintro e u5 ⟨A5, n5, c5, rfl, hn5, S5, b5, d5⟩)
          | (go_at_call 9
             (with_reducible refine (bytes_grow wr _ ?c3 A4 A5 c4 c5 n4 n5 x x hn4 hn5 (hid (Eq.refl x)) (slb_up S4 ?c4) (slb_up S5 ?c5) (by have := hn4.out; have := hxl.out; unfold maxLen; omega)).mono ?_)
             case c3 => repeat (first | exact Below.refl _ _ | exact b4 | exact b5 | with_reducible apply bel_dr | with_reducible apply bel_al)
             case c4 => repeat (first | exact Below.refl _ _ | exact d5 | with_reducible apply bel_dr | with_reducible apply bel_al)
             case c5 => repeat (first | exact Below.refl _ _ | exact d4 | with_reducible apply bel_dr | with_reducible apply bel_al)
             rintro e u6 ⟨rfl, b6, d6⟩)))
        all_goals
          have B6 := bel_t HB b6
          have G6 := hid (box_below HG.out b6)
          have L6 := slb_up HL b6
          have M6 := slb_up HM b6
          clear bz
          go_wp2
          go_roundw
          case rel => exact ⟨k + 1, by omega, by go_num, M6, L6, B6, G6⟩
          case measure => simp [intOf] <;> omega
      · have bz : ∀ W, Below wr.heap.size wr W → isB W w.heap.size = true ∧ cs26 W w.heap.size = t.cs := fun W h => ⟨isB_mk (box_below HG.out h) hs, cs26_of (box_below HG.out h)⟩
        have hkn : k = n := by omega
        clear hk hlt
        subst hkn
        go_wp2
        go_region_held3 (fun u => isB u w.heap.size = true ∧ cs26 u w.heap.size = t.cs) (exact bz _ (by repeat (first | exact Below.refl _ _ | exact b7 | exact b6 | exact b5 | exact b4 | with_reducible apply bel_dr | with_reducible apply bel_al))) ((first
          | (go_at_call 12
             (with_reducible refine (own_grow (u := wr) ?c1 hls (line_any _ ht A2 k c2 bs hs60 (slb_up HM ?c6) hn hm)).mono ?_)
             case c1 => repeat (first | exact Below.refl _ _ | exact b5 | with_reducible apply bel_dr | with_reducible apply bel_al)
             case c6 => repeat (first | exact Below.refl _ _ | exact b5 | with_reducible apply bel_dr | with_reducible apply bel_al)
             rintro e u4 ⟨A4, n4, c4, rfl, hn4, S4, b4, d4⟩)
          | (go_at_call 13
             (with_reducible refine (own_grow (u := wr) ?c2 hls (liner_any _ ht A k c bs hs60 (slb_up HL ?c7) hn hm)).mono ?_)
             case c2 => repeat (first | exact Below.refl _ _ | exact b4 | with_reducible apply bel_dr | with_reducible apply bel_al)
             case c7 => repeat (first | exact Below.refl _ _ | exact b4 | with_reducible apply bel_dr | with_reducible apply bel_al)
             rintro e u5 ⟨A5, n5, c5, rfl, hn5, S5, b5, d5⟩)
          | (go_at_call 9
             (first
               | ((with_reducible refine (bytes_grow wr _ ?c3 A4 A5 c4 c5 n4 n5 ls ls hn4 hn5 (hid (Eq.refl ls)) (slb_up S4 ?c4) (slb_up S5 ?c5) (by have := hn4.out; have := hll.out; unfold maxLen; omega)).mono ?_)
                  case c3 => repeat (first | exact Below.refl _ _ | exact b4 | exact b5 | with_reducible apply bel_dr | with_reducible apply bel_al)
                  case c4 => repeat (first | exact Below.refl _ _ | exact d5 | with_reducible apply bel_dr | with_reducible apply bel_al)
                  case c5 => repeat (first | exact Below.refl _ _ | exact d4 | with_reducible apply bel_dr | with_reducible apply bel_al)
                  rintro e u6 ⟨rfl, b6, d6⟩)
               | ((with_reducible refine (bytes_grow wr _ ?c8 A2 A c2 c k k bs bs HN HN (hid (Eq.refl bs)) (slb_up HM ?c9) (slb_up HL ?c10) hmx).mono ?_)
                  case c8 => repeat (first | exact Below.refl _ _ | exact b6 | with_reducible apply bel_dr | with_reducible apply bel_al)
                  case c9 => repeat (first | exact Below.refl _ _ | exact b6 | with_reducible apply bel_dr | with_reducible apply bel_al)
                  case c10 => repeat (first | exact Below.refl _ _ | exact b6 | with_reducible apply bel_dr | with_reducible apply bel_al)
                  rintro e u7 ⟨rfl, b7, d7⟩)))))
        all_goals
          have B7 := bel_t HB b7
          clear bz
          go_wp2
          go_ret
          exact ⟨rfl, B7⟩
end Go.Proofs.Ytgollkckdnaegaa
