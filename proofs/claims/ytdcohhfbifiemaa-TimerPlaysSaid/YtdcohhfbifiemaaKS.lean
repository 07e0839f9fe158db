import Derived.Test.YtdcohhfbifiemaaKR
namespace Go.Proofs.Ytdcohhfbifiemaa
open Go.RowKit Go.Maps

theorem own_len {w : World} {base n : Nat} {v : Value} {l : List Int} (h : w.ownsRow base 3 1 v n (iv l)) : l.length = n := by
  have := h.1
  simpa [iv] using this
theorem alive_ints {w : World} {base n c : Nat} {A : Option Addr} {x : Int} (h : Hid (w.ownsRow base 3 1 (.slice A n c) n (iv [x]))) :
    Calls Try.prog 13 #[.slice A n c, .slice (some ⟨w.heap.size, 0, none⟩) 1 1] (w.alloc (.cells #[.int .i64 x] 3)) fun e w' => e = .returned (.bool true) ∧ Hid (But [] w w') := by
  have h9 := OwnK.of_but ((But.refl [] w).alloc (.cells #[.int .i64 x] 3)) _ _ _ _ h.out
  have hn := own_len h9
  simp at hn
  refine (ints_n _ (xs := [x]) (ys := [x]) (hid (Lies.own h9)) (hid (lies_lit w #[.int .i64 x] 3)) (hid (by simpa using hn)) (hid (rfl : _ = 1)) (by omega) (by omega)).mono ?_
  rintro e w' ⟨rfl, k⟩
  exact ⟨by simp, (((But.refl [] w).alloc _).same k.out)⟩
set_option maxHeartbeats 4000000 in
set_option maxRecDepth 100000 in
theorem alive_any (w0 w : World) (hb : Hid (Below w0.heap.size w0 w)) : Calls Try.prog 7 #[] w fun e w' => e = .returned (.bool true) ∧ Hid (Below w0.heap.size w0 w') := by
  have se0 : Hid (setE 1 [] = 0) := hid (by decide)
  have ss0 : Hid (setS 1 5 [] = [(1, 5)]) := hid (by decide)
  have so0 : Hid (okI 1 ∧ okI 5) := hid ⟨WalkArith.wf_i64 (by omega), WalkArith.wf_i64 (by omega)⟩
  have se1 : Hid (setE 2 [(1, 5)] = 0) := hid (by decide)
  have ss1 : Hid (setS 2 3 [(1, 5)] = [(2, 3), (1, 5)]) := hid (by decide)
  have so1 : Hid (okI 2 ∧ okI 3) := hid ⟨WalkArith.wf_i64 (by omega), WalkArith.wf_i64 (by omega)⟩
  have se2 : Hid (setE 3 [(2, 3), (1, 5)] = 0) := hid (by decide)
  have ss2 : Hid (setS 3 5 [(2, 3), (1, 5)] = [(2, 3), (1, 5), (3, 5)]) := hid (by decide)
  have so2 : Hid (okI 3 ∧ okI 5) := hid ⟨WalkArith.wf_i64 (by omega), WalkArith.wf_i64 (by omega)⟩
  have se3 : Hid (setE 3 [(1, 5), (3, 5)] = 0) := hid (by decide)
  have ss3 : Hid (setS 3 9 [(1, 5), (3, 5)] = [(1, 5), (3, 9)]) := hid (by decide)
  have so3 : Hid (okI 3 ∧ okI 9) := hid ⟨WalkArith.wf_i64 (by omega), WalkArith.wf_i64 (by omega)⟩
  have de1 : Hid (ids (dueP 4 [(2, 3), (1, 5), (3, 5)]) = [2]) := hid (by decide)
  have ds1 : Hid (dueS 4 [(2, 3), (1, 5), (3, 5)] = [(1, 5), (3, 5)]) := hid (by decide)
  have de2 : Hid (ids (dueP 8 [(1, 5), (3, 9)]) = [1]) := hid (by decide)
  have ds2 : Hid (dueS 8 [(1, 5), (3, 9)] = [(3, 9)]) := hid (by decide)
  have ce1 : Hid (has 3 [(3, 9)] = true) := hid (by decide)
  have cs1 : Hid (rem 3 [(3, 9)] = []) := hid (by decide)
  have ce2 : Hid (has 3 [] = false) := hid (by decide)
  have cs2 : Hid (rem 3 [] = []) := hid (by decide)
  have ck : Hid (okI 3) := hid (WalkArith.wf_i64 (by omega))
  go_enter Try.func7, Try.ntmps7
  go_wp2_with (first
    | (go_at_call 8
       with_reducible refine (st_new w0 w hb).mono ?_
       rintro e w1 ⟨T, rfl, H1⟩)
    | (go_at_call 9
       (first
        | (with_reducible refine (st_set w0 w1 H1 so0 se0 ss0).mono ?_
           rintro e w2 ⟨rfl, H2, K2⟩
           clear H1 so0 se0 ss0 K2)
        | (with_reducible refine (st_set w0 w2 H2 so1 se1 ss1).mono ?_
           rintro e w3 ⟨rfl, H3, K3⟩
           clear H2 so1 se1 ss1 K3)
        | (with_reducible refine (st_set w0 w3 H3 so2 se2 ss2).mono ?_
           rintro e w4 ⟨rfl, H4, K4⟩
           clear H3 so2 se2 ss2 K4)
        | (with_reducible refine (st_set w0 w6 H6 so3 se3 ss3).mono ?_
           rintro e w7 ⟨rfl, H7, K7⟩
           have O7 := hid (K7.out _ _ _ _ O6.out)
           clear H6 so3 se3 ss3 K7 O6)
        | (with_reducible refine (set_nil _ 1 1).mono ?_
           rintro e w15 ⟨rfl, rfl⟩)))
    | (go_at_call 16
       with_reducible refine (st_next w0 w4 H4).mono ?_
       rintro e w5 ⟨rfl, H5⟩
       clear H4)
    | (go_at_call 14
       (first
        | (with_reducible refine (st_due w0 w5 H5 de1 ds1).mono ?_
           rintro e w6 ⟨A6, n6, c6, rfl, O6, H6, K6⟩
           clear H5 de1 ds1 K6)
        | (with_reducible refine (st_due w0 w7 H7 de2 ds2).mono ?_
           rintro e w8 ⟨A8, n8, c8, rfl, O8, H8, K8⟩
           have O9 := hid (K8.out _ _ _ _ O7.out)
           clear H7 de2 ds2 K8 O7)))
    | (go_at_call 13
       (first
        | (with_reducible refine (alive_ints O9).mono ?_
           rintro e w10 ⟨rfl, K10⟩
           have H10 := hid (st_keep0 H8.out K10.out)
           have O10 := hid ((OwnK.of_but K10.out) _ _ _ _ O8.out)
           clear H8 K10 O8 O9)
        | (with_reducible refine (alive_ints O10).mono ?_
           rintro e w12 ⟨rfl, K12⟩
           have H12 := hid (st_keep0 H10.out K12.out)
           clear H10 K12 O10)))
    | (go_at_call 11
       (first
        | (with_reducible refine (st_cancel w0 w12 H12 ck ce1 cs1).mono ?_
           rintro e w13 ⟨rfl, H13, K13⟩
           clear H12 K13 ce1 cs1)
        | (with_reducible refine (st_cancel w0 w13 H13 ck ce2 cs2).mono ?_
           rintro e w14 ⟨rfl, H14, K14⟩
           clear H13 K14 ce2 cs2)))
    | (go_at_call 17
       with_reducible refine (len_nil _).mono ?_
       rintro e w16 ⟨rfl, rfl⟩))
  go_ret
  exact ⟨rfl, H14.out.1⟩
end Go.Proofs.Ytdcohhfbifiemaa
