import Derived.Test.YtgollkckdnaegaaHH
import Derived.Test.YtgollkckdnaegaaHJ
import Derived.Test.YtgollkckdnaegaaFD
namespace Go.Proofs.Ytgollkckdnaegaa
open Go.RowKit

/-! What takes characters off the screen: the program's. -/
theorem slb_up {u W : World} {A : Option Addr} {c : Nat} {bs : List UInt8} (h : Hid (SlB u u.heap.size A c bs)) (hW : Below u.heap.size u W) : Hid (SlB W W.heap.size A c bs) := slb_at h (hid hW)
theorem cols_grow (u W : World) (hW : Below u.heap.size u W) {t : Tm} (ht : t.Ok) (col : Int) (A : Option Addr) (n c : Nat) (bs : List UInt8) {s v : Bool} (hs60 : Hid (hasN t.f 60 = s)) (hs42 : Hid (hasN t.f 42 = v)) (hb : Hid (SlB u u.heap.size A c bs)) (hn : Hid (bs.length = n)) (hm : n ≤ 1000000) {M : Nat} (hM : Hid (colsN s v (nrm col) bs = M)) :
    Calls Try.prog 17 #[.agg t.cs, .int .i64 col, .slice A n c] W fun e w' => e = .returned (.int .i64 (M : Int)) ∧ Below u.heap.size u w' ∧ Below W.heap.size W w' := by
  refine (cols_any W ht col A n c bs hs60 hs42 (slb_up hb hW) hn.out hm).mono ?_
  rintro e w' ⟨rfl, h⟩
  rw [hM.out]
  exact ⟨rfl, hW.trans (h.out.mono hW.size), h.out⟩
theorem concat_grow (u W : World) (hW : Below u.heap.size u W) (g : Nat) (A A2 : Option Addr) (n n2 c c2 : Nat) (xs ys : List UInt8) (hg : Box W g 27 #[.slice A n c, .slice A2 n2 c2]) (hx : Hid (SlB u u.heap.size A c xs)) (hy : Hid (SlB u u.heap.size A2 c2 ys)) (hn : Hid (xs.length = n)) (hn2 : Hid (ys.length = n2)) (hm : n + n2 ≤ 1000000) :
    Calls Try.prog 29 #[.slice (some ⟨g, 0, none⟩) 2 2] W fun e w' => ∃ A3 c3, e = .returned (.slice A3 (n + n2) c3) ∧ Hid ((xs ++ ys).length = n + n2) ∧ Hid (SlB w' w'.heap.size A3 c3 (xs ++ ys)) ∧ Below u.heap.size u w' ∧ Below W.heap.size W w' := by
  obtain rfl := hn.out
  obtain rfl := hn2.out
  have hl : LisV W W.heap.size (some ⟨g, 0, none⟩) [xs, ys] := fun _ => by
    refine ⟨g, 0, rfl, hg.lt, fun k hk => ?_⟩
    match k, hk with
    | 0, _ => exact ⟨A, c, (hg.cell 0), (slb_up hx hW).out⟩
    | 1, _ => exact ⟨A2, c2, (hg.cell 1), (slb_up hy hW).out⟩
  have hf : [xs, ys].flatten = xs ++ ys := by simp
  refine (concat_any W W.heap.size (some ⟨g, 0, none⟩) 2 [xs, ys] hl (Nat.le_refl _) (by show 2 ≤ 1000; decide) (by rw [hf, List.length_append]; omega)).mono ?_
  rw [hf]
  rintro e w' ⟨A3, c3, rfl, ho, hb⟩
  refine ⟨A3, c3, by rw [List.length_append], hid List.length_append, hid (own_slb (_n := 0) ho), hW.trans (hb.mono hW.size), hb⟩
theorem full_bel {w u v : World} {bs : List UInt8} {fn : FuncId} {args : Array Value} (hb : Hid (Below w.heap.size w u)) (h : Calls Try.prog fn args v (Full u bs)) : Calls Try.prog fn args v (Full w bs) := by
  refine h.mono ?_
  rintro e w' ⟨p, n, rfl, h1, hs, hb2⟩
  exact ⟨p, n, rfl, h1, hs, bel_t hb hb2.out⟩
theorem own_some {w : World} {base n c : Nat} {A : Option Addr} {bs : List UInt8} (hn : Hid (bs.length = n)) (ho : Hid (w.ownsRow base 5 1 (.slice A n c) n (bv bs))) (hpos : 0 < n) : ∃ p, A = some p := by
  obtain ⟨b, o, y, rfl, _⟩ := slb_cell (slb_own hn ho).out hn.out hpos
  exact ⟨_, rfl⟩
attribute [local go_sem ↓] ex_ld26
attribute [local go_sem] isP_v blkV_v aggV_v
set_option maxRecDepth 100000 in
set_option maxHeartbeats 4000000 in
theorem rub_any (w : World) {t : Tm} (ht : t.Ok) (col : Int) (A A2 : Option Addr) (n n2 c c2 : Nat) (xs ys : List UInt8) {s v : Bool} (hs60 : Hid (hasN t.f 60 = s)) (hs42 : Hid (hasN t.f 42 = v)) (hx : Hid (SlB w w.heap.size A c xs)) (hy : Hid (SlB w w.heap.size A2 c2 ys)) (hn : Hid (xs.length = n)) (hn2 : Hid (ys.length = n2)) (hm : n + n2 ≤ 30000) :
    Calls Try.prog 19 #[.agg t.cs, .int .i64 col, .slice A n c, .slice A2 n2 c2] w (Full w (rubB s v (nrm col) xs ys)) := by
  have hs := cs_size ht.len
  have K0 := old26 w t
  have X0 := slb_at hx K0
  have Y0 := slb_at hy K0
  obtain ⟨M1, hM1⟩ : ∃ M, Hid (colsN s v (nrm col) (xs ++ ys) = M) := ⟨_, hid rfl⟩
  obtain ⟨M2, hM2⟩ : ∃ M, Hid (colsN s v (nrm col) xs = M) := ⟨_, hid rfl⟩
  have hle : M2 ≤ M1 ∧ M1 ≤ M2 + 8 * n2 := by
    have h1 := colsN_le s v ys (colsN s v (nrm col) xs)
    rw [← colsN_append, hM1.out, hM2.out, hn2.out] at h1
    exact h1
  have hrub : Hid (rubB s v (nrm col) xs ys = offB (M1 - M2)) := hid (by unfold rubB; rw [hM1.out, hM2.out])
  obtain ⟨d, hd⟩ : ∃ d, M1 - M2 = d := ⟨_, rfl⟩
  rw [hd] at hrub
  rw [hrub.out]
  have hdi : (M1 : Int) - (M2 : Int) = (d : Int) := by omega
  have hd3 : d ≤ 300000 := by omega
  clear hrub hle hd
  go_enter Try.func19, Try.ntmps19
  go_wp2_with (first
    | (refine bx26 (by rfl) _ (by rfl) _ (by rfl) hs ?_
       intro G0))
  generalize w.alloc (.cells t.cs 26) = u0 at G0 K0 X0 Y0 ⊢
  have bz : ∀ W, Below u0.heap.size u0 W → isB W w.heap.size = true ∧ cs26 W w.heap.size = t.cs := fun W h => ⟨isB_mk (box_below G0.out h) hs, cs26_of (box_below G0.out h)⟩
  go_region_held3 (fun u => isB u w.heap.size = true ∧ cs26 u w.heap.size = t.cs) (exact bz _ (by repeat (first | exact Below.refl _ _ | exact b7 | exact b6 | exact b5 | with_reducible apply bel_dr | with_reducible apply bel_al))) ((first
    | (go_at_call 29
       (with_reducible refine (concat_grow u0 _ ?c1 _ A A2 n n2 c c2 xs ys ?c2 X0 Y0 hn hn2 (by omega)).mono ?_)
       case c1 => repeat (first | exact Below.refl _ _ | exact b7 | with_reducible apply bel_dr | with_reducible apply bel_al)
       case c2 => first | exact box_nw rfl | exact box_dr (box_nw rfl) | exact z7 | exact box_dr z7
       rintro e u5 ⟨A5, c5, rfl, hn5, S5, b5, d5⟩)
    | (go_at_call 17
       (first
         | ((with_reducible refine (cols_grow u5 _ ?c3 ht col A5 (n + n2) c5 (xs ++ ys) hs60 hs42 S5 hn5 (by omega) hM1).mono ?_)
            case c3 => repeat (first | exact Below.refl _ _ | exact d7 | with_reducible apply bel_dr | with_reducible apply bel_al)
            rintro e u6 ⟨rfl, d56, d6⟩
            have b6 := b5.trans (d56.mono b5.size))
         | ((with_reducible refine (cols_grow u0 _ ?c4 ht col A n c xs hs60 hs42 X0 hn (by omega) hM2).mono ?_)
            case c4 => repeat (first | exact Below.refl _ _ | exact b6 | exact b5 | with_reducible apply bel_dr | with_reducible apply bel_al)
            rintro e u7 ⟨rfl, b7, d7⟩
            first | have z7 := box_below (box_nw (cs := #[.slice A n c, .slice A2 n2 c2]) (t := 27) rfl) d7 | have z7 := box_below (box_dr (box_nw (cs := #[.slice A n c, .slice A2 n2 c2]) (t := 27) rfl)) d7 | skip)))))
  all_goals
    clear bz
    first
    | (have K9 := bel_t K0 b7
       go_wp2_with (first
         | (go_at_call 24
            (with_reducible refine (own_bel K9 (text_lit u7 [8, 32, 8] 3 #[.int .u8 8, .int .u8 32, .int .u8 8] rfl rfl (by decide) _ rfl)).mono ?_)
            rintro e u8 ⟨A8, n8, c8, rfl, h8, o8, K8⟩
            obtain rfl : n8 = 3 := h8.out.symm
            obtain ⟨p8, rfl⟩ := own_some h8 o8 (by decide)
            have S8 := slb_own h8 o8)
         | (go_at_call 30
            (with_reducible refine (full_bel K8 (repeat_any u8 p8 c8 d S8 hd3)).mono ?_)
            rintro e u10 ⟨p10, n10, rfl, h10, S10, K10⟩))
       go_ret
       exact ⟨_, _, rfl, h10, S10, K10⟩)
    | (have K9 := bel_t K0 b6
       go_wp2_with (first
         | (go_at_call 24
            (with_reducible refine (own_bel K9 (text_lit u6 [8, 32, 8] 3 #[.int .u8 8, .int .u8 32, .int .u8 8] rfl rfl (by decide) _ rfl)).mono ?_)
            rintro e u8 ⟨A8, n8, c8, rfl, h8, o8, K8⟩
            obtain rfl : n8 = 3 := h8.out.symm
            obtain ⟨p8, rfl⟩ := own_some h8 o8 (by decide)
            have S8 := slb_own h8 o8)
         | (go_at_call 30
            (with_reducible refine (full_bel K8 (repeat_any u8 p8 c8 d S8 hd3)).mono ?_)
            rintro e u10 ⟨p10, n10, rfl, h10, S10, K10⟩))
       go_ret
       exact ⟨_, _, rfl, h10, S10, K10⟩)
end Go.Proofs.Ytgollkckdnaegaa
