import Derived.Test.YtdcohhfbifiemaaKY
namespace Go.Proofs.Ytdcohhfbifiemaa
open Go.RowKit Go.Maps

/-- Through the rounds that gather steps. -/
structure Or (w wr : World) (M a b k : Nat) (O : List Tm) (A : Option Addr) (n c : Nat) (g : Int → Bool) : Prop where
  two : Two w wr [M] a b [] []
  map : Mq wr M n g
  own : wr.ownsRow w.heap.size 31 3 (.slice A n c) n (ov O)
  len : O.length = n
  le : n ≤ k
  nd : nd O
  wf : ∀ x ∈ O, okI x.1 ∧ okI x.2
  seen : ∀ x ∈ O, g x.1 = true
theorem or_step {w wr w3 w4 w5 : World} {M a b k n c c5 : Nat} {O : List Tm} {A A5 : Option Addr} {g : Int → Bool} {x : Tm} (h : Or w wr M a b k O A n c g) (hx : okI x.1 ∧ okI x.2) (hg : g x.1 = false) (hm : Mq w3 M (n + 1) (putG g x.1)) (k3 : But [M] wr w3) (k4 : But [] w3 w4)
    (hgr : w4.grownBy w5 (Value.slice A n c).ownBlock) (ho : w5.ownsRow w.heap.size 31 3 (.slice A5 (n + 1) c5) (n + 1) (ov O ++ [.int .i64 1, .int .i64 x.1, .int .i64 x.2])) : Or w w5 M a b (k + 1) (O ++ [x]) A5 (n + 1) c5 (putG g x.1) := by
  have hown3 : w4.ownsRow w.heap.size 31 3 (.slice A n c) n (ov O) := k4.own (k3.own h.own (fun p hp hx => by
    obtain ⟨_, cs, hb⟩ := own_box h.own p hp
    simp at hx
    subst hx
    exact h.map.ne hb rfl)) (by simp)
  have hk5 : But (Value.slice A n c).ownBlock.toList w4 w5 := (But.refl _ w4).grown hgr fun q hq => .inl (by rw [hq]; simp)
  have hK : ∀ q ∈ (Value.slice A n c).ownBlock.toList, w.heap.size ≤ q ∧ ∃ t cs, Box w4 q t cs ∧ t ≠ 54 ∧ t ≠ 59 ∧ t ≠ 61 := fun q hq => by
    obtain ⟨h1, cs, h2⟩ := own_box hown3 q (by simpa using hq)
    exact ⟨h1, 31, cs, h2, by decide, by decide, by decide⟩
  have hne : ∀ y ∈ O, y.1 ≠ x.1 := fun y hy e => by
    have := h.seen y hy
    rw [e, hg] at this
    cases this
  refine ⟨((h.two.keep k3 (by simp)).keep0 k4).keepT hk5 hK, (hm.keep k4 (by simp)).keep hk5 (fun hq => ?_), by rw [ov_snoc]; exact ho, by simp [h.len], by have := h.le; omega, ?_, fun y hy => ?_, fun y hy => ?_⟩
  · obtain ⟨_, t, cs, hb, _⟩ := hK M hq
    exact (hm.keep k4 (by simp)).ne hb rfl
  · exact List.pairwise_append.2 ⟨h.nd, by simp, fun y hy z hz => by simp at hz; subst hz; exact hne y hy⟩
  · rcases List.mem_append.1 hy with h1 | h1
    · exact h.wf y h1
    · simp at h1
      subst h1
      exact hx
  · unfold putG
    rcases List.mem_append.1 hy with h1 | h1
    · split
      · rfl
      · exact h.seen y h1
    · simp at h1
      subst h1
      simp
theorem iv_at {w : World} {B : Nat} {A : Option Addr} {l : List Int} (h : Lies w B A (iv l)) {k : Nat} (hk : k < l.length) : ∃ b o, A = some ⟨b, o, none⟩ ∧ b < B ∧ w.cell? ⟨b, o + k, none⟩ = some (.int .i64 l[k]) := by
  obtain ⟨b, o, e, hb, hc⟩ := h (by intro e; have := congrArg List.length e; simp [iv] at this; subst this; simp at hk)
  exact ⟨b, o, e, hb, hc k _ (by simp [iv, hk])⟩
theorem set_next {O S : List Tm} {q : Nat} {x : Tm} (hn : nd O) (hp : S.Perm (O.take q)) (hx : O[q]? = some x) (hq : q < 256) : setE x.1 S = 0 ∧ (setS x.1 x.2 S).Perm (O.take (q + 1)) := by
  obtain ⟨hl, he⟩ := List.getElem?_eq_some_iff.1 hx
  have hlen : S.length = q := by rw [hp.length_eq, List.length_take]; omega
  have hne : ∀ y ∈ S, y.1 ≠ x.1 := fun y hy e => by
    obtain ⟨i, hi, hiy⟩ := List.getElem_of_mem (hp.mem_iff.1 hy)
    rw [List.length_take] at hi
    rw [List.getElem_take] at hiy
    have : i = q := nd_get hn (by rw [← hiy]; exact List.getElem?_eq_getElem (by omega)) hx e
    omega
  obtain ⟨h1, h2⟩ := setS_lt (S := S) (by omega) x.1 x.2
  refine ⟨h1, ?_⟩
  rw [h2, rem_none hne, take_snoc O q hl, he]
  exact (ins_perm _ _).trans ((hp.cons x).trans (List.perm_append_comm (l₁ := [x])))
theorem nd_rev {O : List Tm} (h : nd O) : nd O.reverse := (nd_perm (List.reverse_perm O)).2 h
theorem rev_get {O : List Tm} {m q r : Nat} {y : Tm} (hn : O.length = m) (hq : q < m) (hr : m - 1 - q = r) (hy : O[r]? = some y) : O.reverse[q]? = some y := by
  rw [List.getElem?_reverse (by omega), hn, hr]
  exact hy
theorem ov_some {w : World} {base n c : Nat} {A : Option Addr} {O : List Tm} (h : w.ownsRow base 31 3 (.slice A n c) n (ov O)) (hn : 0 < n) : ∃ b o, A = some ⟨b, o, none⟩ := by
  obtain ⟨b, o, e, _⟩ := Lies.own h (by intro e; have := h.1; rw [e] at this; simp at this; omega)
  exact ⟨b, o, e⟩
theorem ov_one {w : World} {base n c b o : Nat} {O : List Tm} (h : w.ownsRow base 31 3 (.slice (some ⟨b, o, none⟩) n c) n (ov O)) (hn : O.length = n) {k : Nat} {x : Tm} (hx : O[k]? = some x) :
    w.cell? ⟨b, o + k * 3, none⟩ = some (.int .i64 1) ∧ w.cell? ⟨b, o + k * 3 + 1, none⟩ = some (.int .i64 x.1) ∧ w.cell? ⟨b, o + k * 3 + 2, none⟩ = some (.int .i64 x.2) := by
  obtain ⟨hk, rfl⟩ := List.getElem?_eq_some_iff.1 hx
  have hv := ov_at O k hk
  obtain ⟨b', o', e, _, hc⟩ := Lies.own h (by intro e; have := ov_len O; rw [e] at this; simp at this; omega)
  injection e with e
  injection e with e1 e2 _
  subst e1; subst e2
  exact ⟨hc _ _ hv.1, hc _ _ hv.2.1, hc _ _ hv.2.2⟩
theorem ov_two {w w' : World} {base n c b o : Nat} {O : List Tm} (k : But [] w w') (h : w.ownsRow base 31 3 (.slice (some ⟨b, o, none⟩) n c) n (ov O)) (hn : O.length = n) {q r : Nat} {x y : Tm} (hx : O[q]? = some x) (hy : O[r]? = some y) :
    w'.cell? ⟨b, o + q * 3, none⟩ = some (.int .i64 1) ∧ w'.cell? ⟨b, o + q * 3 + 1, none⟩ = some (.int .i64 x.1) ∧ w'.cell? ⟨b, o + q * 3 + 2, none⟩ = some (.int .i64 x.2) ∧
    w'.cell? ⟨b, o + r * 3, none⟩ = some (.int .i64 1) ∧ w'.cell? ⟨b, o + r * 3 + 1, none⟩ = some (.int .i64 y.1) ∧ w'.cell? ⟨b, o + r * 3 + 2, none⟩ = some (.int .i64 y.2) := by
  have h' := k.own h (by simp)
  obtain ⟨a1, a2, a3⟩ := ov_one h' hn hx
  obtain ⟨b1, b2, b3⟩ := ov_one h' hn hy
  exact ⟨a1, a2, a3, b1, b2, b3⟩
section
variable (w : World)
set_option maxHeartbeats 4000000 in
set_option maxRecDepth 100000 in
theorem order_great (A A2 : Option Addr) (c n c2 n2 : Nat) (now : Int) (hg : 256 < n) (_hm : n ≤ maxLen) :
    Calls Try.prog 5 #[.slice A n c, .slice A2 n2 c2, .int .i64 now] w fun e w' => e = .returned (.bool true) ∧ Hid (Below w.heap.size w w') := by
  have hb : Hid (Below w.heap.size w w) := Below.refl _ _
  have t1 : (n : Int) > 256 := by omega
  go_enter Try.func5, Try.ntmps5
  go_wp2_with (first
    | (go_at_call 7
       refine (alive_any w w hb).mono ?_
       rintro e w1 ⟨rfl, H1⟩))
  go_ret
  exact ⟨rfl, H1⟩
set_option maxHeartbeats 8000000 in
set_option maxRecDepth 100000 in
theorem order_walk (A A2 : Option Addr) (c n c2 n2 : Nat) (now : Int) (l : List Int) (ts : List Int) (hl : Lies w w.heap.size A (iv l)) (ht : Lies w w.heap.size A2 (iv ts)) (hokl : Hid (∀ x ∈ l, okI x)) (hokt : Hid (∀ x ∈ ts, okI x)) (hn : Hid (l.length = n)) (hn2 : Hid (ts.length = n2)) (hm2 : n2 ≤ maxLen) (hg : n ≤ 256) :
    Calls Try.prog 5 #[.slice A n c, .slice A2 n2 c2, .int .i64 now] w fun e w' => e = .returned (.bool true) ∧ Hid (Below w.heap.size w w') := by
  obtain ⟨i0, hi0, hz0, hz1, hz2⟩ := info_parts Try.info31
  have hb : Hid (Below w.heap.size w w) := Below.refl _ _
  have HL := hid hl
  have HTS := hid ht
  have t1 : ¬ ((n : Int) > 256) := by omega
  have hmm := @run_makeMap Try.prog
  unfold maxLen at hm2
  clear hl ht
  go_enter Try.func5, Try.ntmps5
  go_wp2_with (first
    | (go_at_call 7
       refine (alive_any w w hb).mono ?_
       rintro e w1 ⟨rfl, H1⟩)
    | (go_at_call 8
       (first
        | (with_reducible refine (two_new w w1 H1).mono ?_
           rintro e w2 ⟨a, rfl, HA⟩
           have H2 := hid HA.out.2.2.1
           have HW := hid H1.out.size
           clear H1)
        | (with_reducible refine (two_new w w2 H2).mono ?_
           rintro e w3 ⟨b, rfl, HBb⟩
           have HT := hid (two_made w w1 HA HW.out HBb)
           clear H2 HA HBb))))
  have HO4 : Hid (Or w (w3.alloc (.map #[] 0)) w3.heap.size a b 0 [] none 0 0 (fun _ => false)) := hid ⟨HT.out.add ((But.refl [] w3).alloc _) (Nat.le_refl _) (by simp), Mq.made w3, World.ownsRow_nil _ _ _ _, rfl, Nat.le_refl _, List.Pairwise.nil, by simp, by simp⟩
  generalize (w3.alloc (.map #[] 0)) = w4 at HO4 ⊢
  generalize w3.heap.size = M at HO4 ⊢
  clear HT t1
  go_loopw [26, 10] (fun v v2 wr => ∃ (k : Nat) (O : List Tm) (Ao : Option Addr) (m co : Nat) (g : Int → Bool), v = .int .i64 k ∧ v2 = .slice Ao m co ∧ k ≤ n ∧ Hid (Or w wr M a b k O Ao m co g)) (fun v _ _ => n - (intOf v).toNat)
  case atStart => exact ⟨0, [], none, 0, 0, _, rfl, rfl, Nat.zero_le _, HO4⟩
  case round =>
    obtain ⟨k, O, Ao, m, co, g, rfl, rfl, hk, HO⟩ := hrel
    by_cases hkn : k < n
    · have hkl : k < l.length := by rw [hn.out]; exact hkn
      obtain ⟨x, hx⟩ : ∃ x, l[k] = x := ⟨_, rfl⟩
      have HXO : Hid (okI x) := hid (hokl.out x (by rw [← hx]; exact List.getElem_mem _))
      obtain ⟨bb, oo, rfl, hbb, q0⟩ := iv_at (HL.out.below HO.out.two.bel) hkl
      rw [hx] at q0
      have hi1 : 0 ≤ (k : Int) ∧ (k : Int) < n := by omega
      have hlk := HO.out.map.look HXO.out
      have hmk : m ≤ k := HO.out.le
      clear hx hkl
      by_cases hk2 : k < n2
      · have hkl2 : k < ts.length := by rw [hn2.out]; exact hk2
        obtain ⟨y, hy⟩ : ∃ y, ts[k] = y := ⟨_, rfl⟩
        have HYO : Hid (okI y) := hid (hokt.out y (by rw [← hy]; exact List.getElem_mem _))
        obtain ⟨b2, o2, rfl, hb2, q1⟩ := iv_at (HTS.out.below HO.out.two.bel) hkl2
        rw [hy] at q1
        have hi2 : 0 ≤ (k : Int) ∧ (k : Int) < n2 := by omega
        have t2 : (k : Int) < n2 := by omega
        cases hgx : g x with
        | true =>
          rw [hgx] at hlk
          clear hy hkl2
          go_wp2
          go_roundw
          case rel => exact ⟨k + 1, O, Ao, m, co, g, by go_num, rfl, by omega, hid ⟨HO.out.two, HO.out.map, HO.out.own, HO.out.len, by have := HO.out.le; omega, HO.out.nd, HO.out.wf, HO.out.seen⟩⟩
          case measure => simp [intOf]; omega
        | false =>
          rw [hgx] at hlk
          obtain ⟨w5, hrun, hm5, hk5⟩ := HO.out.map.put (by unfold maxLen; omega) HXO.out
          have HM5 := hid hm5
          have HK5 := hid hk5
          have HG := hid hgx
          have q5 : w5.cell? ⟨b2, o2 + k, none⟩ = some (.int .i64 y) := by
            rw [hk5.cell (p := ⟨b2, o2 + k, none⟩) (Nat.lt_of_lt_of_le hb2 HO.out.two.bel.size) (by simp; exact fun e => by have := (HO.out.two.lt M (by simp)).1; omega)]
            exact q1
          have HK6 : Hid (But [] w5 (w5.alloc (.cells #[.int .i64 1, .int .i64 x, .int .i64 y] 31))) := (But.refl [] _).alloc _
          have HOW : Hid ((w5.alloc (.cells #[.int .i64 1, .int .i64 x, .int .i64 y] 31)).ownsRow w.heap.size 31 3 (.slice Ao m co) m (ov O)) := hid (HK6.out.own (hk5.own HO.out.own (fun p hp hx => by
            obtain ⟨_, cs, hb⟩ := own_box HO.out.own p hp
            simp at hx
            subst hx
            exact HO.out.map.ne hb rfl)) (by simp))
          have HB6 : Hid (w.heap.size ≤ (w5.alloc (.cells #[.int .i64 1, .int .i64 x, .int .i64 y] 31)).heap.size) := hid (Nat.le_trans HO.out.two.bel.size (Nat.le_trans hk5.size HK6.out.size))
          clear hy hkl2 hm5 hk5 hgx
          go_wp2_with (first
            | (at_builtin
               (refine wpList_app _ rfl (.tmp 43) (.tmp 50) 22 rfl w.heap.size 31 i0 _ 3 24 Try.underlying22 hi0 hz0 hz1 hz2 rfl (by decide) Ao m co (ov O) rfl HOW.out (w5.heap.size + 1) (some ⟨w5.heap.size, 0, none⟩) 1 1 [.int .i64 1, .int .i64 x, .int .i64 y] rfl rfl (lies_lit w5 #[.int .i64 1, .int .i64 x, .int .i64 y] 31) (by simp [Value.oneCell']) (by unfold maxLen; omega) (by omega) HB6.out ?_
                intro A7 c7 w7 ho7 hg7
                have HO7 := hid (or_step (x := (x, y)) HO.out ⟨HXO.out, HYO.out⟩ HG.out HM5.out HK5.out HK6.out hg7 ho7)
                clear ho7 hg7)))
          go_roundw
          case rel => exact ⟨k + 1, _, _, _, _, _, by go_num, rfl, by omega, HO7⟩
          case measure => simp [intOf]; omega
      · have t2 : ¬ ((k : Int) < n2) := by omega
        go_wp2
        go_roundw
        case rel => exact ⟨k + 1, O, Ao, m, co, g, by go_num, rfl, by omega, hid ⟨HO.out.two, HO.out.map, HO.out.own, HO.out.len, by have := HO.out.le; omega, HO.out.nd, HO.out.wf, HO.out.seen⟩⟩
        case measure => simp [intOf]; omega
    · go_wp2
      obtain ⟨wb, hwb⟩ : ∃ z, z = wr := ⟨_, rfl⟩
      rw [← hwb] at HO ⊢
      have hm256 : m ≤ 256 := by have := HO.out.le; omega
      clear hwb hkn hk
      have HOL := hid HO.out.len
      go_loopw [55] (fun v wr => ∃ (q : Nat) (S R : List Tm), v = .int .i64 q ∧ q ≤ m ∧ Hid (Two w wr [M] a b S R) ∧ Hid (S.Perm (O.take q)) ∧ Hid (R.Perm (O.reverse.take q)) ∧ Hid (wr.ownsRow w.heap.size 31 3 (.slice Ao m co) m (ov O))) (fun v _ => m - (intOf v).toNat)
      case atStart => exact ⟨0, [], [], rfl, Nat.zero_le _, HO.out.two, List.Perm.refl _, List.Perm.refl _, HO.out.own⟩
      case round =>
        obtain ⟨q, S, R, rfl, hq, HT, HS, HR, HW2⟩ := hrel
        by_cases hqm : q < m
        · obtain ⟨r, hr⟩ : ∃ r, m - 1 - q = r := ⟨_, rfl⟩
          have HXX : Hid (∃ x, O[q]? = some x) := hid ⟨_, List.getElem?_eq_getElem (by rw [HOL.out]; omega)⟩
          have HYY : Hid (∃ y, O[r]? = some y) := hid ⟨_, List.getElem?_eq_getElem (by rw [HOL.out]; omega)⟩
          obtain ⟨⟨x1v, x2v⟩, hx⟩ := HXX.out
          obtain ⟨⟨y1v, y2v⟩, hy⟩ := HYY.out
          clear HXX HYY
          have HXX := hid hx
          have HYY := hid hy
          obtain ⟨bb, oo, rfl⟩ := ov_some HW2.out (show 0 < m by omega)
          have er : (m : Int) - 1 - q = ((r : Nat) : Int) := by omega
          have hi1 : 0 ≤ (q : Int) ∧ (q : Int) < m := by omega
          have hi2 : 0 ≤ (r : Int) ∧ (r : Int) < m := by omega
          have pX := set_next HO.out.nd HS.out hx (by omega)
          have pY := set_next (nd_rev HO.out.nd) HR.out (rev_get HOL.out hqm hr hy) (by omega)
          have SX1 := hid pX.1
          obtain ⟨S2, hS2⟩ : ∃ z, setS x1v x2v S = z := ⟨_, rfl⟩
          obtain ⟨R2, hR2⟩ : ∃ z, setS y1v y2v R = z := ⟨_, rfl⟩
          simp only [hS2] at pX
          simp only [hR2] at pY
          have SX2 := hid hS2
          have SY1 := hid pY.1
          have SY2 := hid hR2
          have HSX := hid pX.2
          have HRY := hid pY.2
          have HOX := hid (HO.out.wf _ (List.mem_of_getElem? hx))
          have HOY := hid (HO.out.wf _ (List.mem_of_getElem? hy))
          clear hx hy pX pY hS2 hR2
          have x00 : wr.cell? ⟨bb, oo + q * 3, none⟩ = some (.int .i64 1) := (ov_two (But.refl [] wr) HW2.out HOL.out HXX.out HYY.out).1
          have x10 : wr.cell? ⟨bb, oo + q * 3 + 1, none⟩ = some (.int .i64 x1v) := (ov_two (But.refl [] wr) HW2.out HOL.out HXX.out HYY.out).2.1
          have x20 : wr.cell? ⟨bb, oo + q * 3 + 2, none⟩ = some (.int .i64 x2v) := (ov_two (But.refl [] wr) HW2.out HOL.out HXX.out HYY.out).2.2.1
          have y00 : wr.cell? ⟨bb, oo + r * 3, none⟩ = some (.int .i64 1) := (ov_two (But.refl [] wr) HW2.out HOL.out HXX.out HYY.out).2.2.2.1
          have y10 : wr.cell? ⟨bb, oo + r * 3 + 1, none⟩ = some (.int .i64 y1v) := (ov_two (But.refl [] wr) HW2.out HOL.out HXX.out HYY.out).2.2.2.2.1
          have y20 : wr.cell? ⟨bb, oo + r * 3 + 2, none⟩ = some (.int .i64 y2v) := (ov_two (But.refl [] wr) HW2.out HOL.out HXX.out HYY.out).2.2.2.2.2
          have x01 : wr.drew.cell? ⟨bb, oo + q * 3, none⟩ = some (.int .i64 1) := (ov_two ((But.refl [] wr).drew) HW2.out HOL.out HXX.out HYY.out).1
          have x11 : wr.drew.cell? ⟨bb, oo + q * 3 + 1, none⟩ = some (.int .i64 x1v) := (ov_two ((But.refl [] wr).drew) HW2.out HOL.out HXX.out HYY.out).2.1
          have x21 : wr.drew.cell? ⟨bb, oo + q * 3 + 2, none⟩ = some (.int .i64 x2v) := (ov_two ((But.refl [] wr).drew) HW2.out HOL.out HXX.out HYY.out).2.2.1
          have y01 : wr.drew.cell? ⟨bb, oo + r * 3, none⟩ = some (.int .i64 1) := (ov_two ((But.refl [] wr).drew) HW2.out HOL.out HXX.out HYY.out).2.2.2.1
          have y11 : wr.drew.cell? ⟨bb, oo + r * 3 + 1, none⟩ = some (.int .i64 y1v) := (ov_two ((But.refl [] wr).drew) HW2.out HOL.out HXX.out HYY.out).2.2.2.2.1
          have y21 : wr.drew.cell? ⟨bb, oo + r * 3 + 2, none⟩ = some (.int .i64 y2v) := (ov_two ((But.refl [] wr).drew) HW2.out HOL.out HXX.out HYY.out).2.2.2.2.2
          have x02 : ∀ o, (wr.alloc o).cell? ⟨bb, oo + q * 3, none⟩ = some (.int .i64 1) := fun o => (ov_two ((But.refl [] wr).alloc _) HW2.out HOL.out HXX.out HYY.out).1
          have x12 : ∀ o, (wr.alloc o).cell? ⟨bb, oo + q * 3 + 1, none⟩ = some (.int .i64 x1v) := fun o => (ov_two ((But.refl [] wr).alloc _) HW2.out HOL.out HXX.out HYY.out).2.1
          have x22 : ∀ o, (wr.alloc o).cell? ⟨bb, oo + q * 3 + 2, none⟩ = some (.int .i64 x2v) := fun o => (ov_two ((But.refl [] wr).alloc _) HW2.out HOL.out HXX.out HYY.out).2.2.1
          have y02 : ∀ o, (wr.alloc o).cell? ⟨bb, oo + r * 3, none⟩ = some (.int .i64 1) := fun o => (ov_two ((But.refl [] wr).alloc _) HW2.out HOL.out HXX.out HYY.out).2.2.2.1
          have y12 : ∀ o, (wr.alloc o).cell? ⟨bb, oo + r * 3 + 1, none⟩ = some (.int .i64 y1v) := fun o => (ov_two ((But.refl [] wr).alloc _) HW2.out HOL.out HXX.out HYY.out).2.2.2.2.1
          have y22 : ∀ o, (wr.alloc o).cell? ⟨bb, oo + r * 3 + 2, none⟩ = some (.int .i64 y2v) := fun o => (ov_two ((But.refl [] wr).alloc _) HW2.out HOL.out HXX.out HYY.out).2.2.2.2.2
          have x03 : ∀ o, (wr.drew.alloc o).cell? ⟨bb, oo + q * 3, none⟩ = some (.int .i64 1) := fun o => (ov_two (((But.refl [] wr).drew).alloc _) HW2.out HOL.out HXX.out HYY.out).1
          have x13 : ∀ o, (wr.drew.alloc o).cell? ⟨bb, oo + q * 3 + 1, none⟩ = some (.int .i64 x1v) := fun o => (ov_two (((But.refl [] wr).drew).alloc _) HW2.out HOL.out HXX.out HYY.out).2.1
          have x23 : ∀ o, (wr.drew.alloc o).cell? ⟨bb, oo + q * 3 + 2, none⟩ = some (.int .i64 x2v) := fun o => (ov_two (((But.refl [] wr).drew).alloc _) HW2.out HOL.out HXX.out HYY.out).2.2.1
          have y03 : ∀ o, (wr.drew.alloc o).cell? ⟨bb, oo + r * 3, none⟩ = some (.int .i64 1) := fun o => (ov_two (((But.refl [] wr).drew).alloc _) HW2.out HOL.out HXX.out HYY.out).2.2.2.1
          have y13 : ∀ o, (wr.drew.alloc o).cell? ⟨bb, oo + r * 3 + 1, none⟩ = some (.int .i64 y1v) := fun o => (ov_two (((But.refl [] wr).drew).alloc _) HW2.out HOL.out HXX.out HYY.out).2.2.2.2.1
          have y23 : ∀ o, (wr.drew.alloc o).cell? ⟨bb, oo + r * 3 + 2, none⟩ = some (.int .i64 y2v) := fun o => (ov_two (((But.refl [] wr).drew).alloc _) HW2.out HOL.out HXX.out HYY.out).2.2.2.2.2
          have x04 : ∀ o o2, ((wr.alloc o).alloc o2).cell? ⟨bb, oo + q * 3, none⟩ = some (.int .i64 1) := fun o o2 => (ov_two (((But.refl [] wr).alloc _).alloc _) HW2.out HOL.out HXX.out HYY.out).1
          have x14 : ∀ o o2, ((wr.alloc o).alloc o2).cell? ⟨bb, oo + q * 3 + 1, none⟩ = some (.int .i64 x1v) := fun o o2 => (ov_two (((But.refl [] wr).alloc _).alloc _) HW2.out HOL.out HXX.out HYY.out).2.1
          have x24 : ∀ o o2, ((wr.alloc o).alloc o2).cell? ⟨bb, oo + q * 3 + 2, none⟩ = some (.int .i64 x2v) := fun o o2 => (ov_two (((But.refl [] wr).alloc _).alloc _) HW2.out HOL.out HXX.out HYY.out).2.2.1
          have y04 : ∀ o o2, ((wr.alloc o).alloc o2).cell? ⟨bb, oo + r * 3, none⟩ = some (.int .i64 1) := fun o o2 => (ov_two (((But.refl [] wr).alloc _).alloc _) HW2.out HOL.out HXX.out HYY.out).2.2.2.1
          have y14 : ∀ o o2, ((wr.alloc o).alloc o2).cell? ⟨bb, oo + r * 3 + 1, none⟩ = some (.int .i64 y1v) := fun o o2 => (ov_two (((But.refl [] wr).alloc _).alloc _) HW2.out HOL.out HXX.out HYY.out).2.2.2.2.1
          have y24 : ∀ o o2, ((wr.alloc o).alloc o2).cell? ⟨bb, oo + r * 3 + 2, none⟩ = some (.int .i64 y2v) := fun o o2 => (ov_two (((But.refl [] wr).alloc _).alloc _) HW2.out HOL.out HXX.out HYY.out).2.2.2.2.2
          have x05 : ∀ o o2, ((wr.drew.alloc o).alloc o2).cell? ⟨bb, oo + q * 3, none⟩ = some (.int .i64 1) := fun o o2 => (ov_two ((((But.refl [] wr).drew).alloc _).alloc _) HW2.out HOL.out HXX.out HYY.out).1
          have x15 : ∀ o o2, ((wr.drew.alloc o).alloc o2).cell? ⟨bb, oo + q * 3 + 1, none⟩ = some (.int .i64 x1v) := fun o o2 => (ov_two ((((But.refl [] wr).drew).alloc _).alloc _) HW2.out HOL.out HXX.out HYY.out).2.1
          have x25 : ∀ o o2, ((wr.drew.alloc o).alloc o2).cell? ⟨bb, oo + q * 3 + 2, none⟩ = some (.int .i64 x2v) := fun o o2 => (ov_two ((((But.refl [] wr).drew).alloc _).alloc _) HW2.out HOL.out HXX.out HYY.out).2.2.1
          have y05 : ∀ o o2, ((wr.drew.alloc o).alloc o2).cell? ⟨bb, oo + r * 3, none⟩ = some (.int .i64 1) := fun o o2 => (ov_two ((((But.refl [] wr).drew).alloc _).alloc _) HW2.out HOL.out HXX.out HYY.out).2.2.2.1
          have y15 : ∀ o o2, ((wr.drew.alloc o).alloc o2).cell? ⟨bb, oo + r * 3 + 1, none⟩ = some (.int .i64 y1v) := fun o o2 => (ov_two ((((But.refl [] wr).drew).alloc _).alloc _) HW2.out HOL.out HXX.out HYY.out).2.2.2.2.1
          have y25 : ∀ o o2, ((wr.drew.alloc o).alloc o2).cell? ⟨bb, oo + r * 3 + 2, none⟩ = some (.int .i64 y2v) := fun o o2 => (ov_two ((((But.refl [] wr).drew).alloc _).alloc _) HW2.out HOL.out HXX.out HYY.out).2.2.2.2.2
          go_wp2
          go_region
          · have HXB : Hid (Box ((wr.alloc (.cells #[.int .i64 1, .int .i64 x1v, .int .i64 x2v] 31)).alloc (.cells #[.int .i64 1, .int .i64 y1v, .int .i64 y2v] 31)) wr.heap.size 31 #[.int .i64 1, .int .i64 x1v, .int .i64 x2v]) := hid (((But.refl [] _).alloc _).box (Box.new wr 31 #[.int .i64 1, .int .i64 x1v, .int .i64 x2v]) (by simp))
            have HYB : Hid (Box ((wr.alloc (.cells #[.int .i64 1, .int .i64 x1v, .int .i64 x2v] 31)).alloc (.cells #[.int .i64 1, .int .i64 y1v, .int .i64 y2v] 31)) (wr.heap.size + 1) 31 #[.int .i64 1, .int .i64 y1v, .int .i64 y2v]) := hid (by have := Box.new (wr.alloc (.cells #[.int .i64 1, .int .i64 x1v, .int .i64 x2v] 31)) 31 #[.int .i64 1, .int .i64 y1v, .int .i64 y2v]; simpa using this)
            have HK8 : Hid (But [] wr ((wr.alloc (.cells #[.int .i64 1, .int .i64 x1v, .int .i64 x2v] 31)).alloc (.cells #[.int .i64 1, .int .i64 y1v, .int .i64 y2v] 31))) := ((But.refl [] wr).alloc _).alloc _
            generalize ((wr.alloc (.cells #[.int .i64 1, .int .i64 x1v, .int .i64 x2v] 31)).alloc (.cells #[.int .i64 1, .int .i64 y1v, .int .i64 y2v] 31)) = w8 at HXB HYB HK8 ⊢
            generalize wr.heap.size + 1 = gy at HXB HYB ⊢
            generalize wr.heap.size = gx at HXB HYB ⊢
            have HT8 := hid (HT.out.keep0 HK8.out)
            have HW8 := hid (HK8.out.own HW2.out (by simp))
            have gx1 : w8.cell? ⟨gx, 1, none⟩ = some (.int .i64 x1v) := HXB.out.cell 1
            have gx2 : w8.cell? ⟨gx, 2, none⟩ = some (.int .i64 x2v) := HXB.out.cell 2
            have gx3 : w8.drew.cell? ⟨gx, 1, none⟩ = some (.int .i64 x1v) := HXB.out.cell 1
            have gx4 : w8.drew.cell? ⟨gx, 2, none⟩ = some (.int .i64 x2v) := HXB.out.cell 2
            have HT8d : Hid (Two w w8.drew [M] a b S R) := hid (HT8.out.keep0 ((But.refl [] w8).drew))
            have HYBd : Hid (Box w8.drew gy 31 #[.int .i64 1, .int .i64 y1v, .int .i64 y2v]) := HYB.out
            have HW8d : Hid (w8.drew.ownsRow w.heap.size 31 3 (.slice (some ⟨bb, oo, none⟩) m co) m (ov O)) := HW8.out
            clear HT HK8 HXB HT8 HYB HW8 HW2
            go_wp2_with (first
              | (go_at_call 9
                 (first
                  | (with_reducible refine (two_set_a w _ HT8d HOX SX1 SX2).mono ?_
                     rintro e w9 ⟨rfl, HT9, HF9⟩
                     have HYB9 := hid (HF9.out.box HYBd.out (by decide) (by decide))
                     have HW9 := hid (HF9.out.own HW8d.out (by decide) (by decide))
                     have gy1 : w9.cell? ⟨gy, 1, none⟩ = some (.int .i64 y1v) := HYB9.out.cell 1
                     have gy2 : w9.cell? ⟨gy, 2, none⟩ = some (.int .i64 y2v) := HYB9.out.cell 2
                     clear HT8d HYBd HW8d HF9 HYB9)
                  | (with_reducible refine (two_set_b w _ HT9 HOY SY1 SY2).mono ?_
                     rintro e w10 ⟨rfl, HT10, HF10⟩
                     have HW10 := hid (HF10.out.own HW9.out (by decide) (by decide))
                     clear HT9 HW9 HF10))))
            go_roundw
            case rel => exact ⟨q + 1, _, _, by go_num, by omega, HT10, HSX, HRY, HW10⟩
            case measure => simp [intOf]; omega
          · have HXB : Hid (Box ((wr.alloc (.cells #[.int .i64 1, .int .i64 y1v, .int .i64 y2v] 31)).alloc (.cells #[.int .i64 1, .int .i64 x1v, .int .i64 x2v] 31)) (wr.heap.size + 1) 31 #[.int .i64 1, .int .i64 x1v, .int .i64 x2v]) := hid (by have := Box.new (wr.alloc (.cells #[.int .i64 1, .int .i64 y1v, .int .i64 y2v] 31)) 31 #[.int .i64 1, .int .i64 x1v, .int .i64 x2v]; simpa using this)
            have HYB : Hid (Box ((wr.alloc (.cells #[.int .i64 1, .int .i64 y1v, .int .i64 y2v] 31)).alloc (.cells #[.int .i64 1, .int .i64 x1v, .int .i64 x2v] 31)) wr.heap.size 31 #[.int .i64 1, .int .i64 y1v, .int .i64 y2v]) := hid (((But.refl [] _).alloc _).box (Box.new wr 31 #[.int .i64 1, .int .i64 y1v, .int .i64 y2v]) (by simp))
            have HK8 : Hid (But [] wr ((wr.alloc (.cells #[.int .i64 1, .int .i64 y1v, .int .i64 y2v] 31)).alloc (.cells #[.int .i64 1, .int .i64 x1v, .int .i64 x2v] 31))) := ((But.refl [] wr).alloc _).alloc _
            generalize ((wr.alloc (.cells #[.int .i64 1, .int .i64 y1v, .int .i64 y2v] 31)).alloc (.cells #[.int .i64 1, .int .i64 x1v, .int .i64 x2v] 31)) = w8 at HXB HYB HK8 ⊢
            generalize wr.heap.size + 1 = gx at HXB HYB ⊢
            generalize wr.heap.size = gy at HXB HYB ⊢
            have HT8 := hid (HT.out.keep0 HK8.out)
            have HW8 := hid (HK8.out.own HW2.out (by simp))
            have gx1 : w8.cell? ⟨gx, 1, none⟩ = some (.int .i64 x1v) := HXB.out.cell 1
            have gx2 : w8.cell? ⟨gx, 2, none⟩ = some (.int .i64 x2v) := HXB.out.cell 2
            have gx3 : w8.drew.cell? ⟨gx, 1, none⟩ = some (.int .i64 x1v) := HXB.out.cell 1
            have gx4 : w8.drew.cell? ⟨gx, 2, none⟩ = some (.int .i64 x2v) := HXB.out.cell 2
            have HT8d : Hid (Two w w8.drew [M] a b S R) := hid (HT8.out.keep0 ((But.refl [] w8).drew))
            have HYBd : Hid (Box w8.drew gy 31 #[.int .i64 1, .int .i64 y1v, .int .i64 y2v]) := HYB.out
            have HW8d : Hid (w8.drew.ownsRow w.heap.size 31 3 (.slice (some ⟨bb, oo, none⟩) m co) m (ov O)) := HW8.out
            clear HT HK8 HXB HT8 HYB HW8 HW2
            go_wp2_with (first
              | (go_at_call 9
                 (first
                  | (with_reducible refine (two_set_a w _ HT8d HOX SX1 SX2).mono ?_
                     rintro e w9 ⟨rfl, HT9, HF9⟩
                     have HYB9 := hid (HF9.out.box HYBd.out (by decide) (by decide))
                     have HW9 := hid (HF9.out.own HW8d.out (by decide) (by decide))
                     have gy1 : w9.cell? ⟨gy, 1, none⟩ = some (.int .i64 y1v) := HYB9.out.cell 1
                     have gy2 : w9.cell? ⟨gy, 2, none⟩ = some (.int .i64 y2v) := HYB9.out.cell 2
                     clear HT8d HYBd HW8d HF9 HYB9)
                  | (with_reducible refine (two_set_b w _ HT9 HOY SY1 SY2).mono ?_
                     rintro e w10 ⟨rfl, HT10, HF10⟩
                     have HW10 := hid (HF10.out.own HW9.out (by decide) (by decide))
                     clear HT9 HW9 HF10))))
            go_roundw
            case rel => exact ⟨q + 1, _, _, by go_num, by omega, HT10, HSX, HRY, HW10⟩
            case measure => simp [intOf]; omega
        · have hqe : q = m := by omega
          subst hqe
          have e1 : S.Perm O := by have := HS.out; rwa [List.take_of_length_le (by rw [HOL.out]; omega)] at this
          have e2 : R.Perm O := by have := HR.out; rw [List.take_of_length_le (by rw [List.length_reverse, HOL.out]; omega)] at this; exact this.trans (List.reverse_perm O)
          have e3 : R = S := srt_uniq HT.out.symm.srt.1 HT.out.srt.1 (e2.trans e1.symm)
          subst e3
          obtain ⟨l1, h1⟩ : ∃ z, ids (dueP now R) = z := ⟨_, rfl⟩
          obtain ⟨S1, h2⟩ : ∃ z, dueS now R = z := ⟨_, rfl⟩
          obtain ⟨l2, h3⟩ : ∃ z, ids (dueP 9223372036854775807 S1) = z := ⟨_, rfl⟩
          have h4 : dueS 9223372036854775807 S1 = [] := due_all (fun x hx => HT.out.okd (id := x.1) (by rw [← h2] at hx; exact (List.dropWhile_sublist _).subset hx))
          obtain ⟨m1, h6⟩ : ∃ z, S1.length = z := ⟨_, rfl⟩
          have hR2 := HT.out.srt.2.2
          have hl1 : l1.length ≤ 1000000 := by have := due_len now R; rw [h1] at this; omega
          have hl2 : l2.length ≤ 1000000 := by have := due_len 9223372036854775807 S1; have h5 := dueS_len now R; rw [h3] at this; rw [h2] at h5; omega
          have HL1 := hid h1
          have HS1 := hid h2
          have HL2 := hid h3
          have HS2 := hid h4
          have HM1 := hid h6
          have HM0 : Hid (([] : List Tm).length = 0) := hid rfl
          clear e1 e2 h1 h2 h3 h4 h6 hR2 hqm hq HS HR HW2
          go_wp2_with (first
            | (go_at_call 17
               (first
                | (with_reducible refine (two_len_a w _ HM1 HT3).mono ?_
                   rintro e w20 ⟨rfl, rfl⟩)
                | (with_reducible refine (two_len_b w _ HM1 HT3).mono ?_
                   rintro e w21 ⟨rfl, rfl⟩)
                | (with_reducible refine (two_len_a w _ HM0 HT6).mono ?_
                   rintro e w20 ⟨rfl, rfl⟩)
                | (with_reducible refine (two_len_b w _ HM0 HT6).mono ?_
                   rintro e w21 ⟨rfl, rfl⟩)))
            | (go_at_call 14
               (first
                | (with_reducible refine (two_due_a w _ HT HL1 HS1).mono ?_
                   rintro e w22 ⟨A1, n1, c1, rfl, O1, HT1, HF1⟩
                   clear HT HF1)
                | (with_reducible refine (two_due_b w _ HT1 HL1 HS1).mono ?_
                   rintro e w23 ⟨A2, n2, c2, rfl, O2, HT2, HF2⟩
                   have O12 := hid (HF2.out.own O1.out (by decide) (by decide))
                   clear HT1 HF2 O1)
                | (with_reducible refine (two_due_a w _ HT3 HL2 HS2).mono ?_
                   rintro e w24 ⟨A3, n3, c3, rfl, O3, HT4, HF3⟩
                   clear HT3 HF3)
                | (with_reducible refine (two_due_b w _ HT4 HL2 HS2).mono ?_
                   rintro e w25 ⟨A4, n4, c4, rfl, O4, HT5, HF4⟩
                   have O34 := hid (HF4.out.own O3.out (by decide) (by decide))
                   clear HT4 HF4 O3)))
            | (go_at_call 13
               (first
                | (with_reducible refine (ints_rows _ O12 O2 hl1).mono ?_
                   rintro e w26 ⟨rfl, HK1⟩
                   have HT3 := hid (HT2.out.keep0 HK1.out)
                   clear HT2 HK1 O12 O2)
                | (with_reducible refine (ints_rows _ O34 O4 hl2).mono ?_
                   rintro e w27 ⟨rfl, HK2⟩
                   have HT6 := hid (HT5.out.keep0 HK2.out)
                   clear HT5 HK2 O34 O4))))
          go_ret
          exact ⟨rfl, HT6.out.bel⟩
end
end Go.Proofs.Ytdcohhfbifiemaa
