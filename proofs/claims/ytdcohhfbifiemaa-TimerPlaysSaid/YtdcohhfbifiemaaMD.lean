import Derived.Test.YtdcohhfbifiemaaMC
import Derived.Test.YtdcohhfbifiemaaKW
import Derived.Deep.RegionHeld3
namespace Go.Proofs.Ytdcohhfbifiemaa
open Go.RowKit Go.Maps

theorem mset_any (w : World) {G : Nat} {S : List Tm} {id d er : Int} {S' : List Tm} (h : Hid (Md w G S)) (hn : S.length ≤ 256) (he : Hid (setE id S = er)) (hs : Hid (setS id d S = S')) :
    Calls Try.prog 10 #[.pointer (some ⟨G, 0, none⟩), .int .i64 id, .int .i64 d] w fun e w' => e = .returned (.int .i64 er) ∧ Hid (MdK w w' G S') := by
  have he' := he.out
  have hs' := hs.out
  unfold setE at he'
  unfold setS at hs'
  by_cases hc : has id S = true ∨ S.length < 256
  · rw [if_pos hc] at he' hs'
    subst he'; subst hs'
    exact mset_yes w h hn (hid hc)
  · rw [if_neg hc] at he' hs'
    subst he'; subst hs'
    have h1 : has id S = false := by
      cases hh : has id S with
      | true => exact absurd (.inl hh) hc
      | false => rfl
    exact mset_full w h (by
      have : ¬ S.length < 256 := fun e => hc (.inr e)
      omega) (hid h1)
/-- What the document's step turns is none of the timers'. -/
theorem one_md {w0 w w' : World} {a G : Nat} {S R R' : List Tm} (h : One w0 w [] a S) (hm : Md w G R) (hG : w0.heap.size ≤ G) (k : MdK w w' G R') : One w0 w' [] a S := by
  obtain ⟨A, c, hb, _⟩ := hm
  exact h.keepT k.2 (fun x hx => by simp at hx; subst hx; exact ⟨hG, 29, _, hb, by decide, by decide, by decide⟩)
theorem md_box {w w' : World} {G g : Nat} {R R' : List Tm} {t : TypeId} {cs : Array Value} (hm : Md w G R) (k : MdK w w' G R') (hb : Box w g t cs) (ht : t ≠ 29) : Box w' g t cs := by
  obtain ⟨A, c, hb0, _⟩ := hm
  exact k.2.box hb (by simp; exact box_ne hb hb0 ht)
theorem md_own {w w' : World} {G base n : Nat} {R R' : List Tm} {v : Value} {xs : List Value} (hm : Md w G R) (k : MdK w w' G R') (h : w.ownsRow base 3 1 v n xs) : w'.ownsRow base 3 1 v n xs := by
  obtain ⟨A, c, hb0, _⟩ := hm
  exact k.2.own h (fun g hg hx => by
    obtain ⟨_, cs, hc⟩ := own_box h g hg
    simp at hx
    subst hx
    exact box_ne hb0 hc (by decide) rfl)
theorem quiet_v {P : Program} {f : FuncId} {args : Array Value} {W : World} {a : Nat} {v : Value} (hc : Calls P f args (W.drewN a) fun e w' => e = .returned v ∧ w' = W.drewN a) :
    Calls P f args (W.drewN a) fun e w'' => e = .returned v ∧ ∃ m, w'' = W.drewN m := hc.mono fun _ _ ⟨he, hm⟩ => ⟨he, a, hm⟩
theorem quiet_v2 {P : Program} {f : FuncId} {args : Array Value} {W : World} {a n : Nat} {v : Value} (hc : Calls P f args (W.drewN (a + n)) fun e w' => e = .returned v ∧ w' = W.drewN (a + n)) :
    Calls P f args (W.drewN (a + n)) fun e w'' => e = .returned v ∧ ∃ m, w'' = W.drewN (a + m) := hc.mono fun _ _ ⟨he, hm⟩ => ⟨he, n, hm⟩
theorem mcancel_x (w : World) {G : Nat} {S S' : List Tm} {id : Int} {v : Bool} (h : Hid (Md w G S)) (hn : S.length ≤ 1000) (hv : Hid (has id S = v)) (hs : Hid (rem id S = S')) : Calls Try.prog 12 #[.pointer (some ⟨G, 0, none⟩), .int .i64 id] w fun e w' => e = .returned (.bool v) ∧ Hid (MdK w w' G S') := by
  refine (mcancel_any w h hn).mono ?_
  rintro e w' ⟨rfl, h1⟩
  rw [hv.out]
  rw [hs.out] at h1
  exact ⟨rfl, h1⟩
theorem mdue_x (w0 w : World) {G a : Nat} {S S' S'' : List Tm} {now : Int} {l : List Int} (h : Hid (Md w G S)) (hn : S.length ≤ 1000) (hl : Hid (ids (dueP now S) = l)) (hs : Hid (dueS now S = S')) (ho : Hid (One w0 w [] a S'')) : Calls Try.prog 15 #[.pointer (some ⟨G, 0, none⟩), .int .i64 now] w fun e w' => ∃ A n c, e = .returned (.slice A n c) ∧ Hid (w'.ownsRow w0.heap.size 3 1 (.slice A n c) n (iv l)) ∧ Hid (MdK w w' G S') := by
  refine (mdue_any w h hn).mono ?_
  rintro e w' ⟨A, n, c, rfl, h1, h2⟩
  rw [hl.out] at h1
  rw [hs.out] at h2
  have h1' := h1.out
  exact ⟨A, n, c, rfl, hid ⟨h1'.1, h1'.2.imp id fun ⟨g, cap, cur, e1, e2, e3⟩ => ⟨g, cap, cur, e1, Nat.le_trans ho.out.bel.size e2, e3⟩⟩, h2⟩
/-- Timers and the document's, side by side. -/
structure Bo (w0 w : World) (a G : Nat) (S : List Tm) : Prop where
  one : One w0 w [] a S
  md : Md w G S
  ge : w0.heap.size ≤ G
theorem Bo.keep0 {w0 w w' : World} {a G : Nat} {S : List Tm} (h : Bo w0 w a G S) (k : But [] w w') : Bo w0 w' a G S := ⟨h.one.keep0 k, h.md.keep0 k, h.ge⟩
section
variable (w : World)
set_option maxHeartbeats 4000000 in
set_option maxRecDepth 100000 in
theorem plays_great (A : Option Addr) (c n : Nat) (hg : 600 < n) (_hm : n ≤ maxLen) :
    Calls Try.prog 3 #[.slice A n c] w fun e w' => e = .returned (.bool true) ∧ Hid (Below w.heap.size w w') := by
  have hb : Hid (Below w.heap.size w w) := Below.refl _ _
  have t1 : (n : Int) > 600 := by omega
  go_enter Try.func3, Try.ntmps3
  go_wp2_with (first
    | (go_at_call 7
       refine (alive_any w w hb).mono ?_
       rintro e w1 ⟨rfl, H1⟩))
  go_ret
  exact ⟨rfl, H1⟩
set_option maxHeartbeats 16000000 in
set_option maxRecDepth 100000 in
theorem plays_walk (A : Option Addr) (c n : Nat) (l : List OpV) (hl : OpsV w w.heap.size A l) (hok : Hid (okO l)) (hn : Hid (l.length = n)) (hg : n ≤ 600) :
    Calls Try.prog 3 #[.slice A n c] w fun e w' => e = .returned (.bool true) ∧ Hid (Below w.heap.size w w') := by
  have hb : Hid (Below w.heap.size w w) := Below.refl _ _
  have HL := hid hl
  have t1 : ¬ ((n : Int) > 600) := by omega
  clear hl
  go_enter Try.func3, Try.ntmps3
  go_wp2_with (first
    | (go_at_call 7
       refine (alive_any w w hb).mono ?_
       rintro e w1 ⟨rfl, H1⟩)
    | (go_at_call 8
       with_reducible refine (one_new w w1 H1).mono ?_
       rintro e w3 ⟨a, rfl, HT⟩
       clear H1))
  have HB4 : Hid (Bo w (w3.alloc (.cells #[.slice none 0 0] 29)) a w3.heap.size []) := hid ⟨HT.out.keep0 ((But.refl [] _).alloc _), ⟨none, 0, Box.new _ _ _, Ro.nil _⟩, HT.out.bel.size⟩
  generalize (w3.alloc (.cells #[.slice none 0 0] 29)) = w4 at HB4 ⊢
  generalize w3.heap.size = G at HB4 ⊢
  clear HT t1
  go_loopw [20] (fun v wr => ∃ (k : Nat) (S : List Tm), v = .int .i64 k ∧ k ≤ n ∧ Hid (Bo w wr a G S)) (fun v _ => n - (intOf v).toNat)
  case atStart => exact ⟨0, [], rfl, Nat.zero_le _, HB4⟩
  case round =>
    obtain ⟨k, S, rfl, hk, HB⟩ := hrel
    by_cases hkn : k < n
    · have hkl : k < l.length := by rw [hn.out]; exact hkn
      obtain ⟨o, ho⟩ : ∃ o, l[k] = o := ⟨_, rfl⟩
      have HO := hid (hok.out o (by rw [← ho]; exact List.getElem_mem _))
      obtain ⟨bb, oo, rfl, hbb, q0, q1, q2⟩ := ops_at (HL.out.below HB.out.one.bel) hkl
      rw [ho] at q0 q1 q2
      obtain ⟨o0, o1, o2⟩ := o
      simp only at q0 q1 q2 HO
      have hi1 : 0 ≤ (k : Int) ∧ (k : Int) < n := by omega
      have HBa : Hid (Bo w (wr.alloc (.cells #[.int .i64 o0, .int .i64 o1, .int .i64 o2] 31)) a G S) := HB.out.keep0 ((But.refl [] _).alloc _)
      have HXa : Hid (Box (wr.alloc (.cells #[.int .i64 o0, .int .i64 o1, .int .i64 o2] 31)) wr.heap.size 31 #[.int .i64 o0, .int .i64 o1, .int .i64 o2]) := Box.new _ _ _
      have hlen := HB.out.one.srt.2.2
      clear ho hkl
      by_cases ho1 : o0 = 1
      · subst ho1
        obtain ⟨er, her⟩ : ∃ z, setE o1 S = z := ⟨_, rfl⟩
        obtain ⟨S5, hS5⟩ : ∃ z, setS o1 o2 S = z := ⟨_, rfl⟩
        have SE := hid her
        have SS := hid hS5
        clear her hS5
        go_wp2
        generalize hw5 : wr.alloc (.cells #[.int .i64 1, .int .i64 o1, .int .i64 o2] 31) = w5 at HBa HXa ⊢
        generalize wr.heap.size = g at HXa ⊢
        have c51 : w5.cell? ⟨g, 1, none⟩ = some (.int .i64 o1) := HXa.out.cell 1
        have c52 : w5.cell? ⟨g, 2, none⟩ = some (.int .i64 o2) := HXa.out.cell 2
        have d51 : w5.drew.cell? ⟨g, 1, none⟩ = some (.int .i64 o1) := HXa.out.cell 1
        have d52 : w5.drew.cell? ⟨g, 2, none⟩ = some (.int .i64 o2) := HXa.out.cell 2
        have HBd : Hid (Bo w w5.drew a G S) := hid (HBa.out.keep0 ((But.refl [] w5).drew))
        have HOd : Hid (One w w5.drew [] a S) := hid HBd.out.one
        have HSd : w5.drew.cell? ⟨g, 1, none⟩ = some (.int .i64 o1) ∧ w5.drew.cell? ⟨g, 2, none⟩ = some (.int .i64 o2) := ⟨d51, d52⟩
        go_region_held3 (fun u => u.cell? ⟨g, 1, none⟩ = some (.int .i64 o1) ∧ u.cell? ⟨g, 2, none⟩ = some (.int .i64 o2)) (first | exact HSd | exact HS7 | exact HS6) ((first
          | (go_at_call 9
             (with_reducible refine (one_set w _ HOd HO SE SS).mono ?_)
             rintro e w6 ⟨rfl, HT6, HF6⟩
             have HX6 := hid (HF6.out.box (w := w5.drew) HXa.out (by decide) (by decide))
             have HS6 : w6.cell? ⟨g, 1, none⟩ = some (.int .i64 o1) ∧ w6.cell? ⟨g, 2, none⟩ = some (.int .i64 o2) := ⟨HX6.out.cell 1, HX6.out.cell 2⟩
             have HM6 := hid (HBd.out.md.fr HF6.out))
          | (go_at_call 10
             (with_reducible refine (mset_any _ HM6 hlen SE SS).mono ?_)
             rintro e w7 ⟨rfl, HM7⟩
             have HX7 := hid (md_box HM6.out HM7.out HX6.out (by decide))
             have HS7 : w7.cell? ⟨g, 1, none⟩ = some (.int .i64 o1) ∧ w7.cell? ⟨g, 2, none⟩ = some (.int .i64 o2) := ⟨HX7.out.cell 1, HX7.out.cell 2⟩
             have HB7 := hid (Bo.mk (one_md HT6.out HM6.out HBd.out.ge HM7.out) HM7.out.1 HBd.out.ge))))
        all_goals
          clear HBa HXa HBd HOd
          rcases S5 with _ | ⟨s, R⟩
          · obtain ⟨Am, cm, hbm, _⟩ := HB7.out.md
            have HGm := hid hbm
            have HN0 : Hid (([] : List Tm).length = 0) := hid rfl
            have HO9 := hid HB7.out.one
            clear hbm
            go_wp2_with (first
              | (go_at_call 16
                 with_reducible refine (one_next_none w _ HO9).mono ?_
                 rintro e w9 ⟨rfl, HK9⟩
                 have HB10 := hid (HB7.out.keep0 HK9.out)
                 have HG10 := hid (HK9.out.box HGm.out (by simp))
                 have c90 : w9.cell? ⟨G, 0, none⟩ = some (.slice Am 0 cm) := HG10.out.cell 0
                 have Q17 : Hid (∀ d, Calls Try.prog 17 #[.pointer (some ⟨a, 0, none⟩)] (w9.drewN d) fun e w' => e = .returned (.int .i64 ((0 : Nat) : Int)) ∧ w' = w9.drewN d) := hid (fun d => one_len w (w9.drewN d) HN0 (hid (HB10.out.one.keep0 ((But.refl [] w9).drewN d))))))
            go_quiet (first | (go_at_call 17; first | (with_reducible exact quiet_v2 (Q17.out _)) | (with_reducible exact quiet_v (Q17.out _))))
            go_wp2
            have HB11 : Hid (Bo w (w9.drewN nq) a G []) := hid (HB10.out.keep0 ((But.refl [] w9).drewN nq))
            go_roundw
            case rel => exact ⟨k + 1, _, by go_num, by omega, HB11⟩
            case measure => simp [intOf]; omega
          · obtain ⟨Am, cm, hbm, hrm⟩ := HB7.out.md
            obtain ⟨bm, om, rfl, p0, p1⟩ := hrm.at (j := 0) (x := s) rfl
            obtain ⟨m, hm⟩ : ∃ m, (s :: R).length = m := ⟨_, rfl⟩
            rw [hm] at hbm hrm
            have HGm := hid hbm
            have HRm := hid hrm
            have HNm := hid hm
            have HO9 := hid HB7.out.one
            have hm0 : 0 < m := by rw [← hm]; simp
            have dm1 : decide ((0 : Int) < (m : Int)) = true := by simp; omega
            have dm2 : decide (0 < m) = true := by simp; omega
            have bm0 : 0 ≤ (0 : Int) ∧ (0 : Int) < (m : Int) := by omega
            obtain ⟨s1, s2⟩ := s
            clear hbm hrm hm p0 p1
            go_wp2_with (first
              | (go_at_call 16
                 with_reducible refine (one_next_some w _ HO9).mono ?_
                 rintro e w9 ⟨rfl, HK9⟩
                 have HB10 := hid (HB7.out.keep0 HK9.out)
                 have HG10 := hid (HK9.out.box HGm.out (by simp))
                 have c90 : w9.cell? ⟨G, 0, none⟩ = some (.slice (some ⟨bm, om, none⟩) m cm) := HG10.out.cell 0
                 obtain ⟨b', o', e', p0, p1⟩ := (HRm.out.keep0 HK9.out).at (j := 0) (x := (s1, s2)) rfl
                 injection e' with e'
                 injection e' with e1 e2 _
                 subst e1
                 subst e2
                 simp only [Nat.zero_mul, Nat.add_zero] at p0 p1
                 have Q17 : Hid (∀ d, Calls Try.prog 17 #[.pointer (some ⟨a, 0, none⟩)] (w9.drewN d) fun e w' => e = .returned (.int .i64 (m : Int)) ∧ w' = w9.drewN d) := hid (fun d => one_len w (w9.drewN d) HNm (hid (HB10.out.one.keep0 ((But.refl [] w9).drewN d))))))
            go_quiet (first | (go_at_call 17; first | (with_reducible exact quiet_v2 (Q17.out _)) | (with_reducible exact quiet_v (Q17.out _))))
            go_wp2
            have HB11 : Hid (Bo w (w9.drewN nq) a G ((s1, s2) :: R)) := hid (HB10.out.keep0 ((But.refl [] w9).drewN nq))
            go_roundw
            case rel => exact ⟨k + 1, _, by go_num, by omega, HB11⟩
            case measure => simp [intOf]; omega
      · have t3 : (o0 == 1) = false := by simpa using ho1
        by_cases ho2 : o0 = 2
        · subst ho2
          obtain ⟨v, hv⟩ : ∃ v, has o1 S = v := ⟨_, rfl⟩
          obtain ⟨S5, hS5⟩ : ∃ z, rem o1 S = z := ⟨_, rfl⟩
          have HV := hid hv
          have HS5 := hid hS5
          have HI := hid HO.out.1
          have hvv : (v != v) = false := by simp
          have hlen2 : S.length ≤ 1000 := by omega
          clear hv hS5
          go_wp2
          generalize hw5 : wr.alloc (.cells #[.int .i64 2, .int .i64 o1, .int .i64 o2] 31) = w5 at HBa HXa ⊢
          generalize wr.heap.size = g at HXa ⊢
          have c51 : w5.cell? ⟨g, 1, none⟩ = some (.int .i64 o1) := HXa.out.cell 1
          have d51 : w5.drew.cell? ⟨g, 1, none⟩ = some (.int .i64 o1) := HXa.out.cell 1
          have HBd : Hid (Bo w w5.drew a G S) := hid (HBa.out.keep0 ((But.refl [] w5).drew))
          have HOd : Hid (One w w5.drew [] a S) := hid HBd.out.one
          have HSd : w5.drew.cell? ⟨g, 1, none⟩ = some (.int .i64 o1) := d51
          go_region_held3 (fun u => u.cell? ⟨g, 1, none⟩ = some (.int .i64 o1)) (first | exact HSd | exact HS7 | exact HS6) ((first
            | (go_at_call 11
               (with_reducible refine (one_cancel w _ HOd HI HV HS5).mono ?_)
               rintro e w6 ⟨rfl, HT6, HF6⟩
               have HX6 := hid (HF6.out.box (w := w5.drew) HXa.out (by decide) (by decide))
               have HS6 : w6.cell? ⟨g, 1, none⟩ = some (.int .i64 o1) := HX6.out.cell 1
               have HM6 := hid (HBd.out.md.fr HF6.out))
            | (go_at_call 12
               (with_reducible refine (mcancel_x _ HM6 hlen2 HV HS5).mono ?_)
               rintro e w7 ⟨rfl, HM7⟩
               have HX7 := hid (md_box HM6.out HM7.out HX6.out (by decide))
               have HS7 : w7.cell? ⟨g, 1, none⟩ = some (.int .i64 o1) := HX7.out.cell 1
               have HB7 := hid (Bo.mk (one_md HT6.out HM6.out HBd.out.ge HM7.out) HM7.out.1 HBd.out.ge))))
          all_goals
            clear HBa HXa HBd HOd
            rcases S5 with _ | ⟨s, R⟩
            · obtain ⟨Am, cm, hbm, _⟩ := HB7.out.md
              have HGm := hid hbm
              have HN0 : Hid (([] : List Tm).length = 0) := hid rfl
              have HO9 := hid HB7.out.one
              clear hbm
              go_wp2_with (first
                | (go_at_call 16
                   with_reducible refine (one_next_none w _ HO9).mono ?_
                   rintro e w9 ⟨rfl, HK9⟩
                   have HB10 := hid (HB7.out.keep0 HK9.out)
                   have HG10 := hid (HK9.out.box HGm.out (by simp))
                   have c90 : w9.cell? ⟨G, 0, none⟩ = some (.slice Am 0 cm) := HG10.out.cell 0
                   have Q17 : Hid (∀ d, Calls Try.prog 17 #[.pointer (some ⟨a, 0, none⟩)] (w9.drewN d) fun e w' => e = .returned (.int .i64 ((0 : Nat) : Int)) ∧ w' = w9.drewN d) := hid (fun d => one_len w (w9.drewN d) HN0 (hid (HB10.out.one.keep0 ((But.refl [] w9).drewN d))))))
              go_quiet (first | (go_at_call 17; first | (with_reducible exact quiet_v2 (Q17.out _)) | (with_reducible exact quiet_v (Q17.out _))))
              go_wp2
              have HB11 : Hid (Bo w (w9.drewN nq) a G []) := hid (HB10.out.keep0 ((But.refl [] w9).drewN nq))
              go_roundw
              case rel => exact ⟨k + 1, _, by go_num, by omega, HB11⟩
              case measure => simp [intOf]; omega
            · obtain ⟨Am, cm, hbm, hrm⟩ := HB7.out.md
              obtain ⟨bm, om, rfl, p0, p1⟩ := hrm.at (j := 0) (x := s) rfl
              obtain ⟨m, hm⟩ : ∃ m, (s :: R).length = m := ⟨_, rfl⟩
              rw [hm] at hbm hrm
              have HGm := hid hbm
              have HRm := hid hrm
              have HNm := hid hm
              have HO9 := hid HB7.out.one
              have hm0 : 0 < m := by rw [← hm]; simp
              have dm1 : decide ((0 : Int) < (m : Int)) = true := by simp; omega
              have dm2 : decide (0 < m) = true := by simp; omega
              have bm0 : 0 ≤ (0 : Int) ∧ (0 : Int) < (m : Int) := by omega
              obtain ⟨s1, s2⟩ := s
              clear hbm hrm hm p0 p1
              go_wp2_with (first
                | (go_at_call 16
                   with_reducible refine (one_next_some w _ HO9).mono ?_
                   rintro e w9 ⟨rfl, HK9⟩
                   have HB10 := hid (HB7.out.keep0 HK9.out)
                   have HG10 := hid (HK9.out.box HGm.out (by simp))
                   have c90 : w9.cell? ⟨G, 0, none⟩ = some (.slice (some ⟨bm, om, none⟩) m cm) := HG10.out.cell 0
                   obtain ⟨b', o', e', p0, p1⟩ := (HRm.out.keep0 HK9.out).at (j := 0) (x := (s1, s2)) rfl
                   injection e' with e'
                   injection e' with e1 e2 _
                   subst e1
                   subst e2
                   simp only [Nat.zero_mul, Nat.add_zero] at p0 p1
                   have Q17 : Hid (∀ d, Calls Try.prog 17 #[.pointer (some ⟨a, 0, none⟩)] (w9.drewN d) fun e w' => e = .returned (.int .i64 (m : Int)) ∧ w' = w9.drewN d) := hid (fun d => one_len w (w9.drewN d) HNm (hid (HB10.out.one.keep0 ((But.refl [] w9).drewN d))))))
              go_quiet (first | (go_at_call 17; first | (with_reducible exact quiet_v2 (Q17.out _)) | (with_reducible exact quiet_v (Q17.out _))))
              go_wp2
              have HB11 : Hid (Bo w (w9.drewN nq) a G ((s1, s2) :: R)) := hid (HB10.out.keep0 ((But.refl [] w9).drewN nq))
              go_roundw
              case rel => exact ⟨k + 1, _, by go_num, by omega, HB11⟩
              case measure => simp [intOf]; omega
        · have t4 : (o0 == 2) = false := by simpa using ho2
          by_cases ho3 : o0 = 3
          · subst ho3
            obtain ⟨l3, hl3⟩ : ∃ z, ids (dueP o2 S) = z := ⟨_, rfl⟩
            obtain ⟨S5, hS5⟩ : ∃ z, dueS o2 S = z := ⟨_, rfl⟩
            have HL3 := hid hl3
            have HS5 := hid hS5
            have hlen2 : S.length ≤ 1000 := by omega
            have hl3n : l3.length ≤ 1000000 := by have := due_len o2 S; rw [hl3] at this; omega
            clear hl3 hS5
            go_wp2
            generalize hw5 : wr.alloc (.cells #[.int .i64 3, .int .i64 o1, .int .i64 o2] 31) = w5 at HBa HXa ⊢
            generalize wr.heap.size = g at HXa ⊢
            have c52 : w5.cell? ⟨g, 2, none⟩ = some (.int .i64 o2) := HXa.out.cell 2
            have d52 : w5.drew.cell? ⟨g, 2, none⟩ = some (.int .i64 o2) := HXa.out.cell 2
            have HBd : Hid (Bo w w5.drew a G S) := hid (HBa.out.keep0 ((But.refl [] w5).drew))
            have HOd : Hid (One w w5.drew [] a S) := hid HBd.out.one
            have HSd : w5.drew.cell? ⟨g, 2, none⟩ = some (.int .i64 o2) := d52
            go_region_held3 (fun u => u.cell? ⟨g, 2, none⟩ = some (.int .i64 o2)) (first | exact HSd | exact HS8 | exact HS7 | exact HS6) ((first
              | (go_at_call 14
                 (with_reducible refine (one_due w _ HOd HL3 HS5).mono ?_)
                 rintro e w6 ⟨A6, n6, c6, rfl, HOW6, HT6, HF6⟩
                 have HX6 := hid (HF6.out.box (w := w5.drew) HXa.out (by decide) (by decide))
                 have HS6 : w6.cell? ⟨g, 2, none⟩ = some (.int .i64 o2) := HX6.out.cell 2
                 have HM6 := hid (HBd.out.md.fr HF6.out))
              | (go_at_call 15
                 (with_reducible refine (mdue_x w _ HM6 hlen2 HL3 HS5 HT6).mono ?_)
                 rintro e w7 ⟨A7, n7, c7, rfl, HOW7, HM7⟩
                 have HX7 := hid (md_box HM6.out HM7.out HX6.out (by decide))
                 have HS7 : w7.cell? ⟨g, 2, none⟩ = some (.int .i64 o2) := HX7.out.cell 2
                 have HOW67 := hid (md_own HM6.out HM7.out HOW6.out)
                 have HB7 := hid (Bo.mk (one_md HT6.out HM6.out HBd.out.ge HM7.out) HM7.out.1 HBd.out.ge))
              | (go_at_call 13
                 (with_reducible refine (ints_rows _ HOW67 HOW7 hl3n).mono ?_)
                 rintro e w8 ⟨rfl, HK8⟩
                 have HS8 : w8.cell? ⟨g, 2, none⟩ = some (.int .i64 o2) := (HK8.out.box HX7.out (by simp)).cell 2
                 have HB8 := hid (HB7.out.keep0 HK8.out))))
            all_goals
              clear HBa HXa HBd HOd
              rcases S5 with _ | ⟨s, R⟩
              · obtain ⟨Am, cm, hbm, _⟩ := HB8.out.md
                have HGm := hid hbm
                have HN0 : Hid (([] : List Tm).length = 0) := hid rfl
                have HO9 := hid HB8.out.one
                clear hbm
                go_wp2_with (first
                  | (go_at_call 16
                     with_reducible refine (one_next_none w _ HO9).mono ?_
                     rintro e w9 ⟨rfl, HK9⟩
                     have HB10 := hid (HB8.out.keep0 HK9.out)
                     have HG10 := hid (HK9.out.box HGm.out (by simp))
                     have c90 : w9.cell? ⟨G, 0, none⟩ = some (.slice Am 0 cm) := HG10.out.cell 0
                     have Q17 : Hid (∀ d, Calls Try.prog 17 #[.pointer (some ⟨a, 0, none⟩)] (w9.drewN d) fun e w' => e = .returned (.int .i64 ((0 : Nat) : Int)) ∧ w' = w9.drewN d) := hid (fun d => one_len w (w9.drewN d) HN0 (hid (HB10.out.one.keep0 ((But.refl [] w9).drewN d))))))
                go_quiet (first | (go_at_call 17; first | (with_reducible exact quiet_v2 (Q17.out _)) | (with_reducible exact quiet_v (Q17.out _))))
                go_wp2
                have HB11 : Hid (Bo w (w9.drewN nq) a G []) := hid (HB10.out.keep0 ((But.refl [] w9).drewN nq))
                go_roundw
                case rel => exact ⟨k + 1, _, by go_num, by omega, HB11⟩
                case measure => simp [intOf]; omega
              · obtain ⟨Am, cm, hbm, hrm⟩ := HB8.out.md
                obtain ⟨bm, om, rfl, p0, p1⟩ := hrm.at (j := 0) (x := s) rfl
                obtain ⟨m, hm⟩ : ∃ m, (s :: R).length = m := ⟨_, rfl⟩
                rw [hm] at hbm hrm
                have HGm := hid hbm
                have HRm := hid hrm
                have HNm := hid hm
                have HO9 := hid HB8.out.one
                have hm0 : 0 < m := by rw [← hm]; simp
                have dm1 : decide ((0 : Int) < (m : Int)) = true := by simp; omega
                have dm2 : decide (0 < m) = true := by simp; omega
                have bm0 : 0 ≤ (0 : Int) ∧ (0 : Int) < (m : Int) := by omega
                obtain ⟨s1, s2⟩ := s
                clear hbm hrm hm p0 p1
                go_wp2_with (first
                  | (go_at_call 16
                     with_reducible refine (one_next_some w _ HO9).mono ?_
                     rintro e w9 ⟨rfl, HK9⟩
                     have HB10 := hid (HB8.out.keep0 HK9.out)
                     have HG10 := hid (HK9.out.box HGm.out (by simp))
                     have c90 : w9.cell? ⟨G, 0, none⟩ = some (.slice (some ⟨bm, om, none⟩) m cm) := HG10.out.cell 0
                     obtain ⟨b', o', e', p0, p1⟩ := (HRm.out.keep0 HK9.out).at (j := 0) (x := (s1, s2)) rfl
                     injection e' with e'
                     injection e' with e1 e2 _
                     subst e1
                     subst e2
                     simp only [Nat.zero_mul, Nat.add_zero] at p0 p1
                     have Q17 : Hid (∀ d, Calls Try.prog 17 #[.pointer (some ⟨a, 0, none⟩)] (w9.drewN d) fun e w' => e = .returned (.int .i64 (m : Int)) ∧ w' = w9.drewN d) := hid (fun d => one_len w (w9.drewN d) HNm (hid (HB10.out.one.keep0 ((But.refl [] w9).drewN d))))))
                go_quiet (first | (go_at_call 17; first | (with_reducible exact quiet_v2 (Q17.out _)) | (with_reducible exact quiet_v (Q17.out _))))
                go_wp2
                have HB11 : Hid (Bo w (w9.drewN nq) a G ((s1, s2) :: R)) := hid (HB10.out.keep0 ((But.refl [] w9).drewN nq))
                go_roundw
                case rel => exact ⟨k + 1, _, by go_num, by omega, HB11⟩
                case measure => simp [intOf]; omega
          · have t5 : (o0 == 3) = false := by simpa using ho3
            rcases S with _ | ⟨s, R⟩
            · obtain ⟨Am, cm, hbm, _⟩ := HBa.out.md
              have HGm := hid hbm
              have HN0 : Hid (([] : List Tm).length = 0) := hid rfl
              have HO9 := hid HBa.out.one
              clear hbm
              go_wp2_with (first
                | (go_at_call 16
                   with_reducible refine (one_next_none w _ HO9).mono ?_
                   rintro e w9 ⟨rfl, HK9⟩
                   have HB10 := hid (HBa.out.keep0 HK9.out)
                   have HG10 := hid (HK9.out.box HGm.out (by simp))
                   have c90 : w9.cell? ⟨G, 0, none⟩ = some (.slice Am 0 cm) := HG10.out.cell 0
                   have Q17 : Hid (∀ d, Calls Try.prog 17 #[.pointer (some ⟨a, 0, none⟩)] (w9.drewN d) fun e w' => e = .returned (.int .i64 ((0 : Nat) : Int)) ∧ w' = w9.drewN d) := hid (fun d => one_len w (w9.drewN d) HN0 (hid (HB10.out.one.keep0 ((But.refl [] w9).drewN d))))))
              go_quiet (first | (go_at_call 17; first | (with_reducible exact quiet_v2 (Q17.out _)) | (with_reducible exact quiet_v (Q17.out _))))
              go_wp2
              have HB11 : Hid (Bo w (w9.drewN nq) a G []) := hid (HB10.out.keep0 ((But.refl [] w9).drewN nq))
              go_roundw
              case rel => exact ⟨k + 1, _, by go_num, by omega, HB11⟩
              case measure => simp [intOf]; omega
            · obtain ⟨Am, cm, hbm, hrm⟩ := HBa.out.md
              obtain ⟨bm, om, rfl, p0, p1⟩ := hrm.at (j := 0) (x := s) rfl
              obtain ⟨m, hm⟩ : ∃ m, (s :: R).length = m := ⟨_, rfl⟩
              rw [hm] at hbm hrm
              have HGm := hid hbm
              have HRm := hid hrm
              have HNm := hid hm
              have HO9 := hid HBa.out.one
              have hm0 : 0 < m := by rw [← hm]; simp
              have dm1 : decide ((0 : Int) < (m : Int)) = true := by simp; omega
              have dm2 : decide (0 < m) = true := by simp; omega
              have bm0 : 0 ≤ (0 : Int) ∧ (0 : Int) < (m : Int) := by omega
              obtain ⟨s1, s2⟩ := s
              clear hbm hrm hm p0 p1
              go_wp2_with (first
                | (go_at_call 16
                   with_reducible refine (one_next_some w _ HO9).mono ?_
                   rintro e w9 ⟨rfl, HK9⟩
                   have HB10 := hid (HBa.out.keep0 HK9.out)
                   have HG10 := hid (HK9.out.box HGm.out (by simp))
                   have c90 : w9.cell? ⟨G, 0, none⟩ = some (.slice (some ⟨bm, om, none⟩) m cm) := HG10.out.cell 0
                   obtain ⟨b', o', e', p0, p1⟩ := (HRm.out.keep0 HK9.out).at (j := 0) (x := (s1, s2)) rfl
                   injection e' with e'
                   injection e' with e1 e2 _
                   subst e1
                   subst e2
                   simp only [Nat.zero_mul, Nat.add_zero] at p0 p1
                   have Q17 : Hid (∀ d, Calls Try.prog 17 #[.pointer (some ⟨a, 0, none⟩)] (w9.drewN d) fun e w' => e = .returned (.int .i64 (m : Int)) ∧ w' = w9.drewN d) := hid (fun d => one_len w (w9.drewN d) HNm (hid (HB10.out.one.keep0 ((But.refl [] w9).drewN d))))))
              go_quiet (first | (go_at_call 17; first | (with_reducible exact quiet_v2 (Q17.out _)) | (with_reducible exact quiet_v (Q17.out _))))
              go_wp2
              have HB11 : Hid (Bo w (w9.drewN nq) a G ((s1, s2) :: R)) := hid (HB10.out.keep0 ((But.refl [] w9).drewN nq))
              go_roundw
              case rel => exact ⟨k + 1, _, by go_num, by omega, HB11⟩
              case measure => simp [intOf]; omega
    · go_wp2
      go_ret
      exact ⟨rfl, HB.out.one.bel⟩
end
end Go.Proofs.Ytdcohhfbifiemaa
