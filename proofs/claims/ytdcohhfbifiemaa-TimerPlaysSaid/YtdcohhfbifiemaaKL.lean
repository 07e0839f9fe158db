import Derived.Test.YtdcohhfbifiemaaKK
namespace Go.Proofs.Ytdcohhfbifiemaa
open Go.RowKit Go.Maps

theorem Pl.hbox {w : World} {H M : Nat} {rb : Option Nat} {L : List Tm} (h : Pl w H M rb L) : ∃ A c, Box w H 59 #[.slice A L.length c, .map (some M)] := by
  obtain ⟨A, c, f, hb, _⟩ := h.body
  exact ⟨A, c, hb⟩
theorem lt_get {L : List Tm} {i : Nat} {x : Tm} (h : L[i]? = some x) : i < L.length := (List.getElem?_eq_some_iff.1 h).1
theorem dn_true {n i : Nat} {L L' : List Tm} (h : Dn n i L L' true) : Hp n L' := by simpa [Dn] using h
theorem dn_false {n i : Nat} {L L' : List Tm} (h : Hid (Dn n i L L' false)) : Hid (Up n L' i) := by
  have h1 : L' = L ∧ Up n L i := by simpa [Dn] using h.out
  exact hid (by rw [h1.1]; exact h1.2)
theorem dn_any {n : Nat} {L L' : List Tm} {b : Bool} (h : Dn n 0 L L' b) : Hp n L' := by
  cases b with
  | true => exact dn_true h
  | false => exact (dn_false (hid h)).out.heap (fun h => absurd h (by decide))
section
variable (w : World)
set_option maxHeartbeats 4000000 in
set_option maxRecDepth 100000 in
theorem hfix_any {H M i : Nat} {rb : Option Nat} {L : List Tm} (hp : Hid (Pl w H M rb L)) (hh : Hid (Ex L.length L i)) (hi : Hid (i < L.length)) :
    Calls Try.prog 19 #[hV H, .int .i64 i] w fun e w' => e = .returned (.tuple #[]) ∧ Hid (∃ L', Pl w' H M rb L' ∧ Hp L'.length L' ∧ L'.Perm L ∧ But (plB H M rb) w w') := by
  have hm2 := mLen H
  obtain ⟨A, c, hb⟩ := hp.out.hbox
  obtain ⟨n, hn⟩ : ∃ n, L.length = n := ⟨_, rfl⟩
  rw [hn] at hb
  have HN := hid hn
  have HB := hid hb
  have hin : i ≤ n := by have := hi.out; omega
  have hin2 : i < n := by have := hi.out; omega
  have HE : Hid (Ex n L i) := hid (by have := hh.out; rw [hn] at this; exact this)
  have HNL : Hid (n ≤ L.length) := hid (by omega)
  clear hb hn
  go_enter Try.func19, Try.ntmps19
  go_wp2_with (first
    | (go_at_call 24
       refine (plen_any _ HB).mono ?_
       rintro e w1 ⟨rfl, rfl⟩)
    | (go_at_call 25
       refine (down_any _ hp HE hin HNL).mono ?_
       rintro e w2 ⟨b, L2, rfl, HP2, HD2, HM2, HK2⟩
       cases b)
    | (go_at_call 26
       refine (up_any _ HP2 (dn_false HD2) hin2 (hid (by rw [HM2.out.len]; exact HNL.out))).mono ?_
       rintro e w3 ⟨rfl, L3, HP3, HH3, HM3, HK3⟩))
  · go_end0
    exact ⟨rfl, L3, HP3.out, by have := HM2.out.trans HM3.out; have h2 := HH3.out; rw [this.len, HN.out]; exact h2, (HM2.out.trans HM3.out).1, HK2.out.same HK3.out⟩
  · go_end0
    exact ⟨rfl, L2, HP2.out, by have h2 := dn_true HD2.out; rw [HM2.out.len, HN.out]; exact h2, HM2.out.1, HK2.out⟩
set_option maxHeartbeats 4000000 in
set_option maxRecDepth 100000 in
theorem hpop_any {H M : Nat} {rb : Option Nat} {L : List Tm} {x : Tm} (hp : Hid (Pl w H M rb L)) (hh : Hid (Hp L.length L)) (hx : Hid (L[0]? = some x)) :
    Calls Try.prog 23 #[hV H] w fun e w' => e = .returned (.iface 61 (.agg #[.int .i64 x.1, .int .i64 x.2])) ∧ Hid (∃ L', Pl w' H M rb L' ∧ OneL L L' x ∧ But (plB H M rb) w w') := by
  have hm1 := mSwap H
  have hm2 := mLen H
  have hm3 := mPop H
  obtain ⟨A, c, hb⟩ := hp.out.hbox
  have hl0 := lt_get hx.out
  obtain ⟨n, hn⟩ : ∃ n, L.length = n + 1 := ⟨L.length - 1, by omega⟩
  rw [hn] at hb
  have HN := hid hn
  have HB := hid hb
  have hcnt := hp.out.cnt
  have hn3 : n ≤ 300 := by omega
  have e1 : ((n + 1 : Nat) : Int) - 1 = ((n : Nat) : Int) := by omega
  have HY0 : Hid (∃ y, L[n]? = some y) := hid ⟨_, List.getElem?_eq_getElem (by omega)⟩
  obtain ⟨y, hy⟩ := HY0.out
  have HY := hid hy
  have HX0 : Hid (L[((0 : Nat))]? = some x) := hx
  have HE : Hid (Ex n (swp L 0 n x y) 0) := hid (ex_swap (by have := hh.out; rw [hn] at this; exact this) hn hx.out (Nat.zero_le _))
  have HL1 : Hid (n ≤ (swp L 0 n x y).length) := hid (by rw [swp_length]; omega)
  have HL2 : Hid ((swp L 0 n x y).length = n + 1) := hid (by rw [swp_length]; omega)
  have HL3 : Hid ((swp L 0 n x y)[n]? = some x) := hid (by rw [swp_get L 0 n n x y (by omega) (by omega), if_pos rfl])
  have HPM : Hid ((swp L 0 n x y).Perm L) := hid (swp_perm hx.out hy)
  clear hb hn hl0 hcnt HY0 hy
  go_enter Try.func23, Try.ntmps23
  go_wp2_with (first
    | (go_at_call 24
       refine (plen_any _ HB).mono ?_
       rintro e w1 ⟨rfl, rfl⟩)
    | (go_at_call 46
       refine (swap_any w1 (i := 0) (j := n) hp HX0 HY).mono ?_
       rintro e w2 ⟨rfl, HP2, HK2⟩)
    | (go_at_call 25
       refine (down_any _ (i := 0) HP2 HE (Nat.zero_le _) HL1).mono ?_
       rintro e w3 ⟨b, L3, rfl, HP3, HD3, HM3, HK3⟩
       obtain ⟨L4, rfl, hl4, hp4⟩ := mv_last HM3.out HL2.out HL3.out
       have HL4 := hid hl4
       have HP4 := hid (hp4.trans HPM.out)
       have HH4 := hid (hp_cut hl4 (dn_any HD3.out))
       clear hl4 hp4)
    | (go_at_call 44
       refine (ppop_any _ HP3).mono ?_
       rintro e w4 ⟨rfl, HP5, HK5⟩))
  go_ret
  exact ⟨rfl, L4, HP5.out, ⟨HP4.out, by rw [HL4.out]; exact HH4.out⟩, (HK2.out.same HK3.out).same HK5.out⟩
set_option maxHeartbeats 4000000 in
set_option maxRecDepth 100000 in
theorem hrem_any {H M i : Nat} {rb : Option Nat} {L : List Tm} {x : Tm} (hp : Hid (Pl w H M rb L)) (hh : Hid (Hp L.length L)) (hx : Hid (L[i]? = some x)) :
    Calls Try.prog 22 #[hV H, .int .i64 i] w fun e w' => e = .returned (.iface 61 (.agg #[.int .i64 x.1, .int .i64 x.2])) ∧ Hid (∃ L', Pl w' H M rb L' ∧ OneL L L' x ∧ But (plB H M rb) w w') := by
  have hm1 := mSwap H
  have hm2 := mLen H
  have hm3 := mPop H
  obtain ⟨A, c, hb⟩ := hp.out.hbox
  have hl0 := lt_get hx.out
  obtain ⟨n, hn⟩ : ∃ n, L.length = n + 1 := ⟨L.length - 1, by omega⟩
  rw [hn] at hb
  have HN := hid hn
  have HB := hid hb
  have hcnt := hp.out.cnt
  have hn3 : n ≤ 300 := by omega
  have e1 : ((n + 1 : Nat) : Int) - 1 = ((n : Nat) : Int) := by omega
  have HH : Hid (Hp (n + 1) L) := hid (by have := hh.out; rw [hn] at this; exact this)
  have hin : i ≤ n := by omega
  by_cases hi : i = n
  · subst hi
    obtain ⟨L4, hL4, hl4, hp4⟩ := mv_last (Mv.refl i L) hn hx.out
    subst hL4
    have t1 : ((i : Int) != i) = false := by simp
    have HL4 := hid hl4
    have HH4 := hid (hp_cut hl4 (hp_le HH.out (by omega)))
    clear hb hn hl0 hcnt hl4 hp4
    go_enter Try.func22, Try.ntmps22
    go_wp2_with (first
      | (go_at_call 24
         refine (plen_any _ HB).mono ?_
         rintro e w1 ⟨rfl, rfl⟩)
      | (go_at_call 44
         refine (ppop_any _ hp).mono ?_
         rintro e w4 ⟨rfl, HP5, HK5⟩))
    go_ret
    exact ⟨rfl, L4, HP5.out, ⟨List.Perm.refl _, by rw [HL4.out]; exact HH4.out⟩, HK5.out⟩
  · have hin2 : i < n := by omega
    have t1 : ((n : Int) != i) = true := by simp; omega
    have HY0 : Hid (∃ y, L[n]? = some y) := hid ⟨_, List.getElem?_eq_getElem (by omega)⟩
    obtain ⟨y, hy⟩ := HY0.out
    have HY := hid hy
    have HE : Hid (Ex n (swp L i n x y) i) := hid (ex_swap HH.out hn hx.out hin)
    have HL1 : Hid (n ≤ (swp L i n x y).length) := hid (by rw [swp_length]; omega)
    have HL2 : Hid ((swp L i n x y).length = n + 1) := hid (by rw [swp_length]; omega)
    have HL3 : Hid ((swp L i n x y)[n]? = some x) := hid (by rw [swp_get L i n n x y (by omega) (by omega), if_pos rfl])
    have HPM : Hid ((swp L i n x y).Perm L) := hid (swp_perm hx.out hy)
    clear hb hn hl0 hcnt HY0 hy
    go_enter Try.func22, Try.ntmps22
    go_wp2_with (first
      | (go_at_call 24
         refine (plen_any _ HB).mono ?_
         rintro e w1 ⟨rfl, rfl⟩)
      | (go_at_call 46
         refine (swap_any w1 hp hx HY).mono ?_
         rintro e w2 ⟨rfl, HP2, HK2⟩)
      | (go_at_call 25
         refine (down_any _ HP2 HE hin HL1).mono ?_
         rintro e w3 ⟨b, L3, rfl, HP3, HD3, HM3, HK3⟩
         cases b)
      | (go_at_call 26
         refine (up_any _ HP3 (dn_false HD3) hin2 (hid (by rw [HM3.out.len]; exact HL1.out))).mono ?_
         rintro e w4 ⟨rfl, L5, HP5, HH5, HM5, HK5⟩
         obtain ⟨L4, rfl, hl4, hp4⟩ := mv_last (HM3.out.trans HM5.out) HL2.out HL3.out
         have HL4 := hid hl4
         have HP4 := hid (hp4.trans HPM.out)
         have HH4 := hid (hp_cut hl4 HH5.out)
         clear hl4 hp4)
      | (go_at_call 44
         refine (ppop_any _ HP5).mono ?_
         rintro e w6 ⟨rfl, HP6, HK6⟩))
    · go_ret
      exact ⟨rfl, L4, HP6.out, ⟨HP4.out, by rw [HL4.out]; exact HH4.out⟩, ((HK2.out.same HK3.out).same HK5.out).same HK6.out⟩
    · obtain ⟨L4, rfl, hl4, hp4⟩ := mv_last HM3.out HL2.out HL3.out
      have HL4 := hid hl4
      have HP4 := hid (hp4.trans HPM.out)
      have HH4 := hid (hp_cut hl4 (dn_true HD3.out))
      clear hl4 hp4
      go_wp2_with (first
        | (go_at_call 44
           refine (ppop_any _ HP3).mono ?_
           rintro e w6 ⟨rfl, HP6, HK6⟩))
      go_ret
      exact ⟨rfl, L4, HP6.out, ⟨HP4.out, by rw [HL4.out]; exact HH4.out⟩, (HK2.out.same HK3.out).same HK6.out⟩
end
end Go.Proofs.Ytdcohhfbifiemaa
