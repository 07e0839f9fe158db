import Derived.Test.YtdcohhfbifiemaaKJ
namespace Go.Proofs.Ytdcohhfbifiemaa
open Go.RowKit Go.Maps

theorem hp_cut {n : Nat} {L : List Tm} {x : Tm} (hl : L.length = n) (h : Hp n (L ++ [x])) : Hp n L := fun k h0 h1 a b ha hb => by
  have hp := par_lt h0
  exact h k h0 h1 a b (by rw [List.getElem?_append_left (by omega)]; exact ha) (by rw [List.getElem?_append_left (by omega)]; exact hb)
theorem hp_le {n m : Nat} {L : List Tm} (h : Hp m L) (hn : n ≤ m) : Hp n L := fun k h0 h1 => h k h0 (by omega)
theorem up_snoc {L : List Tm} {x : Tm} (h : Hp L.length L) : Up (L.length + 1) (L ++ [x]) L.length :=
  ⟨fun k h0 h1 hk a b ha hb => by
    have hp := par_lt h0
    rw [List.getElem?_append_left (by omega)] at ha hb
    exact h k h0 (by omega) a b ha hb, fun hi k h0 h1 hk => by
    have := par_lt h0
    exfalso
    omega⟩
theorem mv_last {n : Nat} {L L' : List Tm} {x : Tm} (h : Mv n L L') (hl : L.length = n + 1) (hx : L[n]? = some x) : ∃ L3, L' = L3 ++ [x] ∧ L3.length = n ∧ (L3 ++ [x]).Perm L := by
  have h1 := h.len
  have h2 := h.2 n (Nat.le_refl _)
  rw [hx] at h2
  have e : L' = L'.take n ++ [x] := by
    have hn : n < L'.length := by omega
    obtain ⟨_, h3⟩ := List.getElem?_eq_some_iff.1 h2
    have h4 := List.take_succ_eq_append_getElem hn
    rw [h3, List.take_of_length_le (by omega)] at h4
    exact h4
  exact ⟨L'.take n, e, by rw [List.length_take]; omega, by rw [← e]; exact h.1⟩
theorem ex_swap {n i : Nat} {L : List Tm} {x y : Tm} (hh : Hp (n + 1) L) (hl : L.length = n + 1) (hx : L[i]? = some x) (hi : i ≤ n) : Ex n (swp L i n x y) i := by
  have hg := fun k => swp_get L i n k x y (by omega) (by omega)
  refine ⟨fun k h0 h1 hk1 hk2 a b ha hb => ?_, fun hi0 k h0 h1 hk a b ha hb => ?_⟩
  · have hp := par_lt h0
    rw [hg, if_neg (by omega), if_neg hk2] at ha
    rw [hg, if_neg (by omega), if_neg hk1] at hb
    exact hh k h0 (by omega) a b ha hb
  · have hp := par_lt h0
    have hpi := par_lt hi0
    rw [hg, if_neg (by omega), if_neg (by omega)] at ha
    rw [hg, if_neg (by omega), if_neg (by omega)] at hb
    exact le_trans (hh i hi0 (by omega) a x ha hx) (hh k h0 (by omega) x b (by rw [hk]; exact hx) hb)
theorem ex_set {i : Nat} {L : List Tm} {x y : Tm} (hh : Hp L.length L) (hx : L[i]? = some x) : Ex L.length (L.set i y) i := by
  refine ⟨fun k h0 h1 hk1 hk2 a b ha hb => ?_, fun hi0 k h0 h1 hk a b ha hb => ?_⟩
  · rw [List.getElem?_set_ne (Ne.symm hk2)] at ha
    rw [List.getElem?_set_ne (Ne.symm hk1)] at hb
    exact hh k h0 h1 a b ha hb
  · have hp := par_lt h0
    have hpi := par_lt hi0
    obtain ⟨hi, _⟩ := List.getElem?_eq_some_iff.1 hx
    rw [List.getElem?_set_ne (by omega)] at ha
    rw [List.getElem?_set_ne (by omega)] at hb
    exact le_trans (hh i hi0 (by omega) a x ha hx) (hh k h0 h1 x b (by rw [hk]; exact hx) hb)
def OneL (L L' : List Tm) (x : Tm) : Prop := (L' ++ [x]).Perm L ∧ Hp L'.length L'
section
variable (w : World)
set_option maxHeartbeats 4000000 in
set_option maxRecDepth 100000 in
theorem hpush_any {H M : Nat} {rb : Option Nat} {L : List Tm} {x : Tm} (hp : Hid (Pl w H M rb L)) (hh : Hid (Hp L.length L)) (hx : Hid (∀ y ∈ L, y.1 ≠ x.1)) (ho : Hid (okI x.1 ∧ okI x.2)) (hl : Hid (L.length < 300)) :
    Calls Try.prog 20 #[hV H, .iface 61 (.agg #[.int .i64 x.1, .int .i64 x.2])] w fun e w' => e = .returned (.tuple #[]) ∧ Hid (∃ rb' L', Pl w' H M rb' L' ∧ Hp L'.length L' ∧ L'.Perm (L ++ [x]) ∧ (∀ y, rb' = some y → rb = some y ∨ w.heap.size ≤ y) ∧ But (plB H M rb) w w') := by
  have hm1 := mPush H
  have hm2 := mLen H
  obtain ⟨n, hn⟩ : ∃ n, L.length = n := ⟨_, rfl⟩
  have hn3 : n < 300 := by rw [← hn]; exact hl.out
  have HN : Hid ((L ++ [x]).length = n + 1) := hid (by simp [hn])
  have HUP : Hid (Up (n + 1) (L ++ [x]) n) := hid (by have := up_snoc (x := x) hh.out; rw [hn] at this; exact this)
  have e1 : ((n + 1 : Nat) : Int) - 1 = ((n : Nat) : Int) := by omega
  go_enter Try.func20, Try.ntmps20
  go_wp2_with (first
    | (go_at_call 45
       refine (ppush_any _ hp hx ho hl).mono ?_
       rintro e w1 ⟨rfl, hP1⟩
       obtain ⟨⟨rb1, hP1, hrb⟩, hK1⟩ := hP1.out
       obtain ⟨A1, c1, f1, hb1, hr1, hm1, hf1⟩ := hP1.body
       rw [HN.out] at hb1
       have HB1 := hid hb1
       have HP1 := hid hP1
       have HK1 := hid hK1
       have HRB := hid hrb
       clear hP1 hrb hK1 hb1 hr1 hm1 hf1)
    | (go_at_call 24
       refine (plen_any _ HB1).mono ?_
       rintro e w2 ⟨rfl, rfl⟩)
    | (go_at_call 26
       refine (up_any _ HP1 HUP (by omega) (hid (by rw [HN.out]; exact Nat.le_refl _))).mono ?_
       rintro e w3 ⟨rfl, L3, HP3, HH3, HM3, HK3⟩))
  go_end0
  refine ⟨rfl, rb1, L3, HP3.out, ?_, HM3.out.1, HRB.out, HK1.out.trans HK3.out (fun y hy => ?_)⟩
  · have := HH3.out
    rw [HM3.out.len, HN.out]
    exact this
  · simp only [plB, List.mem_cons] at hy ⊢
    rcases hy with hy | hy | hy
    · exact .inl (.inl hy)
    · exact .inl (.inr (.inl hy))
    · cases rb1 with
      | none => simp at hy
      | some z =>
        simp at hy
        subst hy
        rcases HRB.out y rfl with h | h
        · exact .inl (.inr (.inr (by rw [h]; simp)))
        · exact .inr h
end
end Go.Proofs.Ytdcohhfbifiemaa
