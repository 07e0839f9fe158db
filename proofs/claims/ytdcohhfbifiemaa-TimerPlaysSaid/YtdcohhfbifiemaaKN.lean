import Derived.Test.YtdcohhfbifiemaaKM
namespace Go.Proofs.Ytdcohhfbifiemaa
open Go.RowKit Go.Maps

section
variable (w : World)
set_option maxHeartbeats 1000000 in
theorem noplaces_any : Calls Try.prog 18 #[] w fun e w' => ∃ H M, e = .returned (.pointer (some ⟨H, 0, none⟩)) ∧ Hid (Pl w' H M none []) ∧ w.heap.size ≤ H ∧ w.heap.size ≤ M ∧ Hid (Below w.heap.size w w') := by
  have hmm := @run_makeMap Try.prog
  go_enter Try.func18, Try.ntmps18
  go_wp2
  go_ret
  refine ⟨_, w.heap.size, rfl, ⟨by simp, by simp, List.Pairwise.nil, none, 0, fun _ => none, by have := Box.new (w.alloc (.map #[] 0)) 59 #[.slice none 0 0, .map (some w.heap.size)]; simpa using this, Rw.nil _, (Mp.made w 3).keep ((But.refl [] _).alloc _) (by simp), ⟨fun j x h => by simp at h, fun a v h => by cases h⟩⟩, by simp, Nat.le_refl _, ((Below.refl _ _).alloc (Nat.le_refl _) _).alloc (by simp) _⟩
set_option maxHeartbeats 1000000 in
theorem new_any : Calls Try.prog 8 #[] w fun e w' => ∃ T H M, e = .returned (.pointer (some ⟨T, 0, none⟩)) ∧ Hid (Tr w' T H M none []) ∧ w.heap.size ≤ T ∧ w.heap.size ≤ H ∧ w.heap.size ≤ M ∧ Hid (Below w.heap.size w w') := by
  go_enter Try.func8, Try.ntmps8
  go_wp2_with (first
    | (go_at_call 18
       refine (noplaces_any _).mono ?_
       rintro e w1 ⟨H, M, rfl, HP, hH, hM, HB⟩))
  go_ret
  exact ⟨_, H, M, rfl, ⟨Box.new _ _ _, ⟨[], HP.out.keep0 ((But.refl [] _).alloc _), fun k h0 h1 => absurd h1 (by simp), List.Perm.refl _⟩, List.Pairwise.nil, by simp⟩, HB.out.size, hH, hM, HB.out.alloc HB.out.size _⟩
set_option maxHeartbeats 1000000 in
theorem len_nil : Calls Try.prog 17 #[.pointer none] w fun e w' => e = .returned (.int .i64 0) ∧ w' = w := by
  go_enter Try.func17, Try.ntmps17
  go_wp2
  go_ret
  exact ⟨rfl, rfl⟩
set_option maxHeartbeats 1000000 in
theorem set_nil (a b : Int) : Calls Try.prog 9 #[.pointer none, .int .i64 a, .int .i64 b] w fun e w' => e = .returned (.int .i64 1) ∧ w' = w := by
  go_enter Try.func9, Try.ntmps9
  go_wp2
  go_ret
  exact ⟨rfl, rfl⟩
set_option maxHeartbeats 1000000 in
theorem len_any {T H M n : Nat} {rb : Option Nat} {S : List Tm} (hn : Hid (S.length = n)) (ht : Hid (Tr w T H M rb S)) : Calls Try.prog 17 #[.pointer (some ⟨T, 0, none⟩)] w fun e w' => e = .returned (.int .i64 n) ∧ w' = w := by
  have c0 := ht.out.box.cell 0
  obtain ⟨L, h1, _, h3⟩ := ht.out.body
  obtain ⟨A, c, hb⟩ := h1.hbox
  rw [h3.length_eq, hn.out] at hb
  have HB := hid hb
  clear hb h1 h3
  go_enter Try.func17, Try.ntmps17
  go_wp2_with (first
    | (go_at_call 24
       refine (plen_any _ HB).mono ?_
       rintro e w1 ⟨rfl, rfl⟩))
  go_ret
  exact ⟨rfl, rfl⟩
set_option maxHeartbeats 1000000 in
theorem next_none {T H M : Nat} {rb : Option Nat} (ht : Hid (Tr w T H M rb [])) : Calls Try.prog 16 #[.pointer (some ⟨T, 0, none⟩)] w fun e w' => e = .returned (.tuple #[.int .i64 0, .int .i64 0, .bool false]) ∧ Hid (But [] w w') := by
  have h0 : Hid (([] : List Tm).length = 0) := hid rfl
  go_enter Try.func16, Try.ntmps16
  go_wp2_with (first
    | (go_at_call 17
       refine (len_any _ h0 ht).mono ?_
       rintro e w1 ⟨rfl, rfl⟩))
  go_ret3
  exact ⟨rfl, But.refl _ _⟩
set_option maxHeartbeats 1000000 in
theorem next_some {T H M : Nat} {rb : Option Nat} {s : Tm} {S : List Tm} (ht : Hid (Tr w T H M rb (s :: S))) : Calls Try.prog 16 #[.pointer (some ⟨T, 0, none⟩)] w fun e w' => e = .returned (.tuple #[.int .i64 s.1, .int .i64 s.2, .bool true]) ∧ Hid (But [] w w') := by
  obtain ⟨n, hn⟩ : ∃ n, S.length = n := ⟨_, rfl⟩
  have h0 : Hid ((s :: S).length = n + 1) := hid (by simp [hn])
  have t1 : (((n + 1 : Nat) : Int) == 0) = false := by simp; omega
  have b0 : 0 ≤ (0 : Int) ∧ (0 : Int) < ((n + 1 : Nat) : Int) := by omega
  have c0 := ht.out.box.cell 0
  obtain ⟨L, h1, h2, h3⟩ := ht.out.body
  obtain ⟨A, c, f, hb, hr, hm, hf⟩ := h1.body
  have hhd := hp_head h2 h3 ht.out.srt
  rw [h3.length_eq, h0.out] at hb hr
  obtain ⟨r, cur, rfl, rfl, hbr, hsz, hc⟩ := hr.some_ (by omega)
  obtain ⟨hl, hs⟩ := List.getElem?_eq_some_iff.1 (hhd.trans (rfl : (s :: S).head? = some s))
  have hc0 := hc 0 hl
  rw [hs] at hc0
  have r0 : w.cell? ⟨r, 0, none⟩ = _ := (hbr.cell 0).trans hc0.1
  have r1 : w.cell? ⟨r, 1, none⟩ = _ := (hbr.cell 1).trans hc0.2
  have k0 : w.cell? ⟨H, 0, none⟩ = some (.slice (some ⟨r, 0, none⟩) (n + 1) c) := hb.cell 0
  obtain ⟨s1, s2⟩ := s
  simp only at r0 r1
  clear h1 h2 h3 hb hr hm hf hhd hbr hsz hc hs hl hc0 hn
  go_enter Try.func16, Try.ntmps16
  go_wp2_with (first
    | (go_at_call 17
       refine (len_any _ h0 ht).mono ?_
       rintro e w1 ⟨rfl, rfl⟩))
  have HX : Hid (Box (w1.alloc (.cells #[.int .i64 s1, .int .i64 s2] 61)) w1.heap.size 61 #[.int .i64 s1, .int .i64 s2]) := Box.new _ _ _
  have HK : Hid (But [] w1 (w1.alloc (.cells #[.int .i64 s1, .int .i64 s2] 61))) := (But.refl [] _).alloc _
  generalize (w1.alloc (.cells #[.int .i64 s1, .int .i64 s2] 61)) = w2 at HX HK ⊢
  generalize w1.heap.size = g at HX ⊢
  have g0 : w2.cell? ⟨g, 0, none⟩ = some (.int .i64 s1) := HX.out.cell 0
  have g1 : w2.cell? ⟨g, 1, none⟩ = some (.int .i64 s2) := HX.out.cell 1
  have g2 : w2.drew.cell? ⟨g, 0, none⟩ = some (.int .i64 s1) := HX.out.cell 0
  have g3 : w2.drew.cell? ⟨g, 1, none⟩ = some (.int .i64 s2) := HX.out.cell 1
  go_region
  all_goals
    go_wp2
    go_ret3
    exact ⟨rfl, HK.out.drew⟩
end
end Go.Proofs.Ytdcohhfbifiemaa
