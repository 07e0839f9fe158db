import Derived.Test.YtidgbojgdllghaaRC
namespace Go.Proofs.Ytidgbojgdllghaa
open Go.RowKit

theorem dropped_rg {w w8 : World} {g h size front k nf : Nat} {cur : List Value} {q : List UInt8} (r : RgS w g h size front cur q) (hk : k ≤ q.length) (hn : (front + k) % size = nf)
    (hb : But [g] w w8) (hgh : g ≠ h) (hbox : Box w8 g 53 #[.slice (some ⟨h, 0, none⟩) size size, .int .i64 nf, .int .i64 ((front + q.length) % size : Nat), .int .i64 ((q.length : Int) - k)]) : Rg w8 g h size (q.drop k) := by
  have hl : (q.drop k).length = q.length - k := by simp
  refine ⟨nf, cur, ?_, hb.box r.row (by simpa using hgh.symm), r.len, r.pos, r.le, by rw [← hn]; exact Nat.mod_lt _ r.pos, by have := r.fit; omega, ?_⟩
  · have e1 : (nf + (q.drop k).length) % size = (front + q.length) % size := by
      rw [← hn, Nat.mod_add_mod, hl]
      congr 1
      omega
    rw [e1]
    have e2 : ((q.drop k).length : Int) = (q.length : Int) - k := by omega
    rw [e2]
    exact hbox
  · intro i hi
    have h1 := r.all (k + i) (by omega)
    rw [← hn, Nat.mod_add_mod, Nat.add_assoc, h1, List.getElem_drop]

set_option maxHeartbeats 2000000 in
set_option maxRecDepth 100000 in
theorem drop_any (w : World) {g h size : Nat} {q : List UInt8} (n : Int) (hr : Hid (Rg w g h size q)) :
    Calls Try.prog 20 #[.pointer (some ⟨g, 0, none⟩), .int .i64 n] w fun e w' => e = .returned (.int .i64 (had n q.length)) ∧ Hid (Rg w' g h size (q.drop (had n q.length))) ∧ Hid (But [g] w w') := by
  obtain ⟨m, HM⟩ : ∃ m, Hid (had n q.length = m) := ⟨_, hid rfl⟩
  have hm := had_le n q.length
  have HW := within_any w n hr
  rw [HM.out] at hm HW ⊢
  by_cases h0 : m = 0
  · subst h0
    go_enter Try.func20, Try.ntmps20
    go_wp2_with (first
      | (go_at_call 26
         ((with_reducible refine HW.mono ?_); rintro e w2 ⟨rfl, rfl⟩)))
    go_ret
    exact ⟨rfl, hr, But.refl _ _⟩
  · obtain ⟨front, cur, r⟩ := hr.out
    obtain ⟨hs1, hs2, hs3⟩ := hr.out.sizes
    have hgh := hr.out.ne
    have hfr := r.fr
    obtain ⟨nf, HNF⟩ : ∃ x, Hid ((front + m) % size = x) := ⟨_, hid rfl⟩
    obtain ⟨bk, HBK⟩ : ∃ x, Hid ((front + q.length) % size = x) := ⟨_, hid rfl⟩
    obtain ⟨ql, HQL⟩ : ∃ x, Hid (q.length = x) := ⟨_, hid rfl⟩
    have HML : Hid (m ≤ q.length) := hm
    have hbx := r.box
    rw [HBK.out, HQL.out] at hbx
    rw [HQL.out] at hm hs3
    have HBX := hid hbx
    have HR := hid r
    have HC : Hid (w.cell? ⟨g, 0, none⟩ = some (.slice (some ⟨h, 0, none⟩) size size)) := hbx.cell 0
    have c1 := hbx.cell 1
    have f1 := hbx.frozen 1
    have c3 := (hbx.store 1 (.int .i64 nf)).cell 3
    have f3 := (hbx.store 1 (.int .i64 nf)).frozen 3
    have i1 : ¬ ((m : Int) = 0) := by omega
    have i1' : ((m : Int) == 0) = false := by simp; omega
    clear r hbx
    go_enter Try.func20, Try.ntmps20
    go_wp2_with (first
      | (go_at_call 26
         ((with_reducible refine HW.mono ?_); rintro e w2 ⟨rfl, rfl⟩))
      | (go_at_call 27
         ((with_reducible refine (onward_any _ front m nf HC hs1 hs2 (by omega) (by omega) HNF).mono ?_); rintro e w5 ⟨rfl, rfl⟩)))
    go_ret
    refine ⟨rfl, dropped_rg HR.out HML.out HNF.out (((But.refl [g] _).store (.inl (by simp)) _).store (.inl (by simp)) _) hgh ?_, ((But.refl [g] _).store (.inl (by simp)) _).store (.inl (by simp)) _⟩
    rw [HBK.out, HQL.out]
    have hz := (HBX.out.store 1 (.int .i64 nf)).store 3 (.int .i64 ((ql : Int) - m))
    simpa using hz

set_option maxHeartbeats 2000000 in
set_option maxRecDepth 100000 in
theorem read_any (w : World) {g h size : Nat} {q : List UInt8} (n : Int) (hr : Hid (Rg w g h size q)) :
    Calls Try.prog 19 #[.pointer (some ⟨g, 0, none⟩), .int .i64 n] w fun e w' => ∃ A c, e = .returned (.slice A (had n q.length) c) ∧ Hid (w'.ownsRow w.heap.size 5 1 (.slice A (had n q.length) c) (had n q.length) (bv (q.take (had n q.length)))) ∧ Hid (Rg w' g h size (q.drop (had n q.length))) ∧ Hid (But [g] w w') := by
  obtain ⟨hl1, hl2⟩ := hr.out.lt
  go_enter Try.func19, Try.ntmps19
  go_wp2_with (first
    | (go_at_call 17
       ((with_reducible refine (peek_any _ n hr).mono ?_); rintro e w2 ⟨A, c, rfl, HO, HB⟩)
       have HR2 : Hid (Rg w2 g h size q) := hr.out.keep (But.of_below HB.out []) (by simp) (by simp))
    | (go_at_call 20
       ((with_reducible refine (drop_any _ n HR2).mono ?_); rintro e w3 ⟨rfl, HR3, HK3⟩)))
  go_ret
  refine ⟨A, c, rfl, HK3.out.own HO.out (fun k hk => ?_), HR3, (But.of_below HB.out _).same HK3.out⟩
  have := (HO.out.lt k hk).1
  simp
  omega

set_option maxHeartbeats 2000000 in
set_option maxRecDepth 100000 in
theorem clear_any (w : World) {g h size : Nat} {q : List UInt8} (hr : Hid (Rg w g h size q)) :
    Calls Try.prog 21 #[.pointer (some ⟨g, 0, none⟩)] w fun e w' => e = .returned (.tuple #[]) ∧ Hid (Rg w' g h size []) ∧ Hid (But [g] w w') := by
  go_enter Try.func21, Try.ntmps21
  go_wp2_with (first
    | (go_at_call 14
       ((with_reducible refine (len_any _ hr).mono ?_); rintro e w2 ⟨rfl, rfl⟩))
    | (go_at_call 20
       ((with_reducible refine (drop_any _ q.length hr).mono ?_); rintro e w3 ⟨rfl, HR3, HK3⟩)))
  go_end0
  refine ⟨rfl, ?_, HK3⟩
  have h1 := HR3.out
  have h2 : had (q.length : Int) q.length = q.length := by unfold had; omega
  rw [h2, List.drop_length] at h1
  exact h1

set_option maxHeartbeats 2000000 in
set_option maxRecDepth 100000 in
theorem new_bad (w : World) (n : Int) (hn : n < 1 ∨ 65536 < n) : Calls Try.prog 9 #[.int .i64 n] w fun e w' => e = .returned (.tuple #[.pointer none, .int .i64 2]) ∧ w' = w := by
  rcases hn with h | h
  · go_enter Try.func9, Try.ntmps9
    go_wp2
    go_ret2
    exact ⟨rfl, rfl⟩
  · have h1 : ¬ (n < 1) := by omega
    go_enter Try.func9, Try.ntmps9
    go_wp2
    go_ret2
    exact ⟨rfl, rfl⟩
set_option maxHeartbeats 2000000 in
set_option maxRecDepth 100000 in
theorem new_any (w : World) (n : Nat) (h1 : 1 ≤ n) (h2 : n ≤ 65536) : Calls Try.prog 9 #[.int .i64 n] w fun e w' => ∃ g, e = .returned (.tuple #[.pointer (some ⟨g, 0, none⟩), .int .i64 0]) ∧ ∃ h, Hid (Rg w' g h n []) ∧ w.heap.size ≤ g ∧ w.heap.size ≤ h ∧ Hid (Below w.heap.size w w') := by
  obtain ⟨Z, hZ, hmk⟩ := made n (by omega)
  have hmk := hmk w
  have k1 : ¬ ((n : Int) < 1) := by omega
  have k2 : ¬ ((65536 : Int) < n) := by omega
  go_enter Try.func9, Try.ntmps9
  go_wp2
  go_ret2
  have hb1 : Below w.heap.size w (w.alloc (.cells Z.toArray 5)) := (Below.refl _ _).alloc (Nat.le_refl _) _
  have hx1 := Box.new w 5 Z.toArray
  have hx2 := Box.new (w.alloc (.cells Z.toArray 5)) 53 #[.slice (some ⟨w.heap.size, 0, none⟩) n n, .int .i64 0, .int .i64 0, .int .i64 0]
  have e1 : (w.alloc (.cells Z.toArray 5)).heap.size = w.heap.size + 1 := by simp
  rw [e1] at hx2
  refine ⟨_, rfl, w.heap.size, ⟨0, Z, ?_, box_below hx1 ((Below.refl _ _).alloc (Nat.le_refl _) _), hZ, h1, h2, h1, Nat.zero_le _, fun i hi => by simp at hi⟩, by omega, Nat.le_refl _, hb1.alloc hb1.size _⟩
  simpa using hx2
end Go.Proofs.Ytidgbojgdllghaa
