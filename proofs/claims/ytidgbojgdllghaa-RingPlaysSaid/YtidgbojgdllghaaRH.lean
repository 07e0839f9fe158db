import Derived.Test.YtidgbojgdllghaaRD
namespace Go.Proofs.Ytidgbojgdllghaa
open Go.RowKit

/-- What a step answers, and what is in the ring behind it. -/
def stepF (size : Nat) (k n : Int) (b q : List UInt8) : List UInt8 × Nat × List UInt8 :=
  if k = 1 then ([], min b.length (size - q.length), q ++ b.take (min b.length (size - q.length)))
  else if k = 2 then (q.take (had n q.length), 0, q.drop (had n q.length))
  else if k = 3 then (q.take (had n q.length), 0, q)
  else if k = 4 then ([], had n q.length, q.drop (had n q.length))
  else if k = 5 then ([], 0, [])
  else ([], 0, q)
theorem slb_al {w : World} {A : Option Addr} {c : Nat} {bs : List UInt8} (h : Hid (SlB w w.heap.size A c bs)) (o : Obj) : Hid (SlB (w.alloc o) (w.alloc o).heap.size A c bs) :=
  slb_at h (hid ((Below.refl w.heap.size w).alloc (Nat.le_refl _) o))
theorem rg_al {w : World} {g h size : Nat} {q : List UInt8} (hr : Hid (Rg w g h size q)) (o : Obj) : Hid (Rg (w.alloc o) g h size q) :=
  hr.out.keep ((But.refl [] w).alloc o) (by simp) (by simp)
theorem but_al {L : List Nat} {w w' : World} {o : Obj} (h : But L (w.alloc o) w') (_hL : ∀ x ∈ L, x < w.heap.size) : But L w w' := ((But.refl L w).alloc o).same h
theorem own_al {w w' : World} {o : Obj} {e : TypeId} {n : Nat} {v : Value} {xs : List Value} (h : w'.ownsRow (w.alloc o).heap.size e 1 v n xs) : w'.ownsRow w.heap.size e 1 v n xs := own_mono h (by simp)
/-- What a step answers, in a world. -/
structure StepR (w w' : World) (g h size : Nat) (out q' : List UInt8) (l : Nat) (A : Option Addr) (c : Nat) : Prop where
  own : w'.ownsRow w.heap.size 5 1 (.slice A l c) l (bv out)
  rg : Rg w' g h size q'
  but : But [g, h] w w'

set_option maxHeartbeats 2000000 in
set_option maxRecDepth 100000 in
theorem do_1 (w : World) {g h size c l m : Nat} {q b out q' : List UInt8} {A : Option Addr} (n : Int) (hr : Hid (Rg w g h size q)) (hb : Hid (SlB w w.heap.size A c b)) (hA : Hid (b ≠ [] → ∀ a, A = some a → a.block ≠ h)) (bl : Nat) (hbl : Hid (b.length = bl)) (hs : Hid (stepF size 1 n b q = (out, m, q'))) (hl : Hid (out.length = l)) :
    Calls Try.prog 11 #[.pointer (some ⟨g, 0, none⟩), .agg #[.int .i64 1, .int .i64 n, .slice A bl c]] w fun e w' => ∃ A' c', e = .returned (.tuple #[.slice A' l c', .int .i64 m]) ∧ Hid (StepR w w' g h size out q' l A' c') := by
  have hb0 := hbl.out
  subst hb0
  have hlt := hr.out.lt
  have HRa := rg_al hr (.cells #[.int .i64 1, .int .i64 n, .slice A b.length c] 34)
  have hs0 := hs.out
  rw [stepF, if_pos rfl] at hs0
  injection hs0 with e1 e2
  injection e2 with e2 e3
  have hl0 := hl.out
  have E1 := hid e1
  have E2 := hid e2
  have E3 := hid e3
  clear e1 e2 e3
  have HBa := slb_al hb (.cells #[.int .i64 1, .int .i64 n, .slice A b.length c] 34)
  have HMm : Hid (m = min b.length (size - q.length)) := E2.out.symm
  go_enter Try.func11, Try.ntmps11
  go_wp2_with (first
    | (go_at_call 18
       ((with_reducible refine (write_any _ m HMm.out HRa HBa hA.out).mono ?_); rintro e w2 ⟨rfl, HR2, HK2⟩)))
  go_ret2
  have e1 := E1.out
  subst e1
  have hl1 : l = 0 := by rw [← hl0]; rfl
  subst hl1
  refine ⟨none, 0, rfl, ⟨World.ownsRow_nil _ _ _ _, ?_, but_al HK2.out (by simp [hlt])⟩⟩
  have h2 := HR2.out
  rw [← E3.out, E2.out]
  exact h2
set_option maxHeartbeats 2000000 in
set_option maxRecDepth 100000 in
theorem do_2 (w : World) {g h size c l m : Nat} {q b out q' : List UInt8} {A : Option Addr} (n : Int) (hr : Hid (Rg w g h size q)) (_hb : Hid (SlB w w.heap.size A c b)) (_hA : Hid (b ≠ [] → ∀ a, A = some a → a.block ≠ h)) (bl : Nat) (hbl : Hid (b.length = bl)) (hs : Hid (stepF size 2 n b q = (out, m, q'))) (hl : Hid (out.length = l)) :
    Calls Try.prog 11 #[.pointer (some ⟨g, 0, none⟩), .agg #[.int .i64 2, .int .i64 n, .slice A bl c]] w fun e w' => ∃ A' c', e = .returned (.tuple #[.slice A' l c', .int .i64 m]) ∧ Hid (StepR w w' g h size out q' l A' c') := by
  have hb0 := hbl.out
  subst hb0
  have hlt := hr.out.lt
  have HRa := rg_al hr (.cells #[.int .i64 2, .int .i64 n, .slice A b.length c] 34)
  have hs0 := hs.out
  rw [stepF, if_neg (by decide), if_pos rfl] at hs0
  injection hs0 with e1 e2
  injection e2 with e2 e3
  have hl0 := hl.out
  have E1 := hid e1
  have E2 := hid e2
  have E3 := hid e3
  clear e1 e2 e3
  go_enter Try.func11, Try.ntmps11
  go_wp2_with (first
    | (go_at_call 19
       ((with_reducible refine (read_any _ n HRa).mono ?_); rintro e w2 ⟨A2, c2, rfl, HO2, HR2, HK2⟩)))
  go_ret2
  have e1 := E1.out
  have hl1 : l = had n q.length := by
    rw [← hl0, ← e1, List.length_take]
    have := had_le n q.length
    omega
  have e2 := E2.out
  subst hl1
  subst e2
  refine ⟨A2, c2, rfl, ⟨?_, ?_, but_al (HK2.out.mono (by simp)) (by simp [hlt])⟩⟩
  · rw [← e1]; exact own_al HO2.out
  · rw [← E3.out]; exact HR2.out
set_option maxHeartbeats 2000000 in
set_option maxRecDepth 100000 in
theorem do_3 (w : World) {g h size c l m : Nat} {q b out q' : List UInt8} {A : Option Addr} (n : Int) (hr : Hid (Rg w g h size q)) (_hb : Hid (SlB w w.heap.size A c b)) (_hA : Hid (b ≠ [] → ∀ a, A = some a → a.block ≠ h)) (bl : Nat) (hbl : Hid (b.length = bl)) (hs : Hid (stepF size 3 n b q = (out, m, q'))) (hl : Hid (out.length = l)) :
    Calls Try.prog 11 #[.pointer (some ⟨g, 0, none⟩), .agg #[.int .i64 3, .int .i64 n, .slice A bl c]] w fun e w' => ∃ A' c', e = .returned (.tuple #[.slice A' l c', .int .i64 m]) ∧ Hid (StepR w w' g h size out q' l A' c') := by
  have hb0 := hbl.out
  subst hb0
  have hlt := hr.out.lt
  have HRa := rg_al hr (.cells #[.int .i64 3, .int .i64 n, .slice A b.length c] 34)
  have hs0 := hs.out
  rw [stepF, if_neg (by decide), if_neg (by decide), if_pos rfl] at hs0
  injection hs0 with e1 e2
  injection e2 with e2 e3
  have hl0 := hl.out
  have E1 := hid e1
  have E2 := hid e2
  have E3 := hid e3
  clear e1 e2 e3
  go_enter Try.func11, Try.ntmps11
  go_wp2_with (first
    | (go_at_call 17
       ((with_reducible refine (peek_any _ n HRa).mono ?_); rintro e w2 ⟨A2, c2, rfl, HO2, HB2⟩)))
  go_ret2
  have e1 := E1.out
  have hl1 : l = had n q.length := by
    rw [← hl0, ← e1, List.length_take]
    have := had_le n q.length
    omega
  have e2 := E2.out
  subst hl1
  subst e2
  refine ⟨A2, c2, rfl, ⟨?_, ?_, but_al (But.of_below HB2.out _) (by simp [hlt])⟩⟩
  · rw [← e1]; exact own_al HO2.out
  · rw [← E3.out]; exact HRa.out.keep (But.of_below HB2.out []) (by simp) (by simp)
set_option maxHeartbeats 2000000 in
set_option maxRecDepth 100000 in
theorem do_4 (w : World) {g h size c l m : Nat} {q b out q' : List UInt8} {A : Option Addr} (n : Int) (hr : Hid (Rg w g h size q)) (_hb : Hid (SlB w w.heap.size A c b)) (_hA : Hid (b ≠ [] → ∀ a, A = some a → a.block ≠ h)) (bl : Nat) (hbl : Hid (b.length = bl)) (hs : Hid (stepF size 4 n b q = (out, m, q'))) (hl : Hid (out.length = l)) :
    Calls Try.prog 11 #[.pointer (some ⟨g, 0, none⟩), .agg #[.int .i64 4, .int .i64 n, .slice A bl c]] w fun e w' => ∃ A' c', e = .returned (.tuple #[.slice A' l c', .int .i64 m]) ∧ Hid (StepR w w' g h size out q' l A' c') := by
  have hb0 := hbl.out
  subst hb0
  have hlt := hr.out.lt
  have HRa := rg_al hr (.cells #[.int .i64 4, .int .i64 n, .slice A b.length c] 34)
  have hs0 := hs.out
  rw [stepF, if_neg (by decide), if_neg (by decide), if_neg (by decide), if_pos rfl] at hs0
  injection hs0 with e1 e2
  injection e2 with e2 e3
  have hl0 := hl.out
  have E1 := hid e1
  have E2 := hid e2
  have E3 := hid e3
  clear e1 e2 e3
  go_enter Try.func11, Try.ntmps11
  go_wp2_with (first
    | (go_at_call 20
       ((with_reducible refine (drop_any _ n HRa).mono ?_); rintro e w2 ⟨rfl, HR2, HK2⟩)))
  go_ret2
  have e1 := E1.out
  subst e1
  have hl1 : l = 0 := by rw [← hl0]; rfl
  subst hl1
  have e2 := E2.out
  subst e2
  refine ⟨none, 0, rfl, ⟨World.ownsRow_nil _ _ _ _, ?_, but_al (HK2.out.mono (by simp)) (by simp [hlt])⟩⟩
  rw [← E3.out]
  exact HR2.out
set_option maxHeartbeats 2000000 in
set_option maxRecDepth 100000 in
theorem do_5 (w : World) {g h size c l m : Nat} {q b out q' : List UInt8} {A : Option Addr} (n : Int) (hr : Hid (Rg w g h size q)) (_hb : Hid (SlB w w.heap.size A c b)) (_hA : Hid (b ≠ [] → ∀ a, A = some a → a.block ≠ h)) (bl : Nat) (hbl : Hid (b.length = bl)) (hs : Hid (stepF size 5 n b q = (out, m, q'))) (hl : Hid (out.length = l)) :
    Calls Try.prog 11 #[.pointer (some ⟨g, 0, none⟩), .agg #[.int .i64 5, .int .i64 n, .slice A bl c]] w fun e w' => ∃ A' c', e = .returned (.tuple #[.slice A' l c', .int .i64 m]) ∧ Hid (StepR w w' g h size out q' l A' c') := by
  have hb0 := hbl.out
  subst hb0
  have hlt := hr.out.lt
  have HRa := rg_al hr (.cells #[.int .i64 5, .int .i64 n, .slice A b.length c] 34)
  have hs0 := hs.out
  rw [stepF, if_neg (by decide), if_neg (by decide), if_neg (by decide), if_neg (by decide), if_pos rfl] at hs0
  injection hs0 with e1 e2
  injection e2 with e2 e3
  have hl0 := hl.out
  have E1 := hid e1
  have E2 := hid e2
  have E3 := hid e3
  clear e1 e2 e3
  go_enter Try.func11, Try.ntmps11
  go_wp2_with (first
    | (go_at_call 21
       ((with_reducible refine (clear_any _ HRa).mono ?_); rintro e w2 ⟨rfl, HR2, HK2⟩)))
  go_ret2
  have e1 := E1.out
  subst e1
  have hl1 : l = 0 := by rw [← hl0]; rfl
  subst hl1
  have e2 := E2.out
  subst e2
  refine ⟨none, 0, rfl, ⟨World.ownsRow_nil _ _ _ _, ?_, but_al (HK2.out.mono (by simp)) (by simp [hlt])⟩⟩
  rw [← E3.out]
  exact HR2.out
set_option maxHeartbeats 2000000 in
set_option maxRecDepth 100000 in
theorem do_else (w : World) {g h size c l m : Nat} {q b out q' : List UInt8} {A : Option Addr} (k n : Int) (hk : k ≠ 1 ∧ k ≠ 2 ∧ k ≠ 3 ∧ k ≠ 4 ∧ k ≠ 5) (hr : Hid (Rg w g h size q)) (_hb : Hid (SlB w w.heap.size A c b)) (_hA : Hid (b ≠ [] → ∀ a, A = some a → a.block ≠ h)) (bl : Nat) (hbl : Hid (b.length = bl)) (hs : Hid (stepF size k n b q = (out, m, q'))) (hl : Hid (out.length = l)) :
    Calls Try.prog 11 #[.pointer (some ⟨g, 0, none⟩), .agg #[.int .i64 k, .int .i64 n, .slice A bl c]] w fun e w' => ∃ A' c', e = .returned (.tuple #[.slice A' l c', .int .i64 m]) ∧ Hid (StepR w w' g h size out q' l A' c') := by
  have hb0 := hbl.out
  subst hb0
  have hlt := hr.out.lt
  have HRa := rg_al hr (.cells #[.int .i64 k, .int .i64 n, .slice A b.length c] 34)
  have hs0 := hs.out
  obtain ⟨n1, n2, n3, n4, n5⟩ := hk
  rw [stepF, if_neg n1, if_neg n2, if_neg n3, if_neg n4, if_neg n5] at hs0
  injection hs0 with e1 e2
  injection e2 with e2 e3
  have hl0 := hl.out
  have E1 := hid e1
  have E2 := hid e2
  have E3 := hid e3
  clear e1 e2 e3
  have m1 : (k == 1) = false := by simpa using n1
  have m2 : (k == 2) = false := by simpa using n2
  have m3 : (k == 3) = false := by simpa using n3
  have m4 : (k == 4) = false := by simpa using n4
  have m5 : (k == 5) = false := by simpa using n5
  go_enter Try.func11, Try.ntmps11
  go_wp2
  go_ret2
  have e1 := E1.out
  subst e1
  have hl1 : l = 0 := by rw [← hl0]; rfl
  subst hl1
  have e2 := E2.out
  subst e2
  refine ⟨none, 0, rfl, ⟨World.ownsRow_nil _ _ _ _, ?_, (But.refl _ _).alloc _⟩⟩
  rw [← E3.out]
  exact HRa.out
theorem do_any (w : World) {g h size c l m : Nat} {q b out q' : List UInt8} {A : Option Addr} (k n : Int) (hr : Hid (Rg w g h size q)) (hb : Hid (SlB w w.heap.size A c b)) (hA : Hid (b ≠ [] → ∀ a, A = some a → a.block ≠ h)) (bl : Nat) (hbl : Hid (b.length = bl)) (hs : Hid (stepF size k n b q = (out, m, q'))) (hl : Hid (out.length = l)) :
    Calls Try.prog 11 #[.pointer (some ⟨g, 0, none⟩), .agg #[.int .i64 k, .int .i64 n, .slice A bl c]] w fun e w' => ∃ A' c', e = .returned (.tuple #[.slice A' l c', .int .i64 m]) ∧ Hid (StepR w w' g h size out q' l A' c') := by
  by_cases k1 : k = 1
  · subst k1; exact do_1 w n hr hb hA bl hbl hs hl
  by_cases k2 : k = 2
  · subst k2; exact do_2 w n hr hb hA bl hbl hs hl
  by_cases k3 : k = 3
  · subst k3; exact do_3 w n hr hb hA bl hbl hs hl
  by_cases k4 : k = 4
  · subst k4; exact do_4 w n hr hb hA bl hbl hs hl
  by_cases k5 : k = 5
  · subst k5; exact do_5 w n hr hb hA bl hbl hs hl
  exact do_else w k n ⟨k1, k2, k3, k4, k5⟩ hr hb hA bl hbl hs hl
end Go.Proofs.Ytidgbojgdllghaa
