import Derived.Test.YtggcampdkgfmgaaGreatJT
import Derived.Test.YtggcampdkgfmgaaGreatJL
import Derived.Test.YtggcampdkgfmgaaGreatTC
namespace Go.Proofs.YtggcampdkgfmgaaGreat
open Go.RowKit

/-! Layer 17: bytes that are typed. -/
/-- What typing makes of a discipline, as long as not too many wait: how many were typed, the signals. -/
def typeM (D : Ds) : List UInt8 → Ds × Nat × List Int
  | [] => (D, 0, [])
  | c :: r => if 4096 ≤ usedD D then (D, 0, []) else ((typeM (inputD D c).1 r).1, (typeM (inputD D c).1 r).2.1 + 1, (inputD D c).2 ++ (typeM (inputD D c).1 r).2.2)
/-- Numbers behind numbers of a row of one's own: nothing else turns. -/
theorem app_ints {ops : Array Oper} {rest : List Oper} {o : Oper} {a : Act} {Q : Exit → Act → World → Prop} (W : World) (hgd : o.guard = none) (s x : Operand) (ho : o.op = .call { callee := .builtin .append, args := #[s, x], argTypes := #[36, 36] })
    (n c : Nat) (A : Option Addr) (xs : List Int) (hs : a.eval s = .slice A n c) (hown : Hid (W.ownsRow 0 3 1 (.slice A n c) n (iv16 xs))) (A2 : Option Addr) (m c2 : Nat) (l : List Int) (hx : a.eval x = .slice A2 m c2) (hS : Hid (SlI W W.heap.size A2 c2 l)) (hm : Hid (l.length = m)) (hb : n + m ≤ 1000000)
    (h : ∀ A3 c3 u', Hid (u'.ownsRow 0 3 1 (.slice A3 (n + m) c3) (n + m) (iv16 (xs ++ l))) → Hid (ButP (fun b => ∃ q, A = some q ∧ q.block = b) W u') → Hid (∀ q, A3 = some q → (∃ r, A = some r ∧ r.block = q.block) ∨ W.heap.size ≤ q.block) → wpList Tryz.prog ops Q rest (a.put o.dst (.slice A3 (n + m) c3)) u') : wpList Tryz.prog ops Q (o :: rest) a W := by
  obtain ⟨i3, hi3, hz3, hz31, hz32⟩ := info_parts infoI
  refine wpList_appx W hgd s x 36 ho 0 3 i3 _ 8 Tryz.underlying36 hi3 hz3 hz31 hz32 rfl A n c (iv16 xs) hs hown.out W.heap.size A2 m c2 (iv16 l) hx (by rw [← hm.out]; simp [iv16]) hS.out.2.2.2 (by
    intro u hu
    simp only [iv16, List.mem_map] at hu
    obtain ⟨_, _, rfl⟩ := hu
    rfl) (by unfold maxLen; omega) (by omega) (Nat.zero_le _) ?_
  intro A3 c3 u3 ho3 hg3 hw3
  refine h A3 c3 u3 (hid ?_) (hid ((ButP.refl _ W).grown hg3 fun k hk => .inl ?_)) (hid fun q hq => ?_)
  · have e : iv16 (xs ++ l) = iv16 xs ++ iv16 l := by simp [iv16]
    rwa [e]
  · cases A with
    | none => cases hk
    | some q => injection hk with hk; exact ⟨q, rfl, hk⟩
  · subst hq
    rcases hw3 _ rfl with h1 | h1
    · cases A with
      | none => cases h1
      | some r => injection h1 with h1; exact .inl ⟨r, rfl, h1⟩
    · exact .inr h1
/-- A row of one's own that is nobody's. -/
def FreeR (w0 w : World) (S : Nat → Prop) (A : Option Addr) : Prop := ∀ x, A = some x → w0.heap.size ≤ x.block ∧ ¬ S x.block ∧ x.block < w.heap.size
theorem row_rel {w0 w u u2 : World} {p : Nat} {S0 S1 S2 : Nat → Prop} {D : Ds} {A : Option Addr} (R : Hid (Rel w0 u p S0 S2 D)) (F : Hid (FreeR w0 w S1 A)) (N : Hid (∀ x, S2 x → S1 x ∨ w.heap.size ≤ x)) (B : Hid (ButP (fun b => ∃ q, A = some q ∧ q.block = b) u u2)) : Hid (Rel w0 u2 p S0 S2 D) :=
  hid (R.out.keep B.out (fun x hx => by
    rintro ⟨a, ha, rfl⟩
    have h1 := F.out a ha
    rcases N.out _ hx with h | h
    · exact h1.2.1 h
    · omega) (fun x hx => by obtain ⟨a, ha, rfl⟩ := hx; exact .inr (F.out a ha).1))
theorem row_free {w0 w u u2 : World} {S1 S2 : Nat → Prop} {A A' : Option Addr} {n c : Nat} {xs : List Value} (F : Hid (FreeR w0 w S1 A)) (N : Hid (∀ x, S2 x → S1 x ∨ w.heap.size ≤ x)) (F2 : Hid (∀ q, A' = some q → (∃ r, A = some r ∧ r.block = q.block) ∨ u.heap.size ≤ q.block)) (P : Hid (u2.ownsRow 0 3 1 (.slice A' n c) n xs)) (h0 : w0.heap.size ≤ w.heap.size) (h1 : w.heap.size ≤ u.heap.size) (hS : ∀ x, S2 x → x < u.heap.size) : Hid (FreeR w0 u2 S2 A') := hid fun x hx => by
  subst hx
  have hlt := own_ltI P
  rcases F2.out x rfl with ⟨r, hr, e⟩ | h
  · have k := F.out r hr
    rw [e] at k
    refine ⟨k.1, fun hs => ?_, hlt⟩
    rcases N.out _ hs with h | h
    · exact k.2.1 h
    · omega
  · exact ⟨by omega, fun hs => by have := hS _ hs; omega, hlt⟩
theorem row_sli {w : World} {A : Option Addr} {n c : Nat} {l : List Int} (hn : Hid (l.length = n)) (h : Hid (w.ownsRow 0 3 1 (.slice A n c) n (iv16 l))) : Hid (SlI w w.heap.size A c l) := hid (by
  refine ⟨?_, ?_, ?_, Lies.own h.out⟩
  · rcases h.out.2 with ⟨hv, h0⟩ | ⟨g, cap, cur, hv, _, _, hnc, hcm, _⟩
    · injection hv with _ _ e
      have := hn.out
      omega
    · injection hv with _ _ e
      have := hn.out
      omega
  · rcases h.out.2 with ⟨hv, h0⟩ | ⟨g, cap, cur, hv, _, _, hnc, hcm, _⟩
    · injection hv with _ _ e
      subst e
      exact Nat.zero_le _
    · injection hv with _ _ e
      subst e
      exact hcm
  · intro e
    subst e
    rcases h.out.2 with ⟨hv, h0⟩ | ⟨g, cap, cur, hv, _⟩
    · injection hv with _ _ e
    · injection hv with e1
      cases e1)
theorem typeM_step {D D1 : Ds} {b : List UInt8} {k : Nat} {y : UInt8} {xs : List Int} (h : typeM D b = ((typeM D1 (b.drop k)).1, k + (typeM D1 (b.drop k)).2.1, xs ++ (typeM D1 (b.drop k)).2.2)) (hy : b[k]? = some y) (hu : ¬ 4096 ≤ usedD D1) :
    typeM D b = ((typeM (inputD D1 y).1 (b.drop (k + 1))).1, (k + 1) + (typeM (inputD D1 y).1 (b.drop (k + 1))).2.1, (xs ++ (inputD D1 y).2) ++ (typeM (inputD D1 y).1 (b.drop (k + 1))).2.2) := by
  obtain ⟨h1, h2⟩ := List.getElem?_eq_some_iff.1 hy
  rw [h, List.drop_eq_getElem_cons h1, h2, typeM, if_neg hu, List.append_assoc]
  simp only [Prod.mk.injEq, true_and]
  exact ⟨by omega, trivial⟩
/-- What typing has answered, and left. -/
def RetTy (w : World) (p : Nat) (S : Nat → Prop) (r : Ds × Nat × List Int) (e : Ending) (w' : World) : Prop := ∃ A n c, e = .returned (.tuple #[.int .i64 (r.2.1 : Int), .slice A n c]) ∧ Hid (r.2.2.length = n) ∧ Hid (SlI w' w'.heap.size A c r.2.2) ∧ DOut w p S r.1 w' ∧ n ≤ 20000
set_option maxRecDepth 100000 in
set_option maxHeartbeats 4000000 in
theorem typeAll_any (I : Ds → Prop) (hIf : Hid (∀ D, I D → Fit D)) (hIn : Hid (∀ D c, I D → I (inputD D c).1)) (w : World) (p : Nat) (S : Nat → Prop) (D : Ds) (hD : Hid (DAt w p S D)) (hI : Hid (I D)) (A : Option Addr) (n c : Nat) (b : List UInt8) (hb : Hid (SlB w w.heap.size A c b)) (hn : Hid (b.length = n)) (hm : n ≤ 20000) (hA : Hid (b ≠ [] → ∀ a, A = some a → ¬ S a.block)) {r : Ds × Nat × List Int} (hr : Hid (typeM D b = r)) :
    Calls Tryz.prog 80 #[.slice A n c, .func (.func 26) #[.pointer (some ⟨p, 0, none⟩)] #[], .func (.func 20) #[.pointer (some ⟨p, 0, none⟩)] #[]] w (RetTy w p S r) := by
  have hAlt : Hid (b ≠ [] → ∀ a, A = some a → a.block < w.heap.size) := hid (slb_lt hb)
  go_enter Tryz.func80, Tryz.ntmps80
  go_wp2_with fail
  go_loopg [8, 13] n (fun gk a i wr => ∃ (k : Nat) (S1 : Nat → Prop) (D1 : Ds) (A9 : Option Addr) (m9 c9 : Nat) (xs : List Int), k + gk = n ∧ i = .int .i64 k ∧ a = .slice A9 m9 c9 ∧ m9 ≤ k ∧ Hid (Rel w wr p S S1 D1) ∧ Hid (I D1) ∧ Hid (xs.length = m9) ∧ Hid (typeM D b = ((typeM D1 (b.drop k)).1, k + (typeM D1 (b.drop k)).2.1, xs ++ (typeM D1 (b.drop k)).2.2)) ∧ Hid (wr.ownsRow 0 3 1 (.slice A9 m9 c9) m9 (iv16 xs)) ∧ Hid (FreeR w wr S1 A9) ∧ Hid (SlB wr wr.heap.size A c b) ∧ Hid (b ≠ [] → ∀ a, A = some a → ¬ S1 a.block))
  case atStart => exact ⟨0, S, D, none, 0, 0, [], by omega, rfl, rfl, Nat.le_refl _, hid ⟨hD.out, fun _ h => .inl h, ButP.refl S w⟩, hI, hid rfl, hid (by simp), hid ⟨rfl, .inl ⟨rfl, rfl⟩⟩, hid (fun x h => by cases h), hb, hA⟩
  case round =>
    obtain ⟨k, S1, D1, A9, m9, c9, xs, hk, rfl, rfl, hm9, R1, I1, X1, T1, O9, F9, L1, hA1⟩ := hrel
    by_cases hlt : k < n
    · have hki : (k : Int) < (n : Int) := by omega
      obtain ⟨b0, o0, y, hAA, hy, cy⟩ := slb_cell L1.out hn.out hlt
      have HY := hid hy
      have HAA := hid hAA
      obtain ⟨uu, huu⟩ : ∃ x, Hid (usedD D1 = x) := ⟨_, hid rfl⟩
      have fit1 : Hid (Fit D1) := hid (hIf.out _ I1.out)
      have ub : uu ≤ 100000 := by
        rw [← huu.out]
        have h1 := fit1.out.line
        have h2 := fit1.out.raw
        have h3 := fit1.out.used
        unfold usedD
        omega
      by_cases hu : 4096 ≤ uu
      · have hui : (uu : Int) ≥ 4096 := by omega
        have hb0 : b.drop k ≠ [] := by
          intro e
          have := congrArg List.length e
          rw [List.length_drop, hn.out] at this
          simp at this
          omega
        obtain ⟨y2, r2, e2⟩ : ∃ y r, b.drop k = y :: r := by
          cases h : b.drop k with
          | nil => exact absurd h hb0
          | cons y r => exact ⟨y, r, rfl⟩
        obtain rfl : (D1, k, xs) = r := by
          rw [← hr.out, T1.out, e2, typeM, if_pos (by rw [huu.out]; exact hu)]
          simp
        subst hAA
        clear hy e2 hb0
        go_wp2_with (first
          | (go_at_call 26
             (with_reducible refine (usedp16_any wr p S1 D1 (hid R1.out.at_) fit1 huu).mono ?_)
             rintro e u1 ⟨rfl, O5⟩
             obtain ⟨S2, R2, N2, B2⟩ := R1.out.next O5
             have O2 := hid (B2.out.own O9.out (own_free F9))))
        go_ret2
        exact ⟨A9, m9, c9, rfl, X1, row_sli X1 O2, R2.out.out, by omega⟩
      · have hui : ¬ (uu : Int) ≥ 4096 := by omega
        have hone := input_one D1 y
        obtain ⟨⟨D2, sg⟩, hr2⟩ : ∃ z, Hid (inputD D1 y = z) := ⟨_, hid rfl⟩
        have hone2 : sg.length ≤ 1 := by rw [hr2.out] at hone; exact hone
        have I2 : Hid (I D2) := hid (by have := hIn.out D1 y I1.out; rwa [hr2.out] at this)
        have T2 := hid (typeM_step T1.out HY.out (by rw [huu.out]; exact hu))
        rw [hr2.out] at T2
        subst hAA
        clear hy hone
        go_wp2_with (first
          | (go_at_call 26
             (with_reducible refine (usedp16_any wr p S1 D1 (hid R1.out.at_) fit1 huu).mono ?_)
             rintro e u1 ⟨rfl, O5⟩
             obtain ⟨S2, R2, N2, B2⟩ := R1.out.next O5
             have O2 := hid (B2.out.own O9.out (own_free F9))
             have L2 := slb_but L1 B2.out hA1.out
             have hA2 := hid (free_next L1 hA1.out N2.out B2.out)
             have F2 : Hid (FreeR w u1 S2 A9) := hid (fun x hx => ⟨(F9.out x hx).1, fun hs => (N2.out _ hs).elim (F9.out x hx).2.1 (fun h => by have := (F9.out x hx).2.2; omega), Nat.lt_of_lt_of_le (F9.out x hx).2.2 B2.out.size⟩))
          | (go_at_call 20
             (with_reducible refine (inputp_any u1 p S2 D1 (hid R2.out.at_) fit1 y hr2).mono ?_)
             rintro e u2 ⟨A5, n5, c5, rfl, hn5, L5, O6⟩
             have hn5 : Hid (sg.length = n5) := hn5
             have L5 : Hid (SlI u2 u2.heap.size A5 c5 sg) := L5
             have O6 : DOut u1 p S2 D2 u2 := O6
             obtain ⟨S3, R3, N3, B3⟩ := R2.out.next O6
             have O3 := hid (B3.out.own O2.out (own_free F2))
             have L3 := slb_but L2 B3.out hA2.out
             have hA3 := hid (free_next L2 hA2.out N3.out B3.out))
          | (at_builtin
             (refine app_ints u2 (by rfl) (.tmp 23) (.tmp 26) rfl m9 c9 A9 xs rfl O3 A5 n5 c5 sg rfl L5 hn5 (by have := hn5.out; omega) ?_)
             intro A10 c10 u3 P10 B10 F10
             have R4 := row_rel R3 F2 N3 B10
             have F4 := row_free F2 N3 F10 P10 R2.out.but.size B3.out.size R3.out.at_.top
             have L4 := slb_but L3 B10.out (fun hne a ha => by
               rintro ⟨q, hq, e⟩
               have h1 := (F9.out q hq).1
               have h2 := hAlt.out hne a ha
               omega)
             have hA4 := hA3))
        go_roundg (gk - 1)
        case measure => omega
        case rel => exact ⟨k + 1, S3, D2, A10, m9 + n5, c10, xs ++ sg, by omega, by go_num, rfl, by have := hn5.out; omega, R4, I2, hid (by rw [List.length_append, X1.out, hn5.out]), T2, P10, F4, L4, hA4⟩
    · obtain rfl : k = n := by omega
      have hki : ¬ (k : Int) < (k : Int) := by omega
      have e0 : b.drop k = [] := List.drop_of_length_le (by rw [hn.out]; exact Nat.le_refl _)
      obtain rfl : (D1, k, xs) = r := by
        rw [← hr.out, T1.out, e0, typeM]
        simp
      clear e0
      go_wp2_with fail
      go_ret2
      exact ⟨A9, m9, c9, rfl, X1, row_sli X1 O9, R1.out.out, by omega⟩
end Go.Proofs.YtggcampdkgfmgaaGreat
