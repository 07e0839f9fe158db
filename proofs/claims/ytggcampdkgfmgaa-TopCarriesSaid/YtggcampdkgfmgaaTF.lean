import Derived.Test.YtggcampdkgfmgaaTE
namespace Go.Proofs.Ytggcampdkgfmgaa
open Go.RowKit

/-! Layer 17: the calls that read, write and set. -/
section
variable {w0 w w' : World} {g p : Nat} {S0 S : Nat → Prop} {P : Ps} {D' : Ds}
/-- .. a number and an error. -/
def RetPn (w0 : World) (g p : Nat) (S0 : Nat → Prop) (r : Ps × Nat × Int) (e : Ending) (w' : World) : Prop := e = .returned (.tuple #[.int .i64 (r.2.1 : Int), .int .i64 r.2.2]) ∧ POut w0 g p S0 r.1 w'
theorem slb_ne {w : World} {A : Option Addr} {n c : Nat} {b : List UInt8} (_hn : b.length = n) (h : Hid (SlB w w.heap.size A c b)) : Hid (SlB w w.heap.size A c b) := h
set_option maxRecDepth 100000 in
set_option maxHeartbeats 4000000 in
theorem takeNow_any (H : Hid (Py w0 g p S0 w S P)) (hf : Hid (Fit P.d)) (n : Int) (hn : i64ok n) {r : Ps × List UInt8 × Int} (hr : Hid (tkP P n = r)) :
    Calls Try.prog 18 #[.int .i64 n, .func (.func 19) #[.pointer (some ⟨p, 0, none⟩)] #[], .func (.func 20) #[.pointer (some ⟨g, 0, none⟩)] #[]] w (RetPb w0 g p S0 r) := by
  obtain ⟨E, hE⟩ : ∃ x, Hid (outputD P.d n = x) := ⟨_, hid rfl⟩
  obtain ⟨b, hb⟩ : ∃ x, Hid (outputB P.d n = x) := ⟨_, hid rfl⟩
  have hEt : E.t.Ok := by rw [← hE.out]; exact hf.out.t
  by_cases h1 : b = []
  · obtain ⟨ov, hov⟩ : ∃ x, Hid ((decide (({ P with d := E } : Ps).sl ≤ 0) && decide (({ P with d := E } : Ps).d.out.length = 0)) = x) := ⟨_, hid rfl⟩
    subst h1
    cases ov
    · have ho : ¬ (P.sl ≤ 0 ∧ E.out = []) := by
        rintro ⟨h2, h3⟩
        have h4 := hov.out
        rw [show ({ P with d := E } : Ps).sl = P.sl from rfl, decide_eq_true h2, show ({ P with d := E } : Ps).d.out = [] from h3] at h4
        simp at h4
      by_cases h5 : 0 < n
      · obtain rfl : ({ P with d := E }, [], 10) = r := by rw [← hr.out]; unfold tkP; rw [hE.out, hb.out, if_neg (fun h => h rfl), if_neg ho, if_pos h5]
        go_enter Try.func18, Try.ntmps18
        go_wp2_with (first
          | (go_at_call 19
             (with_reducible refine (outputp_any w p S P.d (Py.dat H) hf n hn hE hb).mono ?_)
             rintro e w1 ⟨A1, n1, c1, rfl, N1, L1, O1⟩
             obtain rfl : n1 = 0 := N1.out.symm
             obtain ⟨S1, H1, -, -, F1⟩ := Py.nextF H O1)
          | (go_at_call 20
             (with_reducible refine (isOver_b H1 hEt hov).mono ?_)
             rintro e w2 ⟨rfl, k2⟩
             have H2 := Py.bel H1 k2.out))
        go_ret2
        exact ⟨none, 0, 0, S1, rfl, hid rfl, slb_nil0 _, H2, hid (fun h => absurd rfl h)⟩
      · obtain rfl : ({ P with d := E }, [], 0) = r := by rw [← hr.out]; unfold tkP; rw [hE.out, hb.out, if_neg (fun h => h rfl), if_neg ho, if_neg h5]
        go_enter Try.func18, Try.ntmps18
        go_wp2_with (first
          | (go_at_call 19
             (with_reducible refine (outputp_any w p S P.d (Py.dat H) hf n hn hE hb).mono ?_)
             rintro e w1 ⟨A1, n1, c1, rfl, N1, L1, O1⟩
             obtain rfl : n1 = 0 := N1.out.symm
             obtain ⟨S1, H1, -, -, F1⟩ := Py.nextF H O1)
          | (go_at_call 20
             (with_reducible refine (isOver_b H1 hEt hov).mono ?_)
             rintro e w2 ⟨rfl, k2⟩
             have H2 := Py.bel H1 k2.out))
        go_ret2
        exact ⟨none, 0, 0, S1, rfl, hid rfl, slb_nil0 _, H2, hid (fun h => absurd rfl h)⟩
    · have ho : P.sl ≤ 0 ∧ E.out = [] := by
        have h4 := hov.out
        rw [Bool.and_eq_true, decide_eq_true_eq, decide_eq_true_eq] at h4
        exact ⟨h4.1, List.eq_nil_of_length_eq_zero h4.2⟩
      obtain rfl : ({ P with d := E }, [], 11) = r := by rw [← hr.out]; unfold tkP; rw [hE.out, hb.out, if_neg (fun h => h rfl), if_pos ho]
      go_enter Try.func18, Try.ntmps18
      go_wp2_with (first
        | (go_at_call 19
           (with_reducible refine (outputp_any w p S P.d (Py.dat H) hf n hn hE hb).mono ?_)
           rintro e w1 ⟨A1, n1, c1, rfl, N1, L1, O1⟩
           obtain rfl : n1 = 0 := N1.out.symm
           obtain ⟨S1, H1, -, -, F1⟩ := Py.nextF H O1)
        | (go_at_call 20
           (with_reducible refine (isOver_b H1 hEt hov).mono ?_)
           rintro e w2 ⟨rfl, k2⟩
           have H2 := Py.bel H1 k2.out))
      go_ret2
      exact ⟨none, 0, 0, S1, rfl, hid rfl, slb_nil0 _, H2, hid (fun h => absurd rfl h)⟩
  · obtain ⟨q, hq⟩ : ∃ q, Hid (b.length = q) := ⟨_, hid rfl⟩
    have hq0 : (q : Int) > 0 := by
      have : b.length ≠ 0 := fun h => h1 (List.eq_nil_of_length_eq_zero h)
      have := hq.out
      omega
    obtain rfl : ({ P with d := E }, b, 0) = r := by rw [← hr.out]; unfold tkP; rw [hE.out, hb.out, if_pos h1]
    go_enter Try.func18, Try.ntmps18
    go_wp2_with (first
      | (go_at_call 19
         (with_reducible refine (outputp_any w p S P.d (Py.dat H) hf n hn hE hb).mono ?_)
         rintro e w1 ⟨A1, n1, c1, rfl, N1, L1, O1⟩
         obtain rfl : n1 = q := N1.out.symm.trans hq.out
         obtain ⟨S1, H1, -, -, F1⟩ := Py.nextF H O1))
    go_ret2
    exact ⟨A1, n1, c1, S1, rfl, hq, L1, H1, F1⟩
set_option maxRecDepth 100000 in
set_option maxHeartbeats 4000000 in
theorem writeNow_any (H : Hid (Py w0 g p S0 w S P)) (hf : Hid (Fit P.d)) (A : Option Addr) (n c : Nat) (b : List UInt8) (hb : Hid (SlB w w.heap.size A c b)) (hn : Hid (b.length = n)) (hm : n ≤ 400000) (hA : Hid (b ≠ [] → ∀ a, A = some a → ¬ S a.block)) {r : Ps × Nat × Int} (hr : Hid (wnP P b = r)) :
    Calls Try.prog 16 #[.slice A n c, .func (.func 17) #[.pointer (some ⟨p, 0, none⟩)] #[]] w (RetPn w0 g p S0 r) := by
  obtain ⟨E, hE⟩ : ∃ x, Hid (writeD P.d b = x) := ⟨_, hid rfl⟩
  obtain ⟨k, hk⟩ : ∃ x, Hid (writeN P.d b = x) := ⟨_, hid rfl⟩
  by_cases h1 : k = 0
  · subst h1
    by_cases h2 : n = 0
    · obtain rfl : ({ P with d := E }, 0, 0) = r := by rw [← hr.out]; unfold wnP; rw [hE.out, hk.out, if_neg (fun h => h.2 (List.eq_nil_of_length_eq_zero (by rw [hn.out, h2])))]
      subst h2
      go_enter Try.func16, Try.ntmps16
      go_wp2_with (first
        | (go_at_call 17
           (with_reducible refine (writep_any w p S P.d (Py.dat H) hf A 0 c b hb hn hm hA hE hk).mono ?_)
           rintro e w1 ⟨rfl, O1⟩
           obtain ⟨S1, H1, -, -⟩ := Py.next H O1))
      go_ret2
      exact ⟨rfl, Py.done H1⟩
    · have h3 : (n : Int) > 0 := by omega
      obtain rfl : ({ P with d := E }, 0, 10) = r := by rw [← hr.out]; unfold wnP; rw [hE.out, hk.out, if_pos ⟨rfl, fun h => h2 (by rw [← hn.out, h]; rfl)⟩]
      go_enter Try.func16, Try.ntmps16
      go_wp2_with (first
        | (go_at_call 17
           (with_reducible refine (writep_any w p S P.d (Py.dat H) hf A n c b hb hn hm hA hE hk).mono ?_)
           rintro e w1 ⟨rfl, O1⟩
           obtain ⟨S1, H1, -, -⟩ := Py.next H O1))
      go_ret2
      exact ⟨rfl, Py.done H1⟩
  · have h3 : ((k : Int) == 0) = false := beq_eq_false_iff_ne.2 (by omega)
    obtain rfl : ({ P with d := E }, k, 0) = r := by rw [← hr.out]; unfold wnP; rw [hE.out, hk.out, if_neg (fun h => h1 h.1)]
    go_enter Try.func16, Try.ntmps16
    go_wp2_with (first
      | (go_at_call 17
         (with_reducible refine (writep_any w p S P.d (Py.dat H) hf A n c b hb hn hm hA hE hk).mono ?_)
         rintro e w1 ⟨rfl, O1⟩
         obtain ⟨S1, H1, -, -⟩ := Py.next H O1))
    go_ret2
    exact ⟨rfl, Py.done H1⟩
theorem RetPb.ret (H : Hid (Py w0 g p S0 w S P)) (er : Int) : RetPb w0 g p S0 (P, [], er) (.returned (.tuple #[.slice none 0 0, .int .i64 er])) w := ⟨none, 0, 0, S, rfl, hid rfl, slb_nil0 _, H, hid (fun h => absurd rfl h)⟩
set_option maxRecDepth 100000 in
set_option maxHeartbeats 4000000 in
theorem mread_any (H : Hid (Py w0 g p S0 w S P)) (hf : Hid (Fit P.d)) (n : Int) (hn : i64ok n) {r : Ps × List UInt8 × Int} (hr : Hid (mrP P n = r)) :
    Calls Try.prog 7 #[.pointer (some ⟨g, 0, none⟩), .int .i64 n] w (RetPb w0 g p S0 r) := by
  cases hh : P.hu
  · have hr2 : Hid (tkP P n = r) := hid (by rw [← hr.out]; unfold mrP; rw [hh]; rfl)
    go_enter Try.func7, Try.ntmps7
    go_wp2_with (first
      | (go_at_call 15
         (with_reducible refine (refuses_f H hh).mono ?_)
         rintro e w1 ⟨rfl, k1⟩
         have H1 := Py.bel H k1.out
         have c0 := Py.cell (v := .pointer (some ⟨p, 0, none⟩)) H1 0 rfl)
      | (go_at_call 18
         (with_reducible refine (takeNow_any H1 hf n hn hr2).mono ?_)
         rintro e w2 ⟨A2, n2, c2, S2, rfl, N2, L2, H2, F2⟩))
    go_ret2
    exact ⟨A2, n2, c2, S2, rfl, N2, L2, H2, F2⟩
  · obtain rfl : (P, [], 11) = r := by rw [← hr.out]; unfold mrP; rw [hh]; rfl
    go_enter Try.func7, Try.ntmps7
    go_wp2_with (first
      | (go_at_call 15
         (with_reducible refine (refuses_t H hh).mono ?_)
         rintro e w1 ⟨rfl, k1⟩
         have H1 := Py.bel H k1.out))
    go_ret2
    exact RetPb.ret H1 11
set_option maxRecDepth 100000 in
set_option maxHeartbeats 4000000 in
theorem swrite_any (H : Hid (Py w0 g p S0 w S P)) (hf : Hid (Fit P.d)) (A : Option Addr) (n c : Nat) (b : List UInt8) (hb : Hid (SlB w w.heap.size A c b)) (hn : Hid (b.length = n)) (hm : n ≤ 400000) (hA : Hid (b ≠ [] → ∀ a, A = some a → ¬ S a.block)) {r : Ps × Nat × Int} (hr : Hid (wrP P b = r)) :
    Calls Try.prog 6 #[.pointer (some ⟨g, 0, none⟩), .slice A n c] w (RetPn w0 g p S0 r) := by
  cases hh : P.hu
  · have hr2 : Hid (wnP P b = r) := hid (by rw [← hr.out]; unfold wrP; rw [hh]; rfl)
    go_enter Try.func6, Try.ntmps6
    go_wp2_with (first
      | (go_at_call 15
         (with_reducible refine (refuses_f H hh).mono ?_)
         rintro e w1 ⟨rfl, k1⟩
         have H1 := Py.bel H k1.out
         have b1 := slb_up hb k1.out
         have c0 := Py.cell (v := .pointer (some ⟨p, 0, none⟩)) H1 0 rfl)
      | (go_at_call 16
         (with_reducible refine (writeNow_any H1 hf A n c b b1 hn hm hA hr2).mono ?_)
         rintro e w2 ⟨rfl, O2⟩))
    go_ret2
    exact ⟨rfl, O2⟩
  · obtain rfl : (P, 0, 11) = r := by rw [← hr.out]; unfold wrP; rw [hh]; rfl
    go_enter Try.func6, Try.ntmps6
    go_wp2_with (first
      | (go_at_call 15
         (with_reducible refine (refuses_t H hh).mono ?_)
         rintro e w1 ⟨rfl, k1⟩
         have H1 := Py.bel H k1.out))
    go_ret2
    exact ⟨rfl, Py.done H1⟩
end
end Go.Proofs.Ytggcampdkgfmgaa
