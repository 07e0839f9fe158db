import Derived.Test.YtoedhblihodgdaaDoorXD
import Derived.Test.YtoedhblihodgdaaDoorWP
import Derived.SizedLaws
namespace Go.Proofs.YtoedhblihodgdaaDoor
open Go.ChangeShapes Go.WideShapes Go.ChangeAt Go.RowKit Go.Deep

theorem bytes5 : Tryd.prog.bytesOf 5 = 1 := by kernel_rfl
theorem bytes9 : Tryd.prog.bytesOf 9 = 16 := by kernel_rfl
theorem weights_all {H : Type} {P : Program} {t : TypeId} : ∀ {ds : List (DataW H)} {d : DataW H}, d ∈ ds → ∀ n ∈ d.weights P t, n ∈ DataW.weightsAll P t ds
  | [], _, h, _, _ => by cases h
  | x :: r, d, h, n, hn => by
    rw [DataW.weightsAll, List.mem_append]
    rcases List.mem_cons.1 h with rfl | h
    · exact .inl hn
    · exact .inr (weights_all h n hn)

section
variable {H : Type} {enc : TypeId × Value → H} {w : World} {base : Nat} {spare : Nat → Bool} {held : Bool}
theorem bytes_weight {fuel n c : Nat} {A : Option Addr} {x : DataW H × List MemPlace} (h : DataW.trod enc Tryd.prog w base spare held fuel 26 [.slice A n c] = some x)
    (hw : ∀ k ∈ x.1.weights Tryd.prog 26, k ≤ reachBytes) : n ≤ reachBytes := by
  rcases open_ints Tryd.underlying26 Tryd.underlying5 cells5 h with ⟨he, _⟩ | ⟨a, len, cap, zs, he, _, hl, hm, hz, rfl, _, _⟩
  · simp only [List.cons.injEq, and_true] at he
    injection he with _ e _
    rw [e]; exact Nat.zero_le _
  · simp only [List.cons.injEq, and_true] at he
    injection he with _ e _
    subst e
    have hzl : n ≤ zs.length := by rw [hz]; split <;> omega
    have := hw _ (by
      simp only [DataW.weights, Tryd.underlying26]
      exact List.mem_cons_self)
    rw [bytes5] at this
    simp only [lits, List.length_map, List.length_take, List.length_drop, Nat.min_eq_left hzl] at this
    omega
theorem strs_weight {fuel n c : Nat} {A : Option Addr} {x : DataW H × List MemPlace} (h : DataW.trod enc Tryd.prog w base spare held fuel 35 [.slice A n c] = some x)
    (hw : ∀ k ∈ x.1.weights Tryd.prog 35, k ≤ reachBytes) : n * 16 ≤ reachBytes := by
  rcases open_strings Tryd.underlying35 Tryd.underlying9 cells9 h with ⟨he, _⟩ | ⟨a, len, cap, zs, he, _, hl, hm, hz, rfl, _, _⟩
  · simp only [List.cons.injEq, and_true] at he
    injection he with _ e _
    rw [e]; exact Nat.zero_le _
  · simp only [List.cons.injEq, and_true] at he
    injection he with _ e _
    subst e
    have hzl : n ≤ zs.length := by rw [hz]; split <;> omega
    have := hw _ (by
      simp only [DataW.weights, Tryd.underlying35]
      exact List.mem_cons_self)
    rw [bytes9] at this
    simp only [strs, List.length_map, List.length_take, List.length_drop, Nat.min_eq_left hzl] at this
    omega
set_option maxRecDepth 100000 in
theorem fd_weight {fuel n1 n2 tc lc : Nat} {tA lA : Option Addr} {v0 v1 : Value} {x : DataW H × List MemPlace} (h : DataW.trod enc Tryd.prog w base spare held fuel 37 [v0, v1, .slice tA n1 tc, .slice lA n2 lc] = some x)
    (hw : ∀ k ∈ x.1.weights Tryd.prog 37, k ≤ reachBytes) : n1 ≤ reachBytes ∧ n2 * 16 ≤ reachBytes := by
  obtain ⟨xs, n, _, rfl, hlen, hxl, hf⟩ := DataW.trod_struct Tryd.underlying37 h
  have h2 : DataW.trod enc Tryd.prog w base spare held n 26 (([v0, v1, .slice tA n1 tc, .slice lA n2 lc].drop 2).take (Tryd.prog.cellsOf 26)) = xs[2]? := hf 2 _ rfl
  have h3 : DataW.trod enc Tryd.prog w base spare held n 35 (([v0, v1, .slice tA n1 tc, .slice lA n2 lc].drop 3).take (Tryd.prog.cellsOf 35)) = xs[3]? := hf 3 _ rfl
  rw [cells26] at h2
  rw [cells35] at h3
  match xs, hxl with
  | [y0, y1, y2, y3], _ =>
    have h2 : DataW.trod enc Tryd.prog w base spare held n 26 [.slice tA n1 tc] = some y2 := h2
    have h3 : DataW.trod enc Tryd.prog w base spare held n 35 [.slice lA n2 lc] = some y3 := h3
    simp only [DataW.weights, Tryd.underlying37] at hw
    exact ⟨bytes_weight h2 fun k hk => hw k (DataW.weights_mem_each (j := 2) (t := 26) rfl rfl k hk), strs_weight h3 fun k hk => hw k (DataW.weights_mem_each (j := 3) (t := 35) rfl rfl k hk)⟩

set_option maxRecDepth 100000 in
theorem fds_sized {v : Value} {d : DataW H} {p : List MemPlace} {A : Option Addr} {c B : Nat} {l : List Fd} (h : DataW.Trod enc Tryd.prog w base (fun _ => true) held 22 v d p) (hv : v = .slice A l.length c)
    (hF : FdsV w B A l) (hw : ∀ k ∈ d.weights Tryd.prog 22, k ≤ reachBytes) : Sized l := by
  obtain ⟨fuel, hf⟩ := h
  subst hv
  rcases open_slice Tryd.underlying22 hf with ⟨hcs, _⟩ | ⟨a, len, cap, m, n, D, Pl, hcs, _, hl, hm, hmm, hx, hi⟩
  · simp only [Value.cells, List.cons.injEq, and_true] at hcs
    injection hcs with _ e _
    have : l = [] := List.eq_nil_of_length_eq_zero e
    subst this
    intro f hf
    cases hf
  · have hcs' : Value.slice A l.length c = .slice (some a) len cap := by simpa [Value.cells] using hcs
    injection hcs' with e1 e2 e3
    subst e1; subst e2; subst e3
    simp only [if_true] at hmm
    subst hmm
    injection hx with hd _
    subst hd
    intro f hfm
    obtain ⟨i, hil, rfl⟩ := List.getElem_of_mem hfm
    obtain ⟨b, o, hao, hb, hc⟩ := hF (by rintro rfl; cases hfm)
    injection hao with hao
    subst hao
    obtain ⟨tA, tc, lA, lc, _, q0, q1, q2, q3⟩ := hc i hil
    obtain ⟨cs', hcs2, ht⟩ := hi i (by omega)
    rw [cells37] at hcs2
    obtain ⟨_, hlen, hat⟩ := World.cells?_some hcs2
    match cs', hlen with
    | [v0, v1, v2, v3], _ =>
      have a2 := hat 2 (by omega)
      have a3 := hat 3 (by omega)
      simp only [Addr.add_lit] at a2 a3
      rw [q2] at a2
      rw [q3] at a3
      simp only [List.getElem?_cons_succ, List.getElem?_cons_zero, Option.some.injEq] at a2 a3
      subst a2; subst a3
      have := fd_weight ht fun k hk => hw k (by
        simp only [DataW.weights, Tryd.underlying22]
        rw [List.mem_cons, List.mem_append]
        exact .inr (.inl (weights_all (d := D i) (List.mem_map.2 ⟨i, List.mem_range.2 hil, rfl⟩) k hk)))
      exact this
end
end Go.Proofs.YtoedhblihodgdaaDoor
