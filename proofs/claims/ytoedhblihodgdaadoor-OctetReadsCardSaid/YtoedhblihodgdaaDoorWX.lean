import Derived.Test.YtoedhblihodgdaaDoorWP
import Derived.Test.YtoedhblihodgdaaDoorWV
namespace Go.Proofs.YtoedhblihodgdaaDoor
open Go.ChangeShapes Go.WideShapes Go.ChangeAt Go.RowKit Go.Deep

section
variable {H : Type} {enc : TypeId × Value → H} {w : World} {base : Nat} {spare : Nat → Bool} {held : Bool}
/-- A slice of numbers among what came in. -/
theorem ints_open {fuel : Nat} {cs : List Value} {x : DataW H × List MemPlace} (h : DataW.trod enc Tryd.prog w base spare held fuel 39 cs = some x) :
    ∃ (A : Option Addr) (c : Nat) (ks : List Int), cs = [.slice A ks.length c] ∧ ks.length ≤ c ∧ c ≤ maxLen ∧ Lies w w.heap.size A (ks.map (Value.int .i64)) := by
  rcases open_ints Tryd.underlying39 Tryd.underlying3 cells3 h with ⟨rfl, _⟩ | ⟨a, len, cap, zs, rfl, _, hl, hm, hz, _, hcell, hwz⟩
  · exact ⟨none, 0, [], rfl, Nat.le_refl _, Nat.zero_le _, Lies.nil_⟩
  · have hzl : len ≤ zs.length := by rw [hz]; split <;> omega
    refine ⟨some a, cap, zs.take len, ?_, ?_, hm, ?_⟩
    · simp [Nat.min_eq_left hzl]
    · simp [Nat.min_eq_left hzl]; exact hl
    · intro hne
      have h0 : 0 < zs.length := by
        rcases Nat.eq_zero_or_pos zs.length with h | h
        · exfalso; apply hne; simp [List.eq_nil_of_length_eq_zero h]
        · exact h
      have hb : a.block < w.heap.size := by
        have := World.block_lt_of_cell? w _ (hcell 0 h0)
        simpa [Addr.add] using this
      refine Lies.of_add hb (fun j u hu => ?_) hne
      have hj : j < len ∧ j < zs.length := by
        have := (List.getElem?_eq_some_iff.1 hu).1
        simp at this; omega
      rw [hcell j hj.2]
      simp only [List.getElem?_map, List.getElem?_take, hj.1, if_true, List.getElem?_eq_getElem hj.2, Option.map_some] at hu
      rw [← hu]
      simp [List.getD, List.getElem?_eq_getElem hj.2]
end

set_option maxRecDepth 100000 in
theorem again_met (os : Os) (args : Array Value) : laidMet Tryd.prog Rows.octetAgainRow.laid ((laidWorld os).forCall (fun _ _ => 0) ⟨#[], args, []⟩).memory :=
  laidMet_of_run' 8 (by kernel_rfl) (by kernel_rfl)

theorem again_reads (os : Os) {H : Type} (enc : TypeId × Value → H) : ∃ places, DataW.whole enc Tryd.prog ((laidWorld os).forCall (fun _ _ => 0) ⟨#[], #[.slice none 0 0, .slice none 0 0], []⟩).memory Tryd.f6.params.toList Rows.octetAgainSpec.vars false #[Value.slice none 0 0, .slice none 0 0].toList 8 = some ([.nil, .nil], [], places) :=
  ⟨[], by kernel_rfl⟩

set_option maxRecDepth 100000 in
theorem again_lifted (os : Os) (started : os.Started) (H : Type) (enc : TypeId × Value → H) (F : Stop.Interp) :
    ReturnsInHanded {} Tryd.checked os 6 .any ((OpenSpec.ofChange Rows.octetAgainSpec).preRow enc Tryd.prog Tryd.f6 Rows.octetAgainRow.domain false Rows.octetAgainRow.laid) (((OpenSpec.ofChange Rows.octetAgainSpec).at F).post enc Tryd.prog Tryd.f6 false true false false) := by
  obtain ⟨places, hx⟩ := again_reads os enc
  refine returnsInHanded_of_row (C := Tryd.checked) (s := OpenSpec.ofChange Rows.octetAgainSpec) ownK started (by kernel_rfl) Tryd.func6
    (witness_row_at (enc := enc) (C := Tryd.checked) false (laidWorld os) #[.slice none 0 0, .slice none 0 0] rfl (by kernel_rfl) (by kernel_rfl) (by kernel_rfl)
      (OpenSpec.preRow_of_cond 8 hx (by kernel_rfl) (fun k hk => by cases hk) (by kernel_rfl) (again_met os _))) ?_
  intro W base args ds gs before hval0 hW _ _ _ hL hS _
  have hval : ∀ (j : Nat) t v, Tryd.f6.params[j]? = some t → args[j]? = some v → Value.okWide Tryd.prog W .any base t v := hval0
  have hS' : W.ShapedOpen Tryd.prog := hS
  obtain ⟨m, hm⟩ := max_len hS'
  have hW' := hW
  obtain ⟨p, q, hA0, hV, rfl, hfz, hnd⟩ := hW
  have hA : DataW.TrodAll enc Tryd.prog W 0 (fun _ => true) true Tryd.f6.params.toList args.toList ds p := hA0
  obtain ⟨rfl, rfl⟩ := trodVars_none hV
  simp only [List.append_nil] at hW'
  have hA2 := hA
  rw [Tryd.params6] at hA2 hval
  obtain ⟨v0, v1, d0, d1, p0, p1, hargs, rfl, rfl, h0, h1⟩ := trodAll_two hA2
  obtain rfl : args = #[v0, v1] := by cases args; simp_all
  obtain ⟨a0, n0, c0, rfl⟩ := okWide_slice Tryd.underlying39 (hval 0 39 v0 rfl rfl)
  obtain ⟨a1, n1, c1, rfl⟩ := okWide_slice Tryd.underlying26 (hval 1 26 v1 rfl rfl)
  obtain ⟨u0, hf0⟩ := h0
  obtain ⟨u1, hf1⟩ := h1
  obtain ⟨kA, kc, ks, hk, k1, k2, hkl⟩ := ints_open hf0
  obtain ⟨A, c, bs, hb, b1, b2, b3, hbl⟩ := bytes_open hf1
  simp only [Value.cells, List.cons.injEq, and_true] at hk hb
  injection hk with e1 e2 e3
  subst e1; subst e2; subst e3
  injection hb with e1 e2 e3
  subst e1; subst e2; subst e3
  refine (again_any W a0 c0 ks a1 c1 bs m hkl (Nat.le_trans k1 k2) ⟨b1, b2, b3, hbl⟩ hm).mono fun e W' ⟨he, hbel⟩ => ?_
  exact ⟨_, he, law_post laidOutK Tryd.underlying4 rfl rfl (by decide +kernel) ⟨rfl, rfl, rfl⟩ hW' hA hbel⟩
end Go.Proofs.YtoedhblihodgdaaDoor
