import Derived.Test.YtggcampdkgfmgaaGreatJL
namespace Go.Proofs.YtggcampdkgfmgaaGreat
open Go.RowKit

/-! Layer 17: sizes within reason, from any discipline that isn't great, through any calls. -/
def zc (x : List UInt8 × Bool) : Bool := decide (x.1.length + (if x.2 = true then 1 else 0) = 0)
/-- How many lines have nothing at all. -/
def zeroN (ls : List (List UInt8 × Bool)) : Nat := (ls.filter zc).length
theorem zeroN_cons (x : List UInt8 × Bool) (r : List (List UInt8 × Bool)) : zeroN (x :: r) = (if zc x = true then 1 else 0) + zeroN r := by
  unfold zeroN
  rw [List.filter_cons]
  split <;> simp [Nat.add_comm]
theorem zeroN_snoc (ls : List (List UInt8 × Bool)) (x : List UInt8 × Bool) (h : zc x = false) : zeroN (ls ++ [x]) = zeroN ls := by
  unfold zeroN
  rw [List.filter_append]
  simp [h]
theorem zeroN_le (ls : List (List UInt8 × Bool)) : zeroN ls ≤ ls.length := List.length_filter_le _ _
theorem len_le (ls : List (List UInt8 × Bool)) : ls.length ≤ zeroN ls + L13.usedL ls := by
  induction ls with
  | nil => exact Nat.zero_le _
  | cons x r ih =>
    rw [zeroN_cons]
    have e : L13.usedL (x :: r) = x.1.length + (if x.2 = true then 1 else 0) + L13.usedL r := by simp [L13.usedL, List.map_cons, List.sum_cons]
    rw [e, List.length_cons]
    by_cases h : zc x = true
    · rw [if_pos h]; omega
    · have : ¬ x.1.length + (if x.2 = true then 1 else 0) = 0 := by
        intro k
        exact h (decide_eq_true k)
      omega
structure JE (D : Ds) : Prop where
  z : zeroN D.ls ≤ 2000
  d : D.ls.length ≤ 2001 ∨ L13.usedL D.ls ≤ 1100
  off : D.has 51 = false → L13.usedL D.ls ≤ 14000 ∧ L13.usedL D.ls + D.raw.length ≤ 15050 ∧ D.ls.length ≤ 2000
section
variable {D E : Ds}
theorem JE.same (h : JE D) (e1 : E.t = D.t) (e2 : E.ls = D.ls) (e3 : E.raw = D.raw) : JE E := by
  refine ⟨by rw [e2]; exact h.z, by rw [e2]; exact h.d, fun k => ?_⟩
  have k2 : D.has 51 = false := by unfold Ds.has at k ⊢; rwa [e1] at k
  rw [e2, e3]
  exact h.off k2
theorem JE.oc (h : JE D) (k : OC D E) : JE E := h.same k.t k.ls k.raw
theorem JE.raw_ (h : JE D) {l : List UInt8} (hl : l.length ≤ 1024) : JE { D with raw := l } := ⟨h.z, h.d, fun k => by
  have h1 := h.off k
  refine ⟨h1.1, ?_, h1.2.2⟩
  show L13.usedL D.ls + l.length ≤ 15050
  omega⟩
theorem JE.rawle (h : JE D) {l : List UInt8} (hl : l.length ≤ D.raw.length) : JE { D with raw := l } := ⟨h.z, h.d, fun k => by
  have h1 := h.off k
  refine ⟨h1.1, ?_, h1.2.2⟩
  show L13.usedL D.ls + l.length ≤ 15050
  omega⟩
theorem JE.none_ (h : JE D) (e1 : E.t = D.t) (e2 : E.ls = []) (e3 : E.raw.length ≤ 1024) : JE E := by
  have _ := h.z
  have _ := e1
  refine ⟨by rw [e2]; exact Nat.zero_le _, by rw [e2]; exact .inl (Nat.zero_le _), fun _ => ?_⟩
  rw [e2]
  exact ⟨Nat.zero_le _, by show 0 + _ ≤ _; omega, Nat.zero_le _⟩
theorem JE.take (h : JE D) (c : UInt8) (b : List UInt8) : JE (takeD D c b) := by
  unfold takeD
  split
  · split
    · rename_i h1 h2
      exact (h.raw_ (by simpa using h2)).oc (echoD_oc _ _)
    · exact h.oc (beepD_oc D)
  · split
    · exact JE.oc (D := { D with fr := if D.line = [] then D.col else D.fr, line := D.line ++ b }) (h.same rfl rfl rfl) (echoD_oc _ _)
    · exact h.oc (beepD_oc D)
theorem JE.end_ (h : JE D) (hc : D.has 51 = true) (b : List UInt8) (eof : Bool) (hb : 1 ≤ b.length ∨ eof = true) : JE (endD D b eof) := by
  unfold endD endB
  split
  · rename_i h1
    unfold L13.putL at h1 ⊢
    split
    · rename_i h2
      refine ⟨?_, .inr ?_, fun k => ?_⟩
      · show zeroN (D.ls ++ [(D.line ++ b, eof)]) ≤ 2000
        rw [zeroN_snoc]
        · exact h.z
        · refine decide_eq_false ?_
          intro k
          have k2 : (D.line ++ b).length + (if eof = true then 1 else 0) = 0 := k
          rw [List.length_append] at k2
          rcases hb with hb | hb
          · omega
          · subst hb; simp at k2
      · show L13.usedL (D.ls ++ [(D.line ++ b, eof)]) ≤ 1100
        rw [L13.usedL_append]
        omega
      · have k1 : D.has 51 = false := k
        rw [hc] at k1
        cases k1
    · rename_i h2
      simp [h2] at h1
  · exact h.oc (beepD_oc D)
theorem JE.gone_ (h : JE D) (c : UInt8) (r g : List UInt8) : JE (goneD D c r g) := by
  unfold goneD
  split
  · exact h
  · split <;> exact JE.oc (D := { D with line := r }) (h.same rfl rfl rfl) (echoD_oc _ _)
theorem JE.kill (h : JE D) (c : UInt8) : JE (killD D c) := by
  unfold killD
  split <;> exact JE.oc (D := { D with line := [] }) (h.same rfl rfl rfl) (echoD_oc _ _)
theorem JE.again (h : JE D) (c : UInt8) : JE (againD D c) := by
  unfold againD
  exact JE.oc (D := { echoD D (signB D c ++ [10]) with fr := (echoD D (signB D c ++ [10])).col }) ((h.oc (echoD_oc D _)).same rfl rfl rfl) (echoD_oc _ _)
theorem JE.newline (h : JE D) (hc : D.has 51 = true) (c : UInt8) : JE (newlineD D c) := by
  have h2 := h.end_ hc [c] false (.inl (by simp))
  unfold newlineD
  split
  · exact h2
  · split
    · split
      · exact h2.oc (showD_oc _ _)
      · exact h2
    · exact h2.oc (echoD_oc _ _)
theorem JE.typed (h : JE D) (hc : D.has 51 = true) (c : UInt8) : JE (typedD D c) := by
  unfold typedD
  split
  · split
    · exact JE.oc (D := { D with nx := true }) (h.same rfl rfl rfl) (echoD_oc _ _)
    · exact h.same rfl rfl rfl
  · split
    · exact h.gone_ c _ _
    · split
      · exact h.gone_ c _ _
      · split
        · exact h.kill c
        · split
          · exact h.again c
          · split
            · exact h.end_ hc [] true (.inr rfl)
            · split
              · exact h.newline hc c
              · exact h.take c _
theorem JE.flushS (h : JE D) (sg : Int) : JE (flushS D sg) := by
  unfold Go.Proofs.YtggcampdkgfmgaaGreat.flushS
  split
  · exact h
  · exact h.none_ rfl rfl (Nat.zero_le _)
theorem JE.sigE (h : JE D) (c : UInt8) (sg : Int) : JE (sigE D c sg) := by
  unfold Go.Proofs.YtggcampdkgfmgaaGreat.sigE
  refine JE.oc ?_ (echoD_oc _ _)
  split
  · exact (h.flushS sg).same rfl rfl rfl
  · exact h.flushS sg
theorem JE.inner (h : JE D) (c : UInt8) : JE (innerD D c).1 := by
  unfold innerD
  split
  · exact JE.take (D := { D with nx := false }) (h.same rfl rfl rfl) c [c]
  · have h2 : JE { D with s := (L15.typedF D.t D.s D.h c).1.1, h := (L15.typedF D.t D.s D.h c).1.2 } := h.same rfl rfl rfl
    simp only
    split
    · exact h2
    · split
      · exact h2.sigE _ _
      · split
        · exact h2
        · split
          · rename_i h51
            exact h2.typed h51 _
          · exact h2.take _ _
theorem JE.mark (h : JE D) : JE (markD D) := JE.oc (D := { D with s := (L15.markF D.t D.s D.h (usedD D) 256 768).1.1, h := (L15.markF D.t D.s D.h (usedD D) 256 768).1.2 }) (h.same rfl rfl rfl) (putD_oc _ _)
theorem JE.input (h : JE D) (c : UInt8) : JE (inputD D c).1 := (JE.inner (D := { D with idle := 0 }) (h.same rfl rfl rfl) _).mark
theorem zeroN_read (ls : List (List UInt8 × Bool)) (n : Int) : zeroN (L13.readL ls n).2.1 ≤ zeroN ls := by
  cases ls with
  | nil => exact Nat.le_refl _
  | cons x r =>
    simp only [L13.readL]
    split
    · exact Nat.le_refl _
    · split
      · show zeroN r ≤ zeroN (x :: r)
        rw [zeroN_cons]; omega
      · rename_i h1 h2
        rw [zeroN_cons, zeroN_cons, if_neg]
        · omega
        · intro k
          have := of_decide_eq_true k
          simp only [List.length_drop] at this
          omega
theorem len_read (ls : List (List UInt8 × Bool)) (n : Int) : (L13.readL ls n).2.1.length ≤ ls.length := by
  cases ls with
  | nil => exact Nat.le_refl _
  | cons x r =>
    simp only [L13.readL]
    split
    · exact Nat.le_refl _
    · split <;> simp
theorem JE.read (h : JE D) (n w : Int) : JE (readD D n w).1 := by
  unfold readD
  split
  · rename_i hc
    simp only
    split
    · refine JE.mark ⟨Nat.le_trans (zeroN_read D.ls n) h.z, ?_, fun k => ?_⟩
      · rcases h.d with h1 | h1
        · exact .inl (Nat.le_trans (len_read D.ls n) h1)
        · exact .inr (Nat.le_trans (readL_le D.ls n) h1)
      · have k1 : D.has 51 = false := k
        rw [hc] at k1
        cases k1
    · exact h
  · simp only
    split
    · exact JE.mark (h.rawle (by simp))
    · exact h
theorem JE.set (h : JE D) (t : Tm) : JE (setD D t) := by
  unfold setD setD1
  cases h1 : D.has 51
  · cases h2 : hasN t.f 51
    · rw [if_neg (by simp), if_neg (by simp)]
      refine ⟨h.z, h.d, fun _ => h.off h1⟩
    · have ho := h.off h1
      rw [if_neg (by simp)]
      split
      · rename_i h3
        refine ⟨?_, .inl ?_, fun k => ?_⟩
        · show zeroN (D.ls ++ [(D.raw, true)]) ≤ 2000
          rw [zeroN_snoc]
          · exact h.z
          · exact decide_eq_false (by simp)
        · show (D.ls ++ [(D.raw, true)]).length ≤ 2001
          rw [List.length_append]
          have := ho.2.2
          simp
          omega
        · have k1 : hasN t.f 51 = false := k
          rw [h2] at k1
          cases k1
      · exact ⟨h.z, h.d, fun k => by
          have k1 : hasN t.f 51 = false := k
          rw [h2] at k1
          cases k1⟩
  · cases h2 : hasN t.f 51
    · rw [if_pos (by simp)]
      refine ⟨Nat.zero_le _, .inl (Nat.zero_le _), fun _ => ⟨Nat.zero_le _, ?_, Nat.zero_le _⟩⟩
      show 0 + ((D.raw ++ L13.flatL D.ls ++ D.line).take 1024).length ≤ 15050
      rw [List.length_take]
      omega
    · rw [if_neg (by simp), if_neg (by simp)]
      exact ⟨h.z, h.d, fun k => by
        have k1 : hasN t.f 51 = false := k
        rw [h2] at k1
        cases k1⟩
theorem JE.flush (h : JE D) (n : Int) : JE (flushD D n) := by
  unfold flushD
  simp only
  split
  · split
    · exact h.none_ rfl rfl (Nat.zero_le _)
    · exact h.same rfl rfl rfl
  · split
    · exact h.none_ rfl rfl (Nat.zero_le _)
    · exact h
end
/-- A discipline whose sizes are within reason, and stay so. -/
structure Jv (D : Ds) : Prop where
  fit : FitN 3101 D
  ex : JE D
section
variable {D : Ds}
theorem Jv.of {n : Nat} (f : FitN n D) (e : JE D) : Jv D := ⟨⟨f.t, f.line, f.raw, f.out, by
  have h1 := len_le D.ls
  have h2 := e.z
  rcases e.d with h | h <;> omega, f.used, f.col, f.fr, f.idle⟩, e⟩
theorem Jv.fits (h : Jv D) : Fit D := h.fit.fit (by omega)
theorem Jv.input (h : Jv D) (c : UInt8) : Jv (inputD D c).1 := Jv.of (h.fit.input c) (h.ex.input c)
theorem Jv.write (h : Jv D) (b : List UInt8) : Jv (writeD D b) := by
  have h1 := L12.bytesP_le (L12.poF D.t) (b.take (writeN D b)) _ (nrm_le D.col)
  have f := h.fit
  refine Jv.of (n := 3101) ⟨f.t, f.line, f.raw, ?_, f.ls, f.used, ok_nat h1, f.fr, f.idle⟩ (h.ex.same rfl rfl rfl)
  have h2 : writeN D b = 0 ∨ (L12.outN (L12.poF D.t) (nrm D.col) b (writeN D b) : Int) ≤ 4096 - (D.out.length : Int) := L12.fitN_in b.length
  have ho := f.out
  show (D.out ++ _).length ≤ 13000
  rw [List.length_append]
  rcases h2 with h2 | h2
  · rw [h2]
    simpa [L12.bytesP] using ho
  · unfold L12.outN at h2
    omega
theorem Jv.output (h : Jv D) (n : Int) : Jv (outputD D n) := by
  have f := h.fit
  have ho := f.out
  exact Jv.of (n := 3101) ⟨f.t, f.line, f.raw, by simp [outputD]; omega, f.ls, f.used, f.col, f.fr, f.idle⟩ (h.ex.same rfl rfl rfl)
theorem FitN.read {n : Nat} (h : FitN n D) (k w : Int) : FitN n (readD D k w).1 := by
  unfold readD
  split
  · simp only
    split
    · exact FitN.mark (D := { D with ls := (L13.readL D.ls k).2.1 }) ⟨h.t, h.line, h.raw, h.out, Nat.le_trans (len_read D.ls k) h.ls, Nat.le_trans (readL_le D.ls k) h.used, h.col, h.fr, h.idle⟩
    · exact h
  · simp only
    split
    · have hr := h.raw
      exact FitN.mark (h.raw_ (by simp; omega))
    · exact h
theorem Jv.read (h : Jv D) (n w : Int) : Jv (readD D n w).1 := Jv.of (h.fit.read n w) (h.ex.read n w)
theorem Jv.set (h : Jv D) {t : Tm} (ht : t.Ok) : Jv (setD D t) := by
  have f := h.fit
  have e := h.ex.set t
  refine Jv.of (n := 3102) ?_ e
  unfold setD setD1
  split
  · refine ⟨ht, by simp, ?_, f.out, by simp, by simp [L13.usedL], f.col, f.fr, f.idle⟩
    show ((D.raw ++ L13.flatL D.ls ++ D.line).take 1024).length ≤ 13000
    rw [List.length_take]
    omega
  · split
    · rename_i h1 h2
      have h51 : D.has 51 = false := by
        cases h3 : D.has 51
        · rfl
        · rw [h3] at h2; simp at h2
      have ho := h.ex.off h51
      refine ⟨ht, f.line, by simp, f.out, ?_, ?_, f.col, f.fr, f.idle⟩
      · show (D.ls ++ [(D.raw, true)]).length ≤ 3102
        rw [List.length_append]
        have := f.ls
        simp
        omega
      · show L13.usedL (D.ls ++ [(D.raw, true)]) ≤ 20000
        rw [L13.usedL_append]
        have : L13.usedL [(D.raw, true)] = D.raw.length + 1 := by simp [L13.usedL]
        omega
    · exact ⟨ht, f.line, f.raw, f.out, Nat.le_succ_of_le f.ls, f.used, f.col, f.fr, f.idle⟩
theorem Jv.flush (h : Jv D) (n : Int) : Jv (flushD D n) := by
  have f := h.fit
  refine Jv.of (n := 3101) ?_ (h.ex.flush n)
  unfold flushD
  simp only
  split
  · split
    · exact ⟨f.t, by simp, by simp, by simp, by simp, by simp [L13.usedL], f.col, f.fr, f.idle⟩
    · exact ⟨f.t, f.line, f.raw, by simp, f.ls, f.used, f.col, f.fr, f.idle⟩
  · split
    · exact ⟨f.t, by simp, by simp, f.out, by simp, by simp [L13.usedL], f.col, f.fr, f.idle⟩
    · exact f
theorem jvF : Hid (∀ D, Jv D → Fit D) := hid fun _ h => h.fits
theorem jvN : Hid (∀ D c, Jv D → Jv (inputD D c).1) := hid fun _ c h => h.input c
end
end Go.Proofs.YtggcampdkgfmgaaGreat
