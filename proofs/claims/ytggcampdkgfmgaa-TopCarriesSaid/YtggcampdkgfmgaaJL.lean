import Derived.Test.YtggcampdkgfmgaaJC
import Derived.Test.YtggcampdkgfmgaaJD
import Derived.Test.YtggcampdkgfmgaaJE
import Derived.Test.YtggcampdkgfmgaaJG
import Derived.Test.YtggcampdkgfmgaaJI
import Derived.Test.YtggcampdkgfmgaaJJ
import Derived.Test.YtggcampdkgfmgaaJK
import Derived.Laws.CopyOwn
import Derived.Deep.DeepCutAuto
namespace Go.Proofs.Ytggcampdkgfmgaa
open Go.RowKit

/-! Layer 16: what a discipline is, and what each call makes of it. -/
structure Ds where
  t : Tm
  line : List UInt8
  nx : Bool
  ls : List (List UInt8 × Bool)
  raw : List UInt8
  s : Bool
  h : Bool
  out : List UInt8
  col : Int
  fr : Int
  idle : Int
def Ds.has (D : Ds) (op : Int) : Bool := hasN D.t.f op
def Ds.is (D : Ds) (op : Int) (c : UInt8) : Bool := L15.isC D.t op c
def usedD (D : Ds) : Nat := L13.usedL D.ls + D.line.length + D.raw.length
def newD (t : Tm) : Ds := ⟨t, [], false, [], [], false, false, [], 0, 0, 0⟩
/-- What is put out, and what is lost. -/
def putD (D : Ds) (b : List UInt8) : Ds := if D.out.length + b.length ≤ 4096 then { D with out := D.out ++ b } else D
def putB (D : Ds) (b : List UInt8) : Bool := decide (D.out.length + b.length ≤ 4096)
def showD (D : Ds) (b : List UInt8) : Ds :=
  if D.out.length + (L12.bytesP (L12.poF D.t) (nrm D.col) b).1.length ≤ 4096 then { D with out := D.out ++ (L12.bytesP (L12.poF D.t) (nrm D.col) b).1, col := (L12.bytesP (L12.poF D.t) (nrm D.col) b).2 } else D
def echoD (D : Ds) (b : List UInt8) : Ds := if D.has 53 = true then showD D b else D
def beepD (D : Ds) : Ds := if D.has 41 = true then putD D [7] else D
def signB (D : Ds) (c : UInt8) : List UInt8 := showB (D.has 60) c
def takeD (D : Ds) (c : UInt8) (b : List UInt8) : Ds :=
  if D.has 51 = false then (if D.raw.length + b.length ≤ 1024 then echoD { D with raw := D.raw ++ b } (signB D c) else beepD D)
  else if D.line.length + b.length ≤ 254 then echoD { D with fr := if D.line = [] then D.col else D.fr, line := D.line ++ b } (signB D c) else beepD D
def endB (D : Ds) (b : List UInt8) (eof : Bool) : Bool := (L13.putL D.ls (D.line ++ b, eof)).2
def endD (D : Ds) (b : List UInt8) (eof : Bool) : Ds := if endB D b eof = true then { D with ls := (L13.putL D.ls (D.line ++ b, eof)).1, line := [] } else beepD D
def markD (D : Ds) : Ds :=
  putD { D with s := (L15.markF D.t D.s D.h (usedD D) 256 768).1.1, h := (L15.markF D.t D.s D.h (usedD D) 256 768).1.2 } (L15.markF D.t D.s D.h (usedD D) 256 768).2
/-- The signal that a byte means; 0: none. -/
def sigD (D : Ds) (c : UInt8) : Int := if D.has 50 = false then 0 else if D.is 1 c = true then 2 else if D.is 2 c = true then 3 else if D.is 10 c = true then 20 else 0
def goneD (D : Ds) (c : UInt8) (rest gone : List UInt8) : Ds :=
  if gone = [] then D else if D.has 54 = true then echoD { D with line := rest } (rubB (D.has 60) (D.has 42) (nrm D.fr) rest gone) else echoD { D with line := rest } (signB D c)
def killD (D : Ds) (c : UInt8) : Ds :=
  if (D.has 54 && D.has 61) = true then echoD { D with line := [] } (rubB (D.has 60) (D.has 42) (nrm D.fr) [] D.line)
  else echoD { D with line := [] } (signB D c ++ if D.has 55 = true then [10] else [])
def againD (D : Ds) (c : UInt8) : Ds :=
  let E := echoD D (signB D c ++ [10])
  echoD { E with fr := E.col } (lineB (D.has 60) D.line)
def newlineD (D : Ds) (c : UInt8) : Ds :=
  if endB D [c] false = false then endD D [c] false
  else if c = 10 then (if D.has 53 = true ∨ D.has 56 = true then showD (endD D [c] false) [10] else endD D [c] false)
  else echoD (endD D [c] false) (signB D c)
/-- A byte, as it is by then, with ICANON. -/
def typedD (D : Ds) (c : UInt8) : Ds :=
  if (D.has 59 && D.is 14 c) = true then (if D.has 60 = true then echoD { D with nx := true } [94, 8] else { D with nx := true })
  else if D.is 3 c = true then goneD D c (L10.eraA (D.has 42) D.line) (L10.eraB (D.has 42) D.line)
  else if (D.has 59 && D.is 13 c) = true then goneD D c (L10.restL (D.has 42) D.line) (L10.goneL (D.has 42) D.line)
  else if D.is 4 c = true then killD D c
  else if (D.has 59 && D.is 12 c) = true then againD D c
  else if D.is 5 c = true then endD D [] true
  else if (decide (c = 10) || D.is 6 c || D.has 59 && D.is 7 c) = true then newlineD D c
  else takeD D c (L9.markB D.t c)
/-- What is thrown away with a signal. -/
def flushS (D : Ds) (sg : Int) : Ds := if D.has 57 = true then D else { D with line := [], ls := [], raw := [], out := if sg = 20 then D.out else [] }
def sigE (D : Ds) (c : UInt8) (sg : Int) : Ds :=
  echoD (if D.has 38 = true then { flushS D sg with s := false } else flushS D sg) (signB D c)
/-- What a byte makes of it, but for the marks; c has been stripped. -/
def innerD (D : Ds) (c : UInt8) : Ds × List Int :=
  if D.nx = true then (takeD { D with nx := false } c [c], [])
  else
    let r := L15.typedF D.t D.s D.h c
    let E : Ds := { D with s := r.1.1, h := r.1.2 }
    if r.2 = true then (E, [])
    else if sigD E c ≠ 0 then (sigE E c (sigD E c), [sigD E c])
    else if (L9.turnB D.t c).2 = false then (E, [])
    else if D.has 51 = true then (typedD E (L9.turnB D.t c).1, [])
    else (takeD E (L9.turnB D.t c).1 (L9.markB D.t (L9.turnB D.t c).1), [])
def inputD (D : Ds) (c : UInt8) : Ds × List Int :=
  (markD (innerD { D with idle := 0 } (L9.stripB D.t c)).1, (innerD { D with idle := 0 } (L9.stripB D.t c)).2)
def writeN (D : Ds) (b : List UInt8) : Nat := L12.fitP (L12.poF D.t) (nrm D.col) b (4096 - (D.out.length : Int))
def writeD (D : Ds) (b : List UInt8) : Ds :=
  { D with out := D.out ++ (L12.bytesP (L12.poF D.t) (nrm D.col) (b.take (writeN D b))).1, col := (L12.bytesP (L12.poF D.t) (nrm D.col) (b.take (writeN D b))).2 }
def outN16 (D : Ds) (n : Int) : Nat := if D.s = true then 0 else (max 0 (min n D.out.length)).toNat
def outputD (D : Ds) (n : Int) : Ds := { D with out := D.out.drop (outN16 D n) }
def outputB (D : Ds) (n : Int) : List UInt8 := D.out.take (outN16 D n)
def readD (D : Ds) (n waited : Int) : Ds × List UInt8 × Bool :=
  if D.has 51 = true then
    let r := L13.readL D.ls n
    if r.2.2 = true then (markD { D with ls := r.2.1 }, r.1, true) else (D, [], false)
  else
    let r := L14.readyI D.t.m D.t.s D.raw.length n D.idle waited
    if r.2 = true then (markD { D with raw := D.raw.drop r.1.toNat }, D.raw.take r.1.toNat, true) else (D, [], false)
def tickD (D : Ds) (n : Int) : Ds := if 0 < n ∧ D.idle ≤ 1048576 - n then { D with idle := D.idle + n } else D
def setD1 (D : Ds) (t : Tm) : Ds :=
  if (D.has 51 && !hasN t.f 51) = true then { D with raw := (D.raw ++ L13.flatL D.ls ++ D.line).take 1024, ls := [], line := [], nx := false }
  else if (!D.has 51 && hasN t.f 51) = true ∧ D.raw ≠ [] then { D with ls := D.ls ++ [(D.raw, true)], raw := [] } else D
def setD (D : Ds) (t : Tm) : Ds := { setD1 D t with t := t }
def flushD (D : Ds) (what : Int) : Ds :=
  let E : Ds := if what = 1 ∨ what = 3 then { D with line := [], ls := [], raw := [], nx := false } else D
  if what = 2 ∨ what = 3 then { E with out := [] } else E
def askD (D : Ds) (what : Int) : Ds × Int :=
  let r := L15.askF D.t D.s D.h what
  if r.2.2 = 0 then (putD { D with s := r.1.1, h := r.1.2 } r.2.1, 0) else (D, r.2.2)
end Go.Proofs.Ytggcampdkgfmgaa
namespace Go.Proofs.Ytggcampdkgfmgaa
open Go.RowKit

/-! Layer 16's maths: what stays as it is; signals; bounds. -/
/-- Nothing but what goes out, and the column. -/
def OC (D E : Ds) : Prop := E = { D with out := E.out, col := E.col }
theorem OC.refl (D : Ds) : OC D D := rfl
theorem OC.trans {D E F : Ds} (h : OC D E) (k : OC E F) : OC D F := by
  unfold OC at h k ⊢
  rw [k, h]
theorem putD_oc (D : Ds) (b : List UInt8) : OC D (putD D b) := by unfold putD; split <;> rfl
theorem showD_oc (D : Ds) (b : List UInt8) : OC D (showD D b) := by unfold showD; split <;> rfl
theorem echoD_oc (D : Ds) (b : List UInt8) : OC D (echoD D b) := by
  unfold echoD
  split
  · exact showD_oc D b
  · rfl
theorem beepD_oc (D : Ds) : OC D (beepD D) := by
  unfold beepD
  split
  · exact putD_oc D _
  · rfl
theorem OC.used {D E : Ds} (h : OC D E) : usedD E = usedD D := by rw [h]; rfl
theorem OC.t {D E : Ds} (h : OC D E) : E.t = D.t := by rw [h]
theorem OC.line {D E : Ds} (h : OC D E) : E.line = D.line := by rw [h]
theorem OC.nx {D E : Ds} (h : OC D E) : E.nx = D.nx := by rw [h]
theorem OC.ls {D E : Ds} (h : OC D E) : E.ls = D.ls := by rw [h]
theorem OC.raw {D E : Ds} (h : OC D E) : E.raw = D.raw := by rw [h]
theorem OC.s {D E : Ds} (h : OC D E) : E.s = D.s := by rw [h]
theorem OC.h {D E : Ds} (h : OC D E) : E.h = D.h := by rw [h]
theorem OC.fr {D E : Ds} (h : OC D E) : E.fr = D.fr := by rw [h]
theorem OC.idle {D E : Ds} (h : OC D E) : E.idle = D.idle := by rw [h]
theorem markD_used (D : Ds) : usedD (markD D) = usedD D := (putD_oc _ _).used
theorem markD_t (D : Ds) : (markD D).t = D.t := (putD_oc _ _).t
theorem sigE_used (D : Ds) (c : UInt8) (sg : Int) : usedD (sigE D c sg) = if D.has 57 = true then usedD D else 0 := by
  unfold sigE
  rw [(echoD_oc _ _).used]
  have e : ∀ E : Ds, usedD (if D.has 38 = true then { E with s := false } else E) = usedD E := fun E => by split <;> rfl
  rw [e]
  unfold flushS
  split <;> rfl
/-- Signals come of three characters alone. -/
theorem sigD_way {D : Ds} {c : UInt8} (h : sigD D c ≠ 0) : D.has 50 = true ∧ ((sigD D c = 2 ∧ D.is 1 c = true) ∨ (sigD D c = 3 ∧ D.is 2 c = true) ∨ (sigD D c = 20 ∧ D.is 10 c = true)) := by
  unfold sigD at h ⊢
  cases h50 : D.has 50
  · simp [h50] at h
  · cases h1 : D.is 1 c
    · cases h2 : D.is 2 c
      · cases h3 : D.is 10 c
        · simp [h50, h1, h2, h3] at h
        · simp
      · simp
    · simp
theorem innerD_sig (D : Ds) (c : UInt8) : (innerD D c).2 = [] ∨ (D.nx = false ∧ D.has 50 = true ∧ usedD (innerD D c).1 = (if D.has 57 = true then usedD D else 0) ∧ (((innerD D c).2 = [2] ∧ D.is 1 c = true) ∨ ((innerD D c).2 = [3] ∧ D.is 2 c = true) ∨ ((innerD D c).2 = [20] ∧ D.is 10 c = true))) := by
  unfold innerD
  cases hn : D.nx
  · simp only [Bool.false_eq_true, if_false]
    split
    · exact .inl rfl
    · split
      · rename_i h1 h2
        right
        obtain ⟨h50, hw⟩ := sigD_way h2
        refine ⟨trivial, h50, sigE_used _ _ _, ?_⟩
        rcases hw with ⟨a, b⟩ | ⟨a, b⟩ | ⟨a, b⟩
        · exact .inl ⟨by rw [a], b⟩
        · exact .inr (.inl ⟨by rw [a], b⟩)
        · exact .inr (.inr ⟨by rw [a], b⟩)
      · split
        · exact .inl rfl
        · split <;> exact .inl rfl
  · simp
theorem inputD_sig (D : Ds) (c : UInt8) : (inputD D c).2 = [] ∨ (D.nx = false ∧ D.has 50 = true ∧ usedD (inputD D c).1 = (if D.has 57 = true then usedD D else 0) ∧ (((inputD D c).2 = [2] ∧ D.is 1 (L9.stripB D.t c) = true) ∨ ((inputD D c).2 = [3] ∧ D.is 2 (L9.stripB D.t c) = true) ∨ ((inputD D c).2 = [20] ∧ D.is 10 (L9.stripB D.t c) = true))) := by
  unfold inputD
  rw [markD_used]
  exact innerD_sig { D with idle := 0 } _
/-- What waits is never too much. -/
structure Inv (D : Ds) : Prop where
  t : D.t.Ok
  line : D.line.length ≤ 254
  ls : L13.usedL D.ls ≤ 1025
  one : ∀ x ∈ D.ls, 1 ≤ x.1.length + (if x.2 = true then 1 else 0)
  raw : D.raw.length ≤ 1024
  out : D.out.length ≤ 4096
  i0 : 0 ≤ D.idle
  i1 : D.idle ≤ 1048576
  c0 : 0 ≤ D.col
  c1 : D.col ≤ 65535
  f0 : 0 ≤ D.fr
  f1 : D.fr ≤ 65535
  off : D.has 51 = false → D.ls = []
theorem Inv.oc {D E : Ds} (h : Inv D) (k : OC D E) (ho : E.out.length ≤ 4096) (h0 : 0 ≤ E.col) (h1 : E.col ≤ 65535) : Inv E := by
  have e := k
  unfold OC at e
  rw [e] at ho h0 h1 ⊢
  exact ⟨h.t, h.line, h.ls, h.one, h.raw, ho, h.i0, h.i1, h0, h1, h.f0, h.f1, h.off⟩
theorem Inv.new {t : Tm} (ht : t.Ok) : Inv (newD t) := ⟨ht, by simp [newD], by simp [newD, L13.usedL], by simp [newD], by simp [newD], by simp [newD], by simp [newD], by simp [newD], by simp [newD], by simp [newD], by simp [newD], by simp [newD], by simp [newD]⟩
theorem Inv.put {D : Ds} (h : Inv D) (b : List UInt8) : Inv (putD D b) := by
  unfold putD
  split
  · rename_i hb
    exact ⟨h.t, h.line, h.ls, h.one, h.raw, by simpa using hb, h.i0, h.i1, h.c0, h.c1, h.f0, h.f1, h.off⟩
  · exact h
theorem Inv.show_ {D : Ds} (h : Inv D) (b : List UInt8) : Inv (showD D b) := by
  unfold showD
  split
  · rename_i hb
    have := L12.bytesP_le (L12.poF D.t) b _ (nrm_le D.col)
    exact ⟨h.t, h.line, h.ls, h.one, h.raw, by simpa using hb, h.i0, h.i1, by simp, by simp; omega, h.f0, h.f1, h.off⟩
  · exact h
theorem Inv.echo {D : Ds} (h : Inv D) (b : List UInt8) : Inv (echoD D b) := by
  unfold echoD
  split
  · exact h.show_ b
  · exact h
theorem Inv.beep {D : Ds} (h : Inv D) : Inv (beepD D) := by
  unfold beepD
  split
  · exact h.put _
  · exact h
theorem Inv.line_ {D : Ds} (h : Inv D) {l : List UInt8} (hl : l.length ≤ 254) : Inv { D with line := l } := ⟨h.t, hl, h.ls, h.one, h.raw, h.out, h.i0, h.i1, h.c0, h.c1, h.f0, h.f1, h.off⟩
theorem Inv.fr_ {D : Ds} (h : Inv D) : Inv { D with fr := D.col } := ⟨h.t, h.line, h.ls, h.one, h.raw, h.out, h.i0, h.i1, h.c0, h.c1, h.c0, h.c1, h.off⟩
theorem Inv.nx_ {D : Ds} (h : Inv D) (b : Bool) : Inv { D with nx := b } := ⟨h.t, h.line, h.ls, h.one, h.raw, h.out, h.i0, h.i1, h.c0, h.c1, h.f0, h.f1, h.off⟩
theorem Inv.flow {D : Ds} (h : Inv D) (a b : Bool) : Inv { D with s := a, h := b } := ⟨h.t, h.line, h.ls, h.one, h.raw, h.out, h.i0, h.i1, h.c0, h.c1, h.f0, h.f1, h.off⟩
theorem Inv.idle_ {D : Ds} (h : Inv D) {i : Int} (h0 : 0 ≤ i) (h1 : i ≤ 1048576) : Inv { D with idle := i } := ⟨h.t, h.line, h.ls, h.one, h.raw, h.out, h0, h1, h.c0, h.c1, h.f0, h.f1, h.off⟩
theorem Inv.raw_ {D : Ds} (h : Inv D) {l : List UInt8} (hl : l.length ≤ 1024) : Inv { D with raw := l } := ⟨h.t, h.line, h.ls, h.one, hl, h.out, h.i0, h.i1, h.c0, h.c1, h.f0, h.f1, h.off⟩
theorem Inv.take {D : Ds} (h : Inv D) (c : UInt8) (b : List UInt8) : Inv (takeD D c b) := by
  unfold takeD
  split
  · split
    · rename_i h1 h2
      exact (h.raw_ (by simpa using h2)).echo _
    · exact h.beep
  · split
    · rename_i h1 h2
      refine Inv.echo (D := { D with fr := if D.line = [] then D.col else D.fr, line := D.line ++ b }) ⟨h.t, by simpa using h2, h.ls, h.one, h.raw, h.out, h.i0, h.i1, h.c0, h.c1, ?_, ?_, h.off⟩ _
      · show 0 ≤ (if D.line = [] then D.col else D.fr)
        split
        · exact h.c0
        · exact h.f0
      · show (if D.line = [] then D.col else D.fr) ≤ 65535
        split
        · exact h.c1
        · exact h.f1
    · exact h.beep
theorem Inv.end_ {D : Ds} (h : Inv D) (hc : D.has 51 = true) (b : List UInt8) (eof : Bool) (hb : 1 ≤ b.length ∨ eof = true) : Inv (endD D b eof) := by
  unfold endD endB
  split
  · rename_i h1
    unfold L13.putL at h1 ⊢
    split
    · rename_i h2
      refine ⟨h.t, by simp, ?_, ?_, h.raw, h.out, h.i0, h.i1, h.c0, h.c1, h.f0, h.f1, fun k => ?_⟩
      · show L13.usedL (D.ls ++ [(D.line ++ b, eof)]) ≤ 1025
        rw [L13.usedL_append]
        omega
      · intro x hx
        rcases List.mem_append.1 hx with hx | hx
        · exact h.one x hx
        · obtain rfl := List.mem_singleton.1 hx
          rcases hb with hb | hb
          · simp; omega
          · subst hb; simp
      · have k1 : D.has 51 = false := k
        rw [hc] at k1
        cases k1
    · rename_i h2
      simp [h2] at h1
  · exact h.beep
theorem Inv.mark {D : Ds} (h : Inv D) : Inv (markD D) := (h.flow _ _).put _
theorem eraA_le (u : Bool) (l : List UInt8) : (L10.eraA u l).length ≤ l.length := by unfold L10.eraA; simp
theorem restL_le (u : Bool) (l : List UInt8) : (L10.restL u l).length ≤ l.length := by
  have := L10.word_join u l
  have h2 := congrArg List.length this
  rw [List.length_append] at h2
  omega
theorem Inv.gone_ {D : Ds} (h : Inv D) (c : UInt8) {r g : List UInt8} (hr : r.length ≤ D.line.length) : Inv (goneD D c r g) := by
  have hl := h.line
  unfold goneD
  split
  · exact h
  · split
    · exact (h.line_ (by omega)).echo _
    · exact (h.line_ (by omega)).echo _
theorem Inv.kill {D : Ds} (h : Inv D) (c : UInt8) : Inv (killD D c) := by
  unfold killD
  split
  · exact (h.line_ (by simp)).echo _
  · exact (h.line_ (by simp)).echo _
theorem Inv.again {D : Ds} (h : Inv D) (c : UInt8) : Inv (againD D c) := by
  unfold againD
  exact ((h.echo _).fr_).echo _
theorem endD_t (D : Ds) (b : List UInt8) (eof : Bool) : (endD D b eof).t = D.t := by
  unfold endD
  split
  · rfl
  · exact (beepD_oc D).t
theorem Inv.newline {D : Ds} (h : Inv D) (hc : D.has 51 = true) (c : UInt8) : Inv (newlineD D c) := by
  have h2 := h.end_ hc [c] false (.inl (by simp))
  unfold newlineD
  split
  · exact h2
  · split
    · split
      · exact h2.show_ _
      · exact h2
    · exact h2.echo _
theorem Inv.typed {D : Ds} (h : Inv D) (hc : D.has 51 = true) (c : UInt8) : Inv (typedD D c) := by
  unfold typedD
  split
  · split
    · exact (h.nx_ true).echo _
    · exact h.nx_ true
  · split
    · exact h.gone_ c (eraA_le _ _)
    · split
      · exact h.gone_ c (restL_le _ _)
      · split
        · exact h.kill c
        · split
          · exact h.again c
          · split
            · exact h.end_ hc [] true (.inr rfl)
            · split
              · exact h.newline hc c
              · exact h.take c _
theorem Inv.flushS {D : Ds} (h : Inv D) (sg : Int) : Inv (flushS D sg) := by
  have ho := h.out
  unfold Go.Proofs.Ytggcampdkgfmgaa.flushS
  split
  · exact h
  · refine ⟨h.t, by simp, by simp [L13.usedL], by simp, by simp, ?_, h.i0, h.i1, h.c0, h.c1, h.f0, h.f1, fun _ => rfl⟩
    show (if sg = 20 then D.out else []).length ≤ 4096
    split
    · exact ho
    · simp
theorem Inv.sigE {D : Ds} (h : Inv D) (c : UInt8) (sg : Int) : Inv (sigE D c sg) := by
  unfold Go.Proofs.Ytggcampdkgfmgaa.sigE
  refine Inv.echo ?_ _
  split
  · exact ⟨(h.flushS sg).t, (h.flushS sg).line, (h.flushS sg).ls, (h.flushS sg).one, (h.flushS sg).raw, (h.flushS sg).out, (h.flushS sg).i0, (h.flushS sg).i1, (h.flushS sg).c0, (h.flushS sg).c1, (h.flushS sg).f0, (h.flushS sg).f1, (h.flushS sg).off⟩
  · exact h.flushS sg
theorem Inv.inner {D : Ds} (h : Inv D) (c : UInt8) : Inv (innerD D c).1 := by
  unfold innerD
  split
  · exact (h.nx_ false).take c [c]
  · have h2 := h.flow (L15.typedF D.t D.s D.h c).1.1 (L15.typedF D.t D.s D.h c).1.2
    simp only
    split
    · exact h2
    · split
      · exact h2.sigE _ _
      · split
        · exact h2
        · split
          · rename_i h51
            exact h2.typed h51 _
          · exact h2.take _ _
theorem Inv.input {D : Ds} (h : Inv D) (c : UInt8) : Inv (inputD D c).1 := ((h.idle_ (Int.le_refl 0) (by omega)).inner _).mark
end Go.Proofs.Ytggcampdkgfmgaa
namespace Go.Proofs.Ytggcampdkgfmgaa
open Go.RowKit

/-! Layer 16's maths: bounds behind the other calls; what is typed with ICANON, line by line; without it. -/
theorem Inv.write {D : Ds} (h : Inv D) (b : List UInt8) : Inv (writeD D b) := by
  have h1 := L12.bytesP_le (L12.poF D.t) (b.take (writeN D b)) _ (nrm_le D.col)
  refine ⟨h.t, h.line, h.ls, h.one, h.raw, ?_, h.i0, h.i1, by simp [writeD], by simp [writeD]; omega, h.f0, h.f1, h.off⟩
  have h2 : writeN D b = 0 ∨ (L12.outN (L12.poF D.t) (nrm D.col) b (writeN D b) : Int) ≤ 4096 - (D.out.length : Int) := L12.fitN_in b.length
  have ho := h.out
  show (D.out ++ _).length ≤ 4096
  rw [List.length_append]
  rcases h2 with h2 | h2
  · rw [h2]
    simpa [L12.bytesP] using ho
  · unfold L12.outN at h2
    omega
theorem Inv.output {D : Ds} (h : Inv D) (n : Int) : Inv (outputD D n) := by
  have ho := h.out
  exact ⟨h.t, h.line, h.ls, h.one, h.raw, by simp [outputD]; omega, h.i0, h.i1, h.c0, h.c1, h.f0, h.f1, h.off⟩
theorem readL_le (ls : List (List UInt8 × Bool)) (n : Int) : L13.usedL (L13.readL ls n).2.1 ≤ L13.usedL ls := by
  cases ls with
  | nil => exact Nat.le_refl _
  | cons x r =>
    simp only [L13.readL]
    split
    · exact Nat.le_refl _
    · split
      · simp only [L13.usedL, List.map_cons, List.sum_cons]; omega
      · simp only [L13.usedL, List.map_cons, List.sum_cons, List.length_drop]; omega
theorem readL_one {ls : List (List UInt8 × Bool)} (h : ∀ x ∈ ls, 1 ≤ x.1.length + (if x.2 = true then 1 else 0)) (n : Int) : ∀ x ∈ (L13.readL ls n).2.1, 1 ≤ x.1.length + (if x.2 = true then 1 else 0) := by
  cases ls with
  | nil => exact h
  | cons x r =>
    simp only [L13.readL]
    split
    · exact h
    · split
      · exact fun y hy => h y (List.mem_cons_of_mem _ hy)
      · rename_i h1 h2
        intro y hy
        rcases List.mem_cons.1 hy with rfl | hy
        · simp only [List.length_drop]
          omega
        · exact h y (List.mem_cons_of_mem _ hy)
theorem Inv.ls_ {D : Ds} (h : Inv D) {l : List (List UInt8 × Bool)} (h1 : L13.usedL l ≤ 1025) (h2 : ∀ x ∈ l, 1 ≤ x.1.length + (if x.2 = true then 1 else 0)) (h3 : D.has 51 = false → l = []) : Inv { D with ls := l } := ⟨h.t, h.line, h1, h2, h.raw, h.out, h.i0, h.i1, h.c0, h.c1, h.f0, h.f1, h3⟩
theorem Inv.read {D : Ds} (h : Inv D) (n w : Int) : Inv (readD D n w).1 := by
  unfold readD
  split
  · rename_i hc
    simp only
    split
    · refine Inv.mark (h.ls_ (Nat.le_trans (readL_le D.ls n) h.ls) (readL_one h.one n) fun k => ?_)
      rw [hc] at k
      cases k
    · exact h
  · simp only
    split
    · have hr := h.raw
      exact Inv.mark (h.raw_ (by simp; omega))
    · exact h
theorem Inv.tick {D : Ds} (h : Inv D) (n : Int) : Inv (tickD D n) := by
  unfold tickD
  split
  · rename_i hn
    have := h.i0
    exact h.idle_ (by omega) (by omega)
  · exact h
theorem Inv.set {D : Ds} (h : Inv D) {t : Tm} (ht : t.Ok) : Inv (setD D t) := by
  have hr := h.raw
  by_cases h1 : (D.has 51 && !hasN t.f 51) = true
  · have e1 : setD1 D t = { D with raw := (D.raw ++ L13.flatL D.ls ++ D.line).take 1024, ls := [], line := [], nx := false } := by unfold setD1; rw [if_pos h1]
    unfold setD
    rw [e1]
    exact ⟨ht, by simp, by simp [L13.usedL], by simp, by simp; omega, h.out, h.i0, h.i1, h.c0, h.c1, h.f0, h.f1, fun _ => rfl⟩
  · by_cases h2 : (!D.has 51 && hasN t.f 51) = true ∧ D.raw ≠ []
    · have e1 : setD1 D t = { D with ls := D.ls ++ [(D.raw, true)], raw := [] } := by unfold setD1; rw [if_neg h1, if_pos h2]
      unfold setD
      rw [e1]
      have h3 := h2.1
      simp only [Bool.and_eq_true, Bool.not_eq_true'] at h3
      have e := h.off h3.1
      refine ⟨ht, h.line, ?_, ?_, by simp, h.out, h.i0, h.i1, h.c0, h.c1, h.f0, h.f1, fun k => ?_⟩
      · show L13.usedL (D.ls ++ [(D.raw, true)]) ≤ 1025
        rw [e]
        simp [L13.usedL]
        omega
      · intro x hx
        have hx : x ∈ D.ls ++ [(D.raw, true)] := hx
        rw [e] at hx
        obtain rfl := List.mem_singleton.1 hx
        simp
      · have k : hasN t.f 51 = false := k
        rw [h3.2] at k
        cases k
    · have e1 : setD1 D t = D := by unfold setD1; rw [if_neg h1, if_neg h2]
      unfold setD
      rw [e1]
      refine ⟨ht, h.line, h.ls, h.one, h.raw, h.out, h.i0, h.i1, h.c0, h.c1, h.f0, h.f1, fun k => h.off ?_⟩
      have k : hasN t.f 51 = false := k
      cases hd : D.has 51
      · rfl
      · simp [hd, k] at h1
theorem Inv.flush {D : Ds} (h : Inv D) (what : Int) : Inv (flushD D what) := by
  have k : Inv (if what = 1 ∨ what = 3 then { D with line := [], ls := [], raw := [], nx := false } else D) := by
    split
    · exact ⟨h.t, by simp, by simp [L13.usedL], by simp, by simp, h.out, h.i0, h.i1, h.c0, h.c1, h.f0, h.f1, fun _ => rfl⟩
    · exact h
  unfold flushD
  simp only
  split
  · exact ⟨k.t, k.line, k.ls, k.one, k.raw, by simp, k.i0, k.i1, k.c0, k.c1, k.f0, k.f1, k.off⟩
  · exact k
theorem Inv.ask {D : Ds} (h : Inv D) (what : Int) : Inv (askD D what).1 := by
  unfold askD
  simp only
  split
  · exact (h.flow _ _).put _
  · exact h
/-- A setting in which a text is only a text, line by line. -/
structure LnT (t : Tm) : Prop where
  ok : t.Ok
  h51 : hasN t.f 51 = true
  h33 : hasN t.f 33 = false
  h37 : hasN t.f 37 = false
  h31 : hasN t.f 31 = false
  h34 : hasN t.f 34 = false
  h39 : hasN t.f 39 = false
  nl : ∀ op : Int, 1 ≤ op → op ≤ 18 → L15.isC t op 10 = false
def PlainC (t : Tm) (c : UInt8) : Prop := c ≠ 10 ∧ c ≠ 13 ∧ ∀ op : Int, 1 ≤ op → op ≤ 18 → L15.isC t op c = false
theorem strip_id {t : Tm} (h33 : hasN t.f 33 = false) (h37 : hasN t.f 37 = false) (c : UInt8) : L9.stripB t c = c := by simp [L9.stripB, L9.s1, L9.s2, h33, h37]
theorem turn_plain {t : Tm} {c : UInt8} (h10 : c ≠ 10) (h13 : c ≠ 13) : L9.turnB t c = (c, true) := L9.turn_no t h13 h10
theorem turn_nl {t : Tm} (h34 : hasN t.f 34 = false) : L9.turnB t 10 = (10, true) := by rw [L9.turn10, h34]; rfl
theorem mark_id {t : Tm} (h31 : hasN t.f 31 = false) (c : UInt8) : L9.markB t c = [c] := by simp [L9.markB, h31]
/-- So many lines wait, and that of the next one. -/
structure LnAt (t : Tm) (ws : List (List UInt8)) (p : List UInt8) (D : Ds) : Prop where
  inv : Inv D
  t : D.t = t
  ls : D.ls = ws.map fun x => (x, false)
  line : D.line = p
  nx : D.nx = false
  raw : D.raw = []
  s : D.s = false
  h : D.h = false
theorem LnAt.oc {t : Tm} {ws : List (List UInt8)} {p : List UInt8} {D E : Ds} (H : LnAt t ws p D) (k : OC D E) (hi : Inv E) : LnAt t ws p E :=
  ⟨hi, k.t.trans H.t, k.ls.trans H.ls, k.line.trans H.line, k.nx.trans H.nx, k.raw.trans H.raw, k.s.trans H.s, k.h.trans H.h⟩
theorem used_map (ws : List (List UInt8)) : L13.usedL (ws.map fun x => (x, false)) = ws.flatten.length := by
  induction ws with
  | nil => rfl
  | cons x r ih => simp only [L13.usedL, List.map_cons, List.sum_cons, List.flatten_cons, List.length_append] at ih ⊢; rw [ih]; simp
theorem LnAt.used {t : Tm} {ws : List (List UInt8)} {p : List UInt8} {D : Ds} (H : LnAt t ws p D) : usedD D = ws.flatten.length + p.length := by
  unfold usedD
  rw [H.ls, H.line, H.raw, used_map]
  rfl
/-- Few bytes, and nobody was told to stop: no marks. -/
theorem markD_few {D : Ds} (hh : D.h = false) (hu : usedD D < 768) : markD D = putD D [] := by
  have e : L15.markF D.t D.s D.h (usedD D) 256 768 = ((D.s, D.h), []) := by
    unfold L15.markF
    rw [if_pos hh, if_neg (by omega), hh]
  unfold markD
  rw [e]
theorem LnAt.mark {t : Tm} {ws : List (List UInt8)} {p : List UInt8} {D : Ds} (H : LnAt t ws p D) (hu : ws.flatten.length + p.length < 768) : LnAt t ws p (markD D) := by
  rw [markD_few H.h (by rw [H.used]; exact hu)]
  exact H.oc (putD_oc _ _) (H.inv.put _)
/-- A byte without a meaning of its own. -/
theorem inner_plain {D : Ds} {c : UInt8} (hn : D.nx = false) (hs : L15.typedF D.t D.s D.h c = ((D.s, D.h), false)) (hg : sigD D c = 0) (ht : L9.turnB D.t c = (c, true)) (h51 : D.has 51 = true) : innerD D c = (typedD D c, []) := by
  unfold innerD
  rw [if_neg (by rw [hn]; decide)]
  simp only [hs]
  rw [if_neg (by decide)]
  show (if sigD D c ≠ 0 then _ else _) = _
  rw [if_neg (by rw [hg]; decide), ht]
  show (if true = false then _ else if D.has 51 = true then (typedD D c, []) else _) = _
  rw [if_neg (by decide), if_pos h51]
theorem sig_none {D : Ds} {c : UInt8} (h1 : D.is 1 c = false) (h2 : D.is 2 c = false) (h3 : D.is 10 c = false) : sigD D c = 0 := by
  unfold sigD
  split
  · rfl
  · simp [h1, h2, h3]
theorem typed_none {t : Tm} {s h : Bool} {c : UInt8} (h8 : L15.isC t 8 c = false) (h9 : L15.isC t 9 c = false) (h39 : hasN t.f 39 = false) : L15.typedF t s h c = ((s, h), false) := by
  unfold L15.typedF
  split
  · rfl
  · simp [h8, h9, h39]
theorem typedD_take {D : Ds} {c : UInt8} (hc : ∀ op : Int, 1 ≤ op → op ≤ 18 → D.is op c = false) (h10 : c ≠ 10) : typedD D c = takeD D c (L9.markB D.t c) := by
  unfold typedD
  simp [hc 14 (by decide) (by decide), hc 3 (by decide) (by decide), hc 13 (by decide) (by decide), hc 4 (by decide) (by decide), hc 12 (by decide) (by decide), hc 5 (by decide) (by decide), hc 6 (by decide) (by decide), hc 7 (by decide) (by decide), h10]
theorem typedD_nl {D : Ds} (hc : ∀ op : Int, 1 ≤ op → op ≤ 18 → D.is op 10 = false) : typedD D 10 = newlineD D 10 := by
  unfold typedD
  simp [hc 14 (by decide) (by decide), hc 3 (by decide) (by decide), hc 13 (by decide) (by decide), hc 4 (by decide) (by decide), hc 12 (by decide) (by decide), hc 5 (by decide) (by decide), hc 6 (by decide) (by decide), hc 7 (by decide) (by decide)]
theorem LnAt.byte {t : Tm} {ws : List (List UInt8)} {p : List UInt8} {D : Ds} (H : LnAt t ws p D) (T : LnT t) {c : UInt8} (hc : PlainC t c) (hu : ws.flatten.length + p.length < 200) : LnAt t ws (p ++ [c]) (inputD D c).1 ∧ (inputD D c).2 = [] := by
  obtain ⟨h10, h13, hc⟩ := hc
  have ht := H.t
  subst ht
  have e : innerD { D with idle := 0 } (L9.stripB D.t c) = (typedD { D with idle := 0 } c, []) := by
    rw [strip_id T.h33 T.h37]
    exact inner_plain H.nx (typed_none (hc 8 (by decide) (by decide)) (hc 9 (by decide) (by decide)) T.h39) (sig_none (hc 1 (by decide) (by decide)) (hc 2 (by decide) (by decide)) (hc 10 (by decide) (by decide))) (turn_plain h10 h13) T.h51
  unfold inputD
  rw [e]
  refine ⟨?_, rfl⟩
  show LnAt D.t ws (p ++ [c]) (markD (typedD { D with idle := 0 } c))
  have e3 : typedD { D with idle := 0 } c = takeD { D with idle := 0 } c [c] := (typedD_take (D := { D with idle := 0 }) hc h10).trans (by rw [show L9.markB ({ D with idle := 0 } : Ds).t c = [c] from mark_id T.h31 c])
  rw [e3]
  have e2 : takeD { D with idle := 0 } c [c] = echoD { D with idle := 0, fr := if D.line = [] then D.col else D.fr, line := D.line ++ [c] } (signB D c) := by
    unfold takeD
    rw [if_neg (by show ¬ hasN D.t.f 51 = false; rw [T.h51]; decide), if_pos (by show D.line.length + 1 ≤ 254; rw [H.line]; omega)]
    rfl
  have iv := (H.inv.idle_ (Int.le_refl 0) (by omega)).take c [c]
  rw [e2] at iv ⊢
  refine LnAt.mark (ws := ws) (p := p ++ [c]) ⟨iv, ?_, ?_, ?_, ?_, ?_, ?_, ?_⟩ (by simp only [List.length_append, List.length_cons, List.length_nil, List.flatten_append, List.flatten_cons, List.flatten_nil, List.append_nil]; omega)
  · exact (echoD_oc _ _).t
  · exact (echoD_oc _ _).ls.trans H.ls
  · exact (echoD_oc _ _).line.trans (by show D.line ++ [c] = p ++ [c]; rw [H.line])
  · exact (echoD_oc _ _).nx.trans H.nx
  · exact (echoD_oc _ _).raw.trans H.raw
  · exact (echoD_oc _ _).s.trans H.s
  · exact (echoD_oc _ _).h.trans H.h
theorem newlineD_oc {D : Ds} (h : endB D [10] false = true) : OC (endD D [10] false) (newlineD D 10) := by
  unfold newlineD
  rw [if_neg (by rw [h]; decide), if_pos rfl]
  split
  · exact showD_oc _ _
  · rfl
theorem LnAt.nl {t : Tm} {ws : List (List UInt8)} {p : List UInt8} {D : Ds} (H : LnAt t ws p D) (T : LnT t) (hu : ws.flatten.length + p.length < 200) : LnAt t (ws ++ [p ++ [10]]) [] (inputD D 10).1 ∧ (inputD D 10).2 = [] := by
  have hc := T.nl
  have ht := H.t
  subst ht
  have e : innerD { D with idle := 0 } (L9.stripB D.t 10) = (typedD { D with idle := 0 } 10, []) := by
    rw [strip_id T.h33 T.h37]
    exact inner_plain H.nx (typed_none (hc 8 (by decide) (by decide)) (hc 9 (by decide) (by decide)) T.h39) (sig_none (hc 1 (by decide) (by decide)) (hc 2 (by decide) (by decide)) (hc 10 (by decide) (by decide))) (turn_nl T.h34) T.h51
  unfold inputD
  rw [e]
  refine ⟨?_, rfl⟩
  show LnAt D.t (ws ++ [p ++ [10]]) [] (markD (typedD { D with idle := 0 } 10))
  rw [typedD_nl (D := { D with idle := 0 }) hc]
  have hp : L13.putL D.ls (D.line ++ [10], false) = (D.ls ++ [(D.line ++ [10], false)], true) := by
    unfold L13.putL
    rw [if_pos]
    rw [H.ls, used_map, H.line]
    have e0 : L13.usedL [(p ++ [10], false)] = p.length + 1 := by simp [L13.usedL]
    rw [e0]
    omega
  have he : endB { D with idle := 0 } [10] false = true := by show (L13.putL D.ls (D.line ++ [10], false)).2 = true; rw [hp]
  have e2 : endD { D with idle := 0 } [10] false = { D with idle := 0, ls := D.ls ++ [(D.line ++ [10], false)], line := [] } := by
    unfold endD
    rw [if_pos he]
    show ({ D with idle := 0, ls := (L13.putL D.ls (D.line ++ [10], false)).1, line := [] } : Ds) = _
    rw [hp]
  have k := newlineD_oc he
  rw [e2] at k
  have iv := (H.inv.idle_ (Int.le_refl 0) (by omega)).newline T.h51 10
  refine LnAt.mark (ws := ws ++ [p ++ [10]]) (p := []) ⟨iv, k.t, ?_, k.line, k.nx.trans H.nx, k.raw.trans H.raw, k.s.trans H.s, k.h.trans H.h⟩ (by simp only [List.length_append, List.length_cons, List.length_nil, List.flatten_append, List.flatten_cons, List.flatten_nil, List.append_nil]; omega)
  rw [k.ls]
  show D.ls ++ [(D.line ++ [10], false)] = _
  rw [H.ls, H.line, List.map_append]
  rfl
/-- Reading line by line. -/
theorem LnAt.none {t : Tm} {p : List UInt8} {D : Ds} (H : LnAt t [] p D) (h51 : hasN t.f 51 = true) (k : Int) : readD D k 0 = (D, [], false) := by
  have e : D.ls = [] := H.ls
  have h : D.has 51 = true := by unfold Ds.has; rw [H.t]; exact h51
  unfold readD
  rw [if_pos h, e]
  rfl
theorem LnAt.some {t : Tm} {l : List UInt8} {ws : List (List UInt8)} {p : List UInt8} {D : Ds} (H : LnAt t (l :: ws) p D) (h51 : hasN t.f 51 = true) (hu : (l :: ws).flatten.length + p.length < 768) {k : Nat} (hk : 0 < k) :
    (readD D (k : Int) 0).2 = (l.take k, true) ∧ LnAt t (if l.length ≤ k then ws else l.drop k :: ws) p (readD D (k : Int) 0).1 := by
  have e : D.ls = (l, false) :: ws.map fun x => (x, false) := H.ls
  have h : D.has 51 = true := by unfold Ds.has; rw [H.t]; exact h51
  have hi := H.inv.read (k : Int) 0
  by_cases hl : l.length ≤ k
  · have er : L13.readL D.ls (k : Int) = (l, ws.map (fun x => (x, false)), true) := by
      rw [e, L13.readL, if_neg (by omega), if_pos (by show (l.length : Int) ≤ k; omega)]
    have e2 : readD D (k : Int) 0 = (markD { D with ls := ws.map fun x => (x, false) }, l, true) := by
      unfold readD
      rw [if_pos h]
      simp only [er, if_true]
    rw [e2] at hi ⊢
    rw [if_pos hl, List.take_of_length_le hl]
    refine ⟨rfl, ?_⟩
    have hu2 : usedD { D with ls := ws.map fun x => (x, false) } < 768 := by
      show L13.usedL (ws.map fun x => (x, false)) + D.line.length + D.raw.length < 768
      rw [used_map, H.line, H.raw]
      simp only [List.length_append, List.length_cons, List.length_nil, List.flatten_append, List.flatten_cons, List.flatten_nil, List.append_nil] at hu ⊢
      omega
    rw [markD_few (D := { D with ls := ws.map fun x => (x, false) }) H.h hu2] at hi ⊢
    have k := putD_oc { D with ls := ws.map fun x => (x, false) } []
    exact ⟨hi, k.t.trans H.t, k.ls, k.line.trans H.line, k.nx.trans H.nx, k.raw.trans H.raw, k.s.trans H.s, k.h.trans H.h⟩
  · have er : L13.readL D.ls (k : Int) = (l.take k, (l.drop k, false) :: ws.map (fun x => (x, false)), true) := by
      rw [e, L13.readL, if_neg (by omega), if_neg (by show ¬ (l.length : Int) ≤ k; omega)]
      simp
    have e2 : readD D (k : Int) 0 = (markD { D with ls := (l.drop k, false) :: ws.map fun x => (x, false) }, l.take k, true) := by
      unfold readD
      rw [if_pos h]
      simp only [er, if_true]
    rw [e2] at hi ⊢
    rw [if_neg hl]
    refine ⟨rfl, ?_⟩
    have hu2 : usedD { D with ls := (l.drop k, false) :: ws.map fun x => (x, false) } < 768 := by
      show L13.usedL ((l.drop k :: ws).map fun x => (x, false)) + D.line.length + D.raw.length < 768
      rw [used_map, H.line, H.raw]
      simp only [List.length_append, List.length_cons, List.length_nil, List.flatten_append, List.flatten_cons, List.flatten_nil, List.append_nil, List.length_drop] at hu ⊢
      omega
    rw [markD_few (D := { D with ls := (l.drop k, false) :: ws.map fun x => (x, false) }) H.h hu2] at hi ⊢
    have k := putD_oc { D with ls := (l.drop k, false) :: ws.map fun x => (x, false) } []
    exact ⟨hi, k.t.trans H.t, k.ls, k.line.trans H.line, k.nx.trans H.nx, k.raw.trans H.raw, k.s.trans H.s, k.h.trans H.h⟩
theorem LnAt.new {t : Tm} (ht : t.Ok) : LnAt t [] [] (newD t) := ⟨Inv.new ht, rfl, rfl, rfl, rfl, rfl, rfl, rfl⟩
end Go.Proofs.Ytggcampdkgfmgaa
namespace Go.Proofs.Ytggcampdkgfmgaa
open Go.RowKit

/-! Layer 16's maths: without ICANON; typed and erased; written. -/
structure RwT (t : Tm) : Prop where
  ok : t.Ok
  h51 : hasN t.f 51 = false
  h50 : hasN t.f 50 = false
  h38 : hasN t.f 38 = false
  m : t.m = 1
  s : t.s = 0
/-- So many bytes wait, without ICANON. -/
structure RwAt (t : Tm) (r : List UInt8) (D : Ds) : Prop where
  inv : Inv D
  t : D.t = t
  line : D.line = []
  ls : D.ls = []
  nx : D.nx = false
  raw : D.raw = r
  s : D.s = false
theorem RwAt.new {t : Tm} (ht : t.Ok) : RwAt t [] (newD t) := ⟨Inv.new ht, rfl, rfl, rfl, rfl, rfl, rfl⟩
theorem mark_s {D : Ds} : (L15.markF D.t D.s D.h (usedD D) 256 768).1.1 = D.s := by
  unfold L15.markF
  repeat' split
  all_goals rfl
theorem RwAt.mark {t : Tm} {r : List UInt8} {D : Ds} (H : RwAt t r D) : RwAt t r (markD D) := by
  have k := putD_oc { D with s := (L15.markF D.t D.s D.h (usedD D) 256 768).1.1, h := (L15.markF D.t D.s D.h (usedD D) 256 768).1.2 } (L15.markF D.t D.s D.h (usedD D) 256 768).2
  exact ⟨H.inv.mark, k.t.trans H.t, k.line.trans H.line, k.ls.trans H.ls, k.nx.trans H.nx, k.raw.trans H.raw, k.s.trans (mark_s.trans H.s)⟩
theorem inner_off {D : Ds} {c : UInt8} (hn : D.nx = false) (h38 : hasN D.t.f 38 = false) (h50 : D.has 50 = false) (h51 : D.has 51 = false) : innerD D c = (if (L9.turnB D.t c).2 = false then D else takeD D (L9.turnB D.t c).1 (L9.markB D.t (L9.turnB D.t c).1), []) := by
  have hs : L15.typedF D.t D.s D.h c = ((D.s, D.h), false) := by unfold L15.typedF; rw [if_pos h38]
  have hg : sigD D c = 0 := by unfold sigD; rw [if_pos h50]
  unfold innerD
  rw [if_neg (by rw [hn]; decide)]
  simp only [hs]
  rw [if_neg (by decide)]
  show (if sigD D c ≠ 0 then _ else _) = _
  rw [if_neg (by rw [hg]; decide)]
  split
  · rfl
  · show (if D.has 51 = true then _ else (takeD D (L9.turnB D.t c).1 (L9.markB D.t (L9.turnB D.t c).1), [])) = _
    rw [if_neg (by rw [h51]; decide)]
theorem RwAt.byte {t : Tm} {r : List UInt8} {D : Ds} (H : RwAt t r D) (T : RwT t) (c : UInt8) (hu : (r ++ L9.mapR1 t c).length ≤ 1024) : RwAt t (r ++ L9.mapR1 t c) (inputD D c).1 ∧ (inputD D c).2 = [] := by
  have ht := H.t
  subst ht
  have e := inner_off (D := { D with idle := 0 }) (c := L9.stripB D.t c) H.nx T.h38 T.h50 T.h51
  unfold inputD
  rw [e]
  refine ⟨RwAt.mark ?_, rfl⟩
  have hi : Inv { D with idle := 0 } := H.inv.idle_ (Int.le_refl 0) (by omega)
  unfold L9.mapR1 at hu ⊢
  show RwAt D.t _ (if (L9.turnB D.t (L9.stripB D.t c)).2 = false then { D with idle := 0 } else takeD { D with idle := 0 } (L9.turnB D.t (L9.stripB D.t c)).1 (L9.markB D.t (L9.turnB D.t (L9.stripB D.t c)).1))
  cases hb : (L9.turnB D.t (L9.stripB D.t c)).2
  · rw [if_pos rfl, if_neg (by decide), List.append_nil]
    exact ⟨hi, rfl, H.line, H.ls, H.nx, H.raw, H.s⟩
  · rw [hb, if_pos rfl] at hu
    rw [if_pos (rfl : true = true), if_neg (show ¬ true = false by decide)]
    generalize (L9.turnB D.t (L9.stripB D.t c)).1 = x at hu ⊢
    have iv := hi.take x (L9.markB D.t x)
    have e2 : takeD { D with idle := 0 } x (L9.markB D.t x) = echoD { D with idle := 0, raw := D.raw ++ L9.markB D.t x } (signB D x) := by
      unfold takeD
      rw [if_pos (by exact T.h51), if_pos (by show D.raw.length + (L9.markB D.t x).length ≤ 1024; rw [H.raw]; rwa [List.length_append] at hu)]
      rfl
    rw [e2] at iv ⊢
    have k := echoD_oc { D with idle := 0, raw := D.raw ++ L9.markB D.t x } (signB D x)
    exact ⟨iv, k.t, k.line.trans H.line, k.ls.trans H.ls, k.nx.trans H.nx, k.raw.trans (by show D.raw ++ _ = _; rw [H.raw]), k.s.trans H.s⟩
theorem ready_one {hv k : Nat} {i : Int} (hk : 0 < k) : L14.readyI 1 0 hv k i 0 = if hv = 0 then (0, false) else (((min hv k : Nat) : Int), true) := by
  have e1 : L14.pz 1 = 1 := rfl
  have e0 : L14.pz 0 = 0 := rfl
  unfold L14.readyI
  rw [e1, e0]
  have eh : L14.pz (hv : Int) = hv := by unfold L14.pz; omega
  rw [eh]
  have hd : L14.doneP 1 0 hv k (L14.pz i) 0 = decide (hv ≠ 0) := by
    unfold L14.doneP
    rw [if_neg (show ¬ (k : Int) ≤ 0 by omega), if_pos (show (0 : Int) < 1 by decide)]
    by_cases h : hv = 0
    · subst h
      rw [if_neg (show ¬ (1 : Int) ≤ ((0 : Nat) : Int) by decide), if_neg (show ¬ (k : Int) ≤ ((0 : Nat) : Int) by omega), if_neg (show ¬ (0 : Int) < 0 by decide)]
      rfl
    · rw [if_pos (show (1 : Int) ≤ hv by omega)]
      simp [h]
  unfold L14.readyP
  rw [hd]
  by_cases h : hv = 0
  · simp [h]
  · rw [if_neg h, if_pos (by simpa using h), if_neg (show ¬ (k : Int) ≤ 0 by omega)]
    by_cases h2 : hv ≤ k
    · rw [if_pos (by omega), Nat.min_eq_left h2]
    · rw [if_neg (by omega), Nat.min_eq_right (by omega)]
theorem RwAt.none {t : Tm} {D : Ds} (H : RwAt t [] D) (T : RwT t) {k : Nat} (hk : 0 < k) : readD D (k : Int) 0 = (D, [], false) := by
  have ht := H.t
  subst ht
  have e := ready_one (hv := 0) (k := k) (i := D.idle) hk
  unfold readD
  rw [if_neg (by show ¬ hasN D.t.f 51 = true; rw [T.h51]; decide), T.m, T.s, H.raw]
  simp only [List.length_nil]
  rw [e]
  rfl
theorem RwAt.some {t : Tm} {r : List UInt8} {D : Ds} (H : RwAt t r D) (T : RwT t) (hr : r ≠ []) {k : Nat} (hk : 0 < k) : (readD D (k : Int) 0).2 = (r.take k, true) ∧ RwAt t (r.drop k) (readD D (k : Int) 0).1 := by
  have ht := H.t
  subst ht
  have e := ready_one (hv := r.length) (k := k) (i := D.idle) hk
  rw [if_neg (by simpa using hr)] at e
  have hi := H.inv.read (k : Int) 0
  have e2 : readD D (k : Int) 0 = (markD { D with raw := r.drop (min r.length k) }, r.take (min r.length k), true) := by
    unfold readD
    rw [if_neg (by show ¬ hasN D.t.f 51 = true; rw [T.h51]; decide), T.m, T.s, H.raw]
    simp only [e, if_true, Int.toNat_natCast]
  have t1 : r.take (min r.length k) = r.take k := by
    by_cases h : r.length ≤ k
    · rw [Nat.min_eq_left h, List.take_length, List.take_of_length_le h]
    · rw [Nat.min_eq_right (by omega)]
  have t2 : r.drop (min r.length k) = r.drop k := by
    by_cases h : r.length ≤ k
    · rw [Nat.min_eq_left h, List.drop_length, List.drop_eq_nil_of_le h]
    · rw [Nat.min_eq_right (by omega)]
  rw [t1, t2] at e2
  rw [e2] at hi ⊢
  refine ⟨rfl, RwAt.mark ⟨?_, rfl, H.line, H.ls, H.nx, rfl, H.s⟩⟩
  have hl := H.inv.raw
  rw [H.raw] at hl
  exact H.inv.raw_ (by simp; omega)
/-! Typed and erased. -/
structure ErT (t : Tm) (x : UInt8) : Prop where
  ok : t.Ok
  h51 : hasN t.f 51 = true
  h53 : hasN t.f 53 = true
  h54 : hasN t.f 54 = true
  h60 : hasN t.f 60 = true
  h33 : hasN t.f 33 = false
  h37 : hasN t.f 37 = false
  h31 : hasN t.f 31 = false
  h71 : hasN t.f 71 = false
  h42 : hasN t.f 42 = false
  h39 : hasN t.f 39 = false
  e3 : L15.isC t 3 x = true
  no : ∀ op : Int, 1 ≤ op → op ≤ 18 → op ≠ 3 → L15.isC t op x = false
  n10 : x ≠ 10
  n13 : x ≠ 13
def Prn (c : UInt8) : Prop := 32 ≤ c.toNat ∧ c.toNat < 127
/-- A text is typed: so many bytes stand in the line, and so many columns. -/
structure ErAt (t : Tm) (l : List UInt8) (o : Nat) (D : Ds) : Prop where
  inv : Inv D
  t : D.t = t
  line : D.line = l
  ls : D.ls = []
  nx : D.nx = false
  raw : D.raw = []
  s : D.s = false
  h : D.h = false
  fr : D.fr = 0
  col : D.col = l.length
  out : D.out.length ≤ o
  prn : ∀ c ∈ l, Prn c
theorem ErAt.new {t : Tm} (ht : t.Ok) : ErAt t [] 0 (newD t) := ⟨Inv.new ht, rfl, rfl, rfl, rfl, rfl, rfl, rfl, rfl, rfl, Nat.le_refl _, fun _ h => by cases h⟩
theorem moved_one {N : Nat} {c : UInt8} (h : Prn c) (hN : N < 60000) : L12.movedN false N c = N + 1 := by
  obtain ⟨h1, h2⟩ := h
  unfold L12.movedN L12.clampN
  rw [if_neg (by omega), if_neg (by omega), if_neg (by omega), if_neg (by omega), if_neg (by simp), if_neg (by omega)]
theorem byte_one {f : L12.PoF} {N : Nat} {c : UInt8} (h : Prn c) (hN : N < 60000) (ho : f.olc = false) (hu : f.u = false) : L12.byteP f N c = ([c], N + 1) := by
  have hm := moved_one h hN
  obtain ⟨h1, h2⟩ := h
  have e : L12.upB f c = c := by unfold L12.upB; rw [if_neg (by rw [ho]; simp)]
  unfold L12.byteP
  rw [hu, e, hm]
  split
  · rfl
  · rw [if_neg (by omega), if_neg (by omega)]
theorem byte_back {f : L12.PoF} {N : Nat} (ho : f.olc = false) : L12.byteP f N 8 = ([8], N - 1) := by
  have e : L12.upB f 8 = 8 := by unfold L12.upB; rw [if_neg (by rw [ho]; simp)]
  unfold L12.byteP
  rw [e]
  have hm : L12.movedN f.u N 8 = N - 1 := by
    unfold L12.movedN
    rw [if_neg (by decide), if_pos (by decide)]
  rw [hm]
  split
  · rfl
  · rw [if_neg (by decide), if_neg (by decide)]
theorem rub_three {f : L12.PoF} {N : Nat} (hN : N < 60000) (ho : f.olc = false) (hu : f.u = false) : L12.bytesP f (N + 1) [8, 32, 8] = ([8, 32, 8], N) := by
  have h32 : Prn 32 := by unfold Prn; decide
  simp only [L12.bytesP, byte_back ho, Nat.add_sub_cancel, byte_one h32 hN ho hu]
  rfl
theorem cols_plain {l : List UInt8} (h : ∀ c ∈ l, Prn c) : ∀ N, colsN true false N l = N + l.length := by
  induction l with
  | nil => intro N; rfl
  | cons c r ih =>
    intro N
    have hc := h c (List.mem_cons_self ..)
    have hs : stepN true false N c = N + 1 := by
      refine L11.stepN_one (e := true) (u := false) (c := c) (N := N) ?_ rfl
      obtain ⟨h1, h2⟩ := hc
      unfold ctlB
      simp
      omega
    have := ih (fun x hx => h x (List.mem_cons_of_mem _ hx)) (N + 1)
    unfold colsN at this ⊢
    rw [List.foldl_cons, hs, this, List.length_cons]
    omega
theorem ErAt.used {t : Tm} {l : List UInt8} {o : Nat} {D : Ds} (H : ErAt t l o D) : usedD D = l.length := by
  unfold usedD
  rw [H.ls, H.line, H.raw]
  simp [L13.usedL]
theorem ErAt.oc {t : Tm} {l : List UInt8} {o : Nat} {D E : Ds} (H : ErAt t l o D) (k : OC D E) (hi : Inv E) (hc : E.col = D.col) (ho : E.out.length ≤ o) : ErAt t l o E :=
  ⟨hi, k.t.trans H.t, k.line.trans H.line, k.ls.trans H.ls, k.nx.trans H.nx, k.raw.trans H.raw, k.s.trans H.s, k.h.trans H.h, k.fr.trans H.fr, hc.trans H.col, ho, H.prn⟩
theorem ErAt.mark {t : Tm} {l : List UInt8} {o : Nat} {D : Ds} (H : ErAt t l o D) (hu : l.length < 768) : ErAt t l o (markD D) := by
  rw [markD_few H.h (by rw [H.used]; exact hu)]
  refine H.oc (putD_oc _ _) (H.inv.put _) ?_ ?_
  · unfold putD; split <;> rfl
  · unfold putD
    split
    · simpa using H.out
    · exact H.out
theorem shown_prn {c : UInt8} (h : Prn c) (e : Bool) : showB e c = [c] := by
  obtain ⟨h1, h2⟩ := h
  unfold showB
  rw [if_neg]
  unfold hatB
  simp
  intro _
  constructor
  · intro h3; omega
  · omega
theorem ErAt.byte {t : Tm} {x : UInt8} {l : List UInt8} {o : Nat} {D : Ds} (H : ErAt t l o D) (T : ErT t x) {c : UInt8} (hc : PlainC t c) (hp : Prn c) (hl : l.length < 200) (ho : o ≤ 2000) : ErAt t (l ++ [c]) (o + 1) (inputD D c).1 ∧ (inputD D c).2 = [] := by
  obtain ⟨h10, h13, hc⟩ := hc
  have ht := H.t
  subst ht
  have e : innerD { D with idle := 0 } (L9.stripB D.t c) = (typedD { D with idle := 0 } c, []) := by
    rw [strip_id T.h33 T.h37]
    exact inner_plain H.nx (typed_none (hc 8 (by decide) (by decide)) (hc 9 (by decide) (by decide)) T.h39) (sig_none (hc 1 (by decide) (by decide)) (hc 2 (by decide) (by decide)) (hc 10 (by decide) (by decide))) (turn_plain h10 h13) T.h51
  unfold inputD
  rw [e]
  refine ⟨?_, rfl⟩
  show ErAt D.t (l ++ [c]) (o + 1) (markD (typedD { D with idle := 0 } c))
  have e3 : typedD { D with idle := 0 } c = takeD { D with idle := 0 } c [c] := (typedD_take (D := { D with idle := 0 }) hc h10).trans (by rw [show L9.markB ({ D with idle := 0 } : Ds).t c = [c] from mark_id T.h31 c])
  rw [e3]
  have hfr : (if D.line = [] then D.col else D.fr) = 0 := by
    split
    · rename_i h0
      rw [H.col, ← H.line, h0]
      rfl
    · exact H.fr
  have hb : L12.bytesP (L12.poF D.t) (nrm D.col) [c] = ([c], l.length + 1) := by
    have hn : nrm D.col = l.length := by rw [H.col]; unfold nrm; rw [if_neg (by omega)]; omega
    rw [hn]
    simp only [L12.bytesP, byte_one hp (show l.length < 60000 by omega) (show (L12.poF D.t).olc = false from T.h71) (show (L12.poF D.t).u = false from T.h42)]
    rfl
  have hout := H.out
  have e2 : takeD { D with idle := 0 } c [c] = { D with idle := 0, fr := 0, line := D.line ++ [c], out := D.out ++ [c], col := ((l.length + 1 : Nat) : Int) } := by
    unfold takeD
    rw [if_neg (by show ¬ hasN D.t.f 51 = false; rw [T.h51]; decide), if_pos (by show D.line.length + 1 ≤ 254; rw [H.line]; omega)]
    unfold echoD
    rw [if_pos (by exact T.h53)]
    have es : signB { D with idle := 0 } c = [c] := shown_prn hp _
    rw [es]
    unfold showD
    show (if D.out.length + (L12.bytesP (L12.poF D.t) (nrm D.col) [c]).1.length ≤ 4096 then _ else _) = _
    rw [if_pos (by rw [hb]; simp; omega)]
    show ({ D with idle := 0, fr := (if D.line = [] then D.col else D.fr), line := D.line ++ [c], out := D.out ++ (L12.bytesP (L12.poF D.t) (nrm D.col) [c]).1, col := ((L12.bytesP (L12.poF D.t) (nrm D.col) [c]).2 : Int) } : Ds) = _
    rw [hb, hfr]
  have iv := (H.inv.idle_ (Int.le_refl 0) (by omega)).take c [c]
  rw [e2] at iv ⊢
  refine ErAt.mark ⟨iv, rfl, by show D.line ++ [c] = _; rw [H.line], H.ls, H.nx, H.raw, H.s, H.h, rfl, by simp, by simp; omega, ?_⟩ (by simp; omega)
  intro y hy
  rcases List.mem_append.1 hy with hy | hy
  · exact H.prn y hy
  · obtain rfl := List.mem_singleton.1 hy
    exact hp
theorem ErAt.back {t : Tm} {x y : UInt8} {l : List UInt8} {o : Nat} {D : Ds} (H : ErAt t (l ++ [y]) o D) (T : ErT t x) (hl : l.length < 200) (ho : o ≤ 2000) : ErAt t l (o + 3) (inputD D x).1 ∧ (inputD D x).2 = [] := by
  have hc := T.no
  have ht := H.t
  subst ht
  have e : innerD { D with idle := 0 } (L9.stripB D.t x) = (typedD { D with idle := 0 } x, []) := by
    rw [strip_id T.h33 T.h37]
    exact inner_plain H.nx (typed_none (hc 8 (by decide) (by decide) (by decide)) (hc 9 (by decide) (by decide) (by decide)) T.h39) (sig_none (hc 1 (by decide) (by decide) (by decide)) (hc 2 (by decide) (by decide) (by decide)) (hc 10 (by decide) (by decide) (by decide))) (turn_plain T.n10 T.n13) T.h51
  unfold inputD
  rw [e]
  refine ⟨?_, rfl⟩
  show ErAt D.t l (o + 3) (markD (typedD { D with idle := 0 } x))
  have hA : L10.eraA (D.has 42) D.line = l := by
    show L10.eraA (hasN D.t.f 42) D.line = l
    rw [T.h42, H.line]
    unfold L10.eraA
    rw [L10.lastN_one (by simp)]
    simp
  have hB : L10.eraB (D.has 42) D.line = [y] := by
    show L10.eraB (hasN D.t.f 42) D.line = [y]
    rw [T.h42, H.line]
    unfold L10.eraB
    rw [L10.lastN_one (by simp)]
    simp
  have hprl : ∀ c ∈ l, Prn c := fun c h => H.prn c (List.mem_append_left _ h)
  have hr : rubB (D.has 60) (D.has 42) (nrm D.fr) l [y] = [8, 32, 8] := by
    show rubB (hasN D.t.f 60) (hasN D.t.f 42) (nrm D.fr) l [y] = _
    rw [T.h60, T.h42, H.fr]
    unfold rubB
    rw [cols_plain H.prn, cols_plain hprl]
    have e1 : nrm 0 + (l ++ [y]).length - (nrm 0 + l.length) = 1 := by simp; omega
    rw [e1]
    rfl
  have hb : L12.bytesP (L12.poF D.t) (nrm D.col) [8, 32, 8] = ([8, 32, 8], l.length) := by
    have hn : nrm D.col = l.length + 1 := by rw [H.col]; unfold nrm; simp; omega
    rw [hn]
    exact rub_three (by omega) T.h71 T.h42
  have hout := H.out
  have e2 : typedD { D with idle := 0 } x = { D with idle := 0, line := l, out := D.out ++ [8, 32, 8], col := (l.length : Int) } := by
    unfold typedD
    have e3 : ({ D with idle := 0 } : Ds).is 3 x = true := T.e3
    have e14 : ({ D with idle := 0 } : Ds).is 14 x = false := hc 14 (by decide) (by decide) (by decide)
    rw [e14, e3, Bool.and_false, if_neg (by decide), if_pos rfl]
    show goneD { D with idle := 0 } x (L10.eraA (D.has 42) D.line) (L10.eraB (D.has 42) D.line) = _
    rw [hA, hB]
    unfold goneD
    rw [if_neg (by simp), if_pos (by exact T.h54)]
    unfold echoD
    rw [if_pos (by exact T.h53)]
    show showD { D with idle := 0, line := l } (rubB (D.has 60) (D.has 42) (nrm D.fr) l [y]) = _
    rw [hr]
    unfold showD
    show (if D.out.length + (L12.bytesP (L12.poF D.t) (nrm D.col) [8, 32, 8]).1.length ≤ 4096 then _ else _) = _
    rw [if_pos (by rw [hb]; simp; omega)]
    show ({ D with idle := 0, line := l, out := D.out ++ (L12.bytesP (L12.poF D.t) (nrm D.col) [8, 32, 8]).1, col := ((L12.bytesP (L12.poF D.t) (nrm D.col) [8, 32, 8]).2 : Int) } : Ds) = _
    rw [hb]
  have iv := (H.inv.idle_ (Int.le_refl 0) (by omega)).typed T.h51 x
  rw [e2] at iv ⊢
  exact ErAt.mark ⟨iv, rfl, rfl, H.ls, H.nx, H.raw, H.s, H.h, H.fr, rfl, by simp; omega, hprl⟩ (by omega)
/-! Written. -/
theorem writeN_all {D : Ds} {b : List UInt8} (h : D.out.length + 2 * b.length ≤ 4096) : writeN D b = b.length := by
  unfold writeN
  refine L12.fitP_is (Nat.le_refl _) (Or.inr ?_) (Or.inl rfl)
  have := L12.outN_le (L12.poF D.t) (nrm D.col) b b.length
  omega
theorem writeD_all {D : Ds} {b : List UInt8} (h : D.out.length + 2 * b.length ≤ 4096) : writeD D b = { D with out := D.out ++ (L12.bytesP (L12.poF D.t) (nrm D.col) b).1, col := (L12.bytesP (L12.poF D.t) (nrm D.col) b).2 } := by
  unfold writeD
  rw [writeN_all h, List.take_length]
theorem writeD_two {D : Ds} {a b : List UInt8} (h : D.out.length + 2 * (a.length + b.length) ≤ 4096) : writeN (writeD D a) b = b.length ∧ writeD (writeD D a) b = writeD D (a ++ b) := by
  have ha := writeD_all (D := D) (b := a) (by omega)
  have hab := writeD_all (D := D) (b := a ++ b) (by simp; omega)
  have hlen := L12.bytesP_len (L12.poF D.t) a (nrm D.col)
  have hlo : (writeD D a).out.length + 2 * b.length ≤ 4096 := by
    rw [ha]
    simp
    omega
  refine ⟨writeN_all hlo, ?_⟩
  rw [writeD_all hlo, ha, hab]
  have hN := L12.bytesP_le (L12.poF D.t) a _ (nrm_le D.col)
  have hn : nrm ((L12.bytesP (L12.poF D.t) (nrm D.col) a).2 : Int) = (L12.bytesP (L12.poF D.t) (nrm D.col) a).2 := by
    generalize (L12.bytesP (L12.poF D.t) (nrm D.col) a).2 = z at hN ⊢
    unfold nrm
    rw [if_neg (by omega)]
    omega
  show ({ D with out := (D.out ++ (L12.bytesP (L12.poF D.t) (nrm D.col) a).1) ++ (L12.bytesP (L12.poF D.t) (nrm ((L12.bytesP (L12.poF D.t) (nrm D.col) a).2 : Int)) b).1, col := ((L12.bytesP (L12.poF D.t) (nrm ((L12.bytesP (L12.poF D.t) (nrm D.col) a).2 : Int)) b).2 : Int) } : Ds) = _
  rw [hn, L12.bytesP_append, List.append_assoc]
end Go.Proofs.Ytggcampdkgfmgaa
namespace Go.Proofs.Ytggcampdkgfmgaa
open Go.RowKit

/-! Layer 16: a discipline in memory. -/
/-- Nothing of what there was has turned, but the blocks of a set. -/
structure ButP (S : Nat → Prop) (w w' : World) : Prop where
  os : w'.os = w.os
  tape : w'.tape = w.tape
  output : w'.output = w.output
  size : w.heap.size ≤ w'.heap.size
  block : ∀ b, b < w.heap.size → ¬ S b → w'.heap[b]? = w.heap[b]?
section
variable {S T : Nat → Prop} {a w w' : World}
theorem ButP.refl (S : Nat → Prop) (w : World) : ButP S w w := ⟨rfl, rfl, rfl, Nat.le_refl _, fun _ _ _ => rfl⟩
theorem ButP.trans (h : ButP S a w) (k : ButP T w w') (hT : ∀ x, T x → S x ∨ a.heap.size ≤ x) : ButP S a w' :=
  ⟨k.os.trans h.os, k.tape.trans h.tape, k.output.trans h.output, Nat.le_trans h.size k.size, fun b hb hn => by
    rw [k.block b (Nat.lt_of_lt_of_le hb h.size) (fun hx => (hT b hx).elim hn (fun h1 => by omega)), h.block b hb hn]⟩
theorem ButP.mono (h : ButP S w w') (hT : ∀ x, S x → T x) : ButP T w w' := ⟨h.os, h.tape, h.output, h.size, fun b hb hn => h.block b hb fun hx => hn (hT b hx)⟩
theorem ButP.of_below (h : Below w.heap.size w w') (S : Nat → Prop) : ButP S w w' := ⟨h.os, h.tape, h.output, h.size, fun b hb _ => h.block b hb⟩
theorem ButP.below (h : ButP S w w') {B : Nat} (hB : B ≤ w.heap.size) (hS : ∀ x, S x → B ≤ x) : Below B w w' :=
  ⟨h.os, h.tape, h.output, h.size, fun b hb => h.block b (by omega) fun hx => by have := hS b hx; omega⟩
theorem ButP.bel (h : ButP S a w) (k : Below w.heap.size w w') : ButP S a w' := h.trans (ButP.of_below k (fun _ => False)) (fun _ h => h.elim)
theorem ButP.drew (h : ButP S a w) : ButP S a w.drew := ⟨h.os, h.tape, h.output, h.size, h.block⟩
theorem ButP.box (h : ButP S w w') {g : Nat} {t : TypeId} {cs : Array Value} (hx : Box w g t cs) (hg : ¬ S g) : Box w' g t cs := hx.same (h.block g hx.lt hg)
theorem ButP.store (h : ButP S a w) {g i : Nat} (hg : S g ∨ a.heap.size ≤ g) (u : Value) : ButP S a (w.setCell ⟨g, i, none⟩ u) :=
  h.trans (T := fun x => x = g) ⟨rfl, rfl, rfl, by simp [World.setCell], fun b _ hc => Below.heap_setCell _ _ _ _ hc⟩ (fun x hx => by subst hx; exact hg)
theorem ButP.grown (h : ButP S a w) {row : Option Nat} (hg : w.grownBy w' row) (hr : ∀ k, row = some k → S k ∨ a.heap.size ≤ k) : ButP S a w' :=
  h.trans (T := fun x => row = some x) ⟨hg.os, hg.tape, hg.output, hg.size, fun b hb hc => hg.block b hb (fun e => hc e.symm)⟩ (fun x hx => hr x hx)
theorem ButP.own {base : Nat} {e : TypeId} {size n : Nat} {v : Value} {xs : List Value} (k : ButP S w w') (h : w.ownsRow base e size v n xs) (hn : ∀ g, v.ownBlock = some g → ¬ S g) : w'.ownsRow base e size v n xs := by
  refine ⟨h.1, ?_⟩
  rcases h.2 with hn | ⟨g, cap, cur, rfl, hb, hgg, rest⟩
  · exact .inl hn
  · exact .inr ⟨g, cap, cur, rfl, hb, (k.box (t := e) hgg (hn g rfl)), rest⟩
theorem ButP.cell (h : ButP S w w') {p : Addr} (hb : p.block < w.heap.size) (hp : ¬ S p.block) : w'.cell? p = w.cell? p := by
  have := h.block p.block hb hp
  unfold World.cell?
  rw [this]
theorem ButP.lies (h : ButP S w w') {B : Nat} {A : Option Addr} {cs : List Value} (hl : Lies w B A cs) (hB : B ≤ w.heap.size) (hA : cs ≠ [] → ∀ a, A = some a → ¬ S a.block) : Lies w' B A cs := fun hn => by
  obtain ⟨b, o, rfl, hb, hc⟩ := hl hn
  exact ⟨b, o, rfl, hb, fun j u hu => (h.cell (p := ⟨b, o + j, none⟩) (Nat.lt_of_lt_of_le hb hB) (hA hn ⟨b, o, none⟩ rfl)).trans (hc j u hu)⟩
theorem Lies.more_ {w : World} {B B' : Nat} {A : Option Addr} {cs : List Value} (h : Lies w B A cs) (hB : B ≤ B') : Lies w B' A cs := fun hn => by
  obtain ⟨b, o, e, hb, hc⟩ := h hn
  exact ⟨b, o, e, by omega, hc⟩
end
/-- Where its lists lie. -/
structure Ph where
  lA : Option Addr
  lc : Nat
  nA : Option Addr
  nc : Nat
  qs : List L13.Rc
  rA : Option Addr
  rc : Nat
  oA : Option Addr
  oc : Nat
def dRest (D : Ds) (h : Ph) : List Value :=
  [.slice h.lA D.line.length h.lc, .bool D.nx, .slice h.nA D.ls.length h.nc, .slice h.rA D.raw.length h.rc, .bool D.s, .bool D.h, .slice h.oA D.out.length h.oc, .int .i64 D.col, .int .i64 D.fr, .int .i64 D.idle]
/-- A list's block is the discipline's own, and none of the discipline itself. -/
def InS (S : Nat → Prop) (p : Nat) (A : Option Addr) (ne : Prop) : Prop := ne → ∀ a, A = some a → S a.block ∧ a.block ≠ p
/-- What a discipline is in memory; S: its blocks; no list is ever written to. -/
structure DPh (w : World) (p : Nat) (S : Nat → Prop) (D : Ds) (h : Ph) : Prop where
  box : Box w p 88 (tmV D.t (dRest D h))
  line : SlB w w.heap.size h.lA h.lc D.line
  raw : SlB w w.heap.size h.rA h.rc D.raw
  out : SlB w w.heap.size h.oA h.oc D.out
  lsv : L13.LnV w w.heap.size h.nA h.nc h.qs
  lsq : L13.lnR h.qs = D.ls
  row : InS S p h.nA (h.qs ≠ [])
  txt : ∀ r ∈ h.qs, InS S p r.A (r.bs ≠ [])
  sp : S p
  sl : InS S p h.lA (D.line ≠ [])
  sr : InS S p h.rA (D.raw ≠ [])
  so : InS S p h.oA (D.out ≠ [])
  top : ∀ x, S x → x < w.heap.size
def DAt (w : World) (p : Nat) (S : Nat → Prop) (D : Ds) : Prop := ∃ h, DPh w p S D h
theorem bv_ne {l : List UInt8} (h : bv l ≠ []) : l ≠ [] := by
  rintro rfl
  exact h rfl
/-- Bytes outside of what turns stay. -/
theorem ButP.slb {S : Nat → Prop} {w w' : World} (k : ButP S w w') {A : Option Addr} {c : Nat} {b : List UInt8} (h : SlB w w.heap.size A c b) (hA : b ≠ [] → ∀ a, A = some a → ¬ S a.block) : SlB w' w'.heap.size A c b :=
  ⟨h.1, h.2.1, h.2.2.1, Lies.more_ (k.lies h.2.2.2 (Nat.le_refl _) fun hn => hA (bv_ne hn)) k.size⟩
theorem ButP.lnv {S : Nat → Prop} {w w' : World} (k : ButP S w w') {A : Option Addr} {c : Nat} {qs : List L13.Rc} (h : L13.LnV w w.heap.size A c qs) (hA : qs ≠ [] → ∀ a, A = some a → ¬ S a.block) (hT : ∀ r ∈ qs, r.bs ≠ [] → ∀ a, r.A = some a → ¬ S a.block) : L13.LnV w' w'.heap.size A c qs :=
  ⟨h.len, h.cap, h.nil, Lies.more_ (k.lies h.lies (Nat.le_refl _) fun hn => hA (by rintro rfl; exact hn rfl)) k.size, fun r hr => k.slb (h.text r hr) (hT r hr)⟩
section
variable {w w' : World} {p : Nat} {S S' T : Nat → Prop} {D : Ds} {h : Ph}
theorem InS.not {A : Option Addr} {ne : Prop} (H : InS S p A ne) (hT : ∀ x, S x → ¬ T x) : ne → ∀ a, A = some a → ¬ T a.block := fun hn a ha => hT _ (H hn a ha).1
theorem InS.notp {A : Option Addr} {ne : Prop} (H : InS S p A ne) : ne → ∀ a, A = some a → ¬ a.block = p := fun hn a ha => (H hn a ha).2
theorem InS.more {A : Option Addr} {ne ne' : Prop} (H : InS S p A ne) (hS : ∀ x, S x → S' x) (hn : ne' → ne) : InS S' p A ne' := fun h1 a ha => ⟨hS _ (H (hn h1) a ha).1, (H (hn h1) a ha).2⟩
theorem DPh.keep (H : DPh w p S D h) (k : ButP T w w') (hT : ∀ x, S x → ¬ T x) : DPh w' p S D h :=
  ⟨k.box H.box (hT _ H.sp), k.slb H.line (H.sl.not hT), k.slb H.raw (H.sr.not hT), k.slb H.out (H.so.not hT), k.lnv H.lsv (H.row.not hT) (fun r hr => (H.txt r hr).not hT), H.lsq, H.row, H.txt, H.sp, H.sl, H.sr, H.so, fun x hx => Nat.lt_of_lt_of_le (H.top x hx) k.size⟩
theorem DAt.keep (H : DAt w p S D) (k : ButP T w w') (hT : ∀ x, S x → ¬ T x) : DAt w' p S D := by
  obtain ⟨h, H⟩ := H
  exact ⟨h, H.keep k hT⟩
theorem DPh.bel (H : DPh w p S D h) (k : Below w.heap.size w w') : DPh w' p S D h := H.keep (ButP.of_below k fun _ => False) fun _ _ h => h
theorem DAt.bel (H : DAt w p S D) (k : Below w.heap.size w w') : DAt w' p S D := H.keep (ButP.of_below k fun _ => False) fun _ _ h => h
theorem DAt.top (H : DAt w p S D) : ∀ x, S x → x < w.heap.size := by
  obtain ⟨h, H⟩ := H
  exact H.top
theorem DAt.drew (H : DAt w p S D) : DAt w.drew p S D := H.keep (T := fun _ => False) ⟨rfl, rfl, rfl, Nat.le_refl _, fun _ _ _ => rfl⟩ fun _ _ h => h
/-- A store to the discipline: what it is then, and where its lists lie. -/
theorem DPh.re (H : DPh w p S D h) {w' : World} {D' : Ds} {h' : Ph} (k : ButP (fun x => x = p) w w') (hb : Box w' p 88 (tmV D'.t (dRest D' h'))) (hS : ∀ x, S x → S' x) (hS2 : ∀ x, S' x → x < w'.heap.size)
    (l1 : SlB w w.heap.size h'.lA h'.lc D'.line) (l2 : InS S' p h'.lA (D'.line ≠ [])) (r1 : SlB w w.heap.size h'.rA h'.rc D'.raw) (r2 : InS S' p h'.rA (D'.raw ≠ [])) (o1 : SlB w w.heap.size h'.oA h'.oc D'.out) (o2 : InS S' p h'.oA (D'.out ≠ []))
    (n1 : L13.LnV w w.heap.size h'.nA h'.nc h'.qs) (n2 : L13.lnR h'.qs = D'.ls) (n3 : InS S' p h'.nA (h'.qs ≠ [])) (n4 : ∀ r ∈ h'.qs, InS S' p r.A (r.bs ≠ [])) : DPh w' p S' D' h' :=
  ⟨hb, k.slb l1 l2.notp, k.slb r1 r2.notp, k.slb o1 o2.notp, k.lnv n1 n3.notp (fun r hr => (n4 r hr).notp), n2, n3, n4, hS _ H.sp, l2, r2, o2, hS2⟩
end
/-- What a call leaves: the same blocks, and new ones. -/
def DOut (w : World) (p : Nat) (S : Nat → Prop) (D' : Ds) (w' : World) : Prop := ∃ S', Hid (DAt w' p S' D') ∧ Hid (∀ x, S' x → S x ∨ w.heap.size ≤ x) ∧ Hid (ButP S w w')
/-- What the calls ask: sizes within reason. -/
structure Fit (D : Ds) : Prop where
  t : D.t.Ok
  line : D.line.length ≤ 13000
  raw : D.raw.length ≤ 13000
  out : D.out.length ≤ 13000
  ls : D.ls.length ≤ 3300
  used : L13.usedL D.ls ≤ 20000
  col : i64ok D.col
  fr : i64ok D.fr
  idle : i64ok D.idle
theorem ls_used (ls : List (List UInt8 × Bool)) (h : ∀ x ∈ ls, 1 ≤ x.1.length + (if x.2 = true then 1 else 0)) : ls.length ≤ L13.usedL ls := by
  induction ls with
  | nil => exact Nat.le_refl _
  | cons x r ih =>
    have h1 := h x (List.mem_cons_self ..)
    have h2 := ih fun y hy => h y (List.mem_cons_of_mem _ hy)
    simp only [L13.usedL, List.map_cons, List.sum_cons, List.length_cons] at h2 ⊢
    omega
theorem Inv.fit {D : Ds} (h : Inv D) : Fit D := by
  have h1 := ls_used D.ls h.one
  have h2 := h.ls
  have h3 := h.line
  have h4 := h.raw
  have h5 := h.out
  have h6 := h.i0
  have h7 := h.i1
  have h8 := h.c0
  have h9 := h.c1
  have h10 := h.f0
  have h11 := h.f1
  exact ⟨h.t, by omega, by omega, by omega, by omega, by omega, ⟨by omega, by omega⟩, ⟨by omega, by omega⟩, ⟨by omega, by omega⟩⟩
end Go.Proofs.Ytggcampdkgfmgaa
namespace Go.Proofs.Ytggcampdkgfmgaa
open Go.RowKit

/-! Sizes within reason stay so. -/
structure FitN (n : Nat) (D : Ds) : Prop where
  t : D.t.Ok
  line : D.line.length ≤ 13000
  raw : D.raw.length ≤ 13000
  out : D.out.length ≤ 13000
  ls : D.ls.length ≤ n
  used : L13.usedL D.ls ≤ 20000
  col : i64ok D.col
  fr : i64ok D.fr
  idle : i64ok D.idle
theorem FitN.fit {n : Nat} {D : Ds} (h : FitN n D) (hn : n ≤ 3300) : Fit D := ⟨h.t, h.line, h.raw, h.out, Nat.le_trans h.ls hn, h.used, h.col, h.fr, h.idle⟩
theorem FitN.more {n : Nat} {D : Ds} (h : FitN n D) : FitN (n + 1) D := ⟨h.t, h.line, h.raw, h.out, Nat.le_succ_of_le h.ls, h.used, h.col, h.fr, h.idle⟩
theorem ok_nat {n : Nat} (h : n ≤ 65535) : i64ok (n : Int) := by unfold i64ok; omega
theorem ok_zero : i64ok 0 := by unfold i64ok; omega
section
variable {n : Nat} {D : Ds}
theorem FitN.put (h : FitN n D) (b : List UInt8) : FitN n (putD D b) := by
  unfold putD
  split
  · rename_i hb
    exact ⟨h.t, h.line, h.raw, by simp; omega, h.ls, h.used, h.col, h.fr, h.idle⟩
  · exact h
theorem FitN.show_ (h : FitN n D) (b : List UInt8) : FitN n (showD D b) := by
  unfold showD
  split
  · rename_i hb
    exact ⟨h.t, h.line, h.raw, by simp; omega, h.ls, h.used, ok_nat (L12.bytesP_le (L12.poF D.t) b _ (nrm_le D.col)), h.fr, h.idle⟩
  · exact h
theorem FitN.echo (h : FitN n D) (b : List UInt8) : FitN n (echoD D b) := by
  unfold echoD
  split
  · exact h.show_ b
  · exact h
theorem FitN.beep (h : FitN n D) : FitN n (beepD D) := by
  unfold beepD
  split
  · exact h.put _
  · exact h
theorem FitN.line_ (h : FitN n D) {l : List UInt8} (hl : l.length ≤ 13000) : FitN n { D with line := l } := ⟨h.t, hl, h.raw, h.out, h.ls, h.used, h.col, h.fr, h.idle⟩
theorem FitN.fr_ (h : FitN n D) : FitN n { D with fr := D.col } := ⟨h.t, h.line, h.raw, h.out, h.ls, h.used, h.col, h.col, h.idle⟩
theorem FitN.nx_ (h : FitN n D) (b : Bool) : FitN n { D with nx := b } := ⟨h.t, h.line, h.raw, h.out, h.ls, h.used, h.col, h.fr, h.idle⟩
theorem FitN.flow (h : FitN n D) (a b : Bool) : FitN n { D with s := a, h := b } := ⟨h.t, h.line, h.raw, h.out, h.ls, h.used, h.col, h.fr, h.idle⟩
theorem FitN.raw_ (h : FitN n D) {l : List UInt8} (hl : l.length ≤ 13000) : FitN n { D with raw := l } := ⟨h.t, h.line, hl, h.out, h.ls, h.used, h.col, h.fr, h.idle⟩
theorem FitN.take (h : FitN n D) (c : UInt8) (b : List UInt8) : FitN n (takeD D c b) := by
  unfold takeD
  split
  · split
    · rename_i h1 h2
      exact (h.raw_ (by simp; omega)).echo _
    · exact h.beep
  · split
    · rename_i h1 h2
      refine FitN.echo (D := { D with fr := if D.line = [] then D.col else D.fr, line := D.line ++ b }) ⟨h.t, by simp; omega, h.raw, h.out, h.ls, h.used, h.col, ?_, h.idle⟩ _
      show i64ok (if D.line = [] then D.col else D.fr)
      split
      · exact h.col
      · exact h.fr
    · exact h.beep
theorem FitN.end_ (h : FitN n D) (b : List UInt8) (eof : Bool) : FitN (n + 1) (endD D b eof) := by
  unfold endD endB
  split
  · rename_i h1
    unfold L13.putL at h1 ⊢
    split
    · rename_i h2
      refine ⟨h.t, by simp, h.raw, h.out, ?_, ?_, h.col, h.fr, h.idle⟩
      · have := h.ls
        simp
        omega
      · show L13.usedL (D.ls ++ [(D.line ++ b, eof)]) ≤ 20000
        rw [L13.usedL_append]
        omega
    · rename_i h2
      simp [h2] at h1
  · exact h.beep.more
theorem FitN.mark (h : FitN n D) : FitN n (markD D) := (h.flow _ _).put _
theorem FitN.gone_ (h : FitN n D) (c : UInt8) {r g : List UInt8} (hr : r.length ≤ D.line.length) : FitN n (goneD D c r g) := by
  have hl := h.line
  unfold goneD
  split
  · exact h
  · split
    · exact (h.line_ (by omega)).echo _
    · exact (h.line_ (by omega)).echo _
theorem FitN.kill (h : FitN n D) (c : UInt8) : FitN n (killD D c) := by
  unfold killD
  split
  · exact (h.line_ (by simp)).echo _
  · exact (h.line_ (by simp)).echo _
theorem FitN.again (h : FitN n D) (c : UInt8) : FitN n (againD D c) := by
  unfold againD
  exact ((h.echo _).fr_).echo _
theorem FitN.newline (h : FitN n D) (c : UInt8) : FitN (n + 1) (newlineD D c) := by
  have h2 := h.end_ [c] false
  unfold newlineD
  split
  · exact h2
  · split
    · split
      · exact h2.show_ _
      · exact h2
    · exact h2.echo _
theorem FitN.typed (h : FitN n D) (c : UInt8) : FitN (n + 1) (typedD D c) := by
  unfold typedD
  split
  · split
    · exact ((h.nx_ true).echo _).more
    · exact (h.nx_ true).more
  · split
    · exact (h.gone_ c (eraA_le _ _)).more
    · split
      · exact (h.gone_ c (restL_le _ _)).more
      · split
        · exact (h.kill c).more
        · split
          · exact (h.again c).more
          · split
            · exact h.end_ [] true
            · split
              · exact h.newline c
              · exact (h.take c _).more
theorem FitN.flushS (h : FitN n D) (sg : Int) : FitN n (flushS D sg) := by
  have ho := h.out
  unfold Go.Proofs.Ytggcampdkgfmgaa.flushS
  split
  · exact h
  · refine ⟨h.t, by simp, by simp, ?_, by simp, by simp [L13.usedL], h.col, h.fr, h.idle⟩
    show (if sg = 20 then D.out else []).length ≤ 13000
    split
    · exact ho
    · simp
theorem FitN.sigE (h : FitN n D) (c : UInt8) (sg : Int) : FitN n (sigE D c sg) := by
  unfold Go.Proofs.Ytggcampdkgfmgaa.sigE
  refine FitN.echo ?_ _
  split
  · have k := h.flushS sg
    exact ⟨k.t, k.line, k.raw, k.out, k.ls, k.used, k.col, k.fr, k.idle⟩
  · exact h.flushS sg
theorem FitN.inner (h : FitN n D) (c : UInt8) : FitN (n + 1) (innerD D c).1 := by
  unfold innerD
  split
  · exact ((h.nx_ false).take c [c]).more
  · have h2 := h.flow (L15.typedF D.t D.s D.h c).1.1 (L15.typedF D.t D.s D.h c).1.2
    simp only
    split
    · exact h2.more
    · split
      · exact (h2.sigE _ _).more
      · split
        · exact h2.more
        · split
          · exact h2.typed _
          · exact (h2.take _ _).more
theorem FitN.input (h : FitN n D) (c : UInt8) : FitN (n + 1) (inputD D c).1 := (FitN.inner (D := { D with idle := 0 }) ⟨h.t, h.line, h.raw, h.out, h.ls, h.used, h.col, h.fr, ok_zero⟩ _).mark
end
end Go.Proofs.Ytggcampdkgfmgaa
namespace Go.Proofs.Ytggcampdkgfmgaa
open Go.RowKit

/-! Numbers in memory. -/
/-- Numbers in memory. -/
def SlI (w : World) (B : Nat) (A : Option Addr) (c : Nat) (l : List Int) : Prop := l.length ≤ c ∧ c ≤ maxLen ∧ (A = none → c = 0) ∧ Lies w B A (l.map fun x => Value.int .i64 x)
/-- Bytes that are answered are none of the discipline's own. -/
def DOutF (w : World) (p : Nat) (S : Nat → Prop) (D' : Ds) (A : Option Addr) (b : List UInt8) (w' : World) : Prop := ∃ S', Hid (DAt w' p S' D') ∧ Hid (∀ x, S' x → S x ∨ w.heap.size ≤ x) ∧ Hid (ButP S w w') ∧ Hid (b ≠ [] → ∀ a, A = some a → ¬ S' a.block) ∧ Hid (b ≠ [] → ∀ a, A = some a → w.heap.size ≤ a.block)
def RetIn (w : World) (p : Nat) (S : Nat → Prop) (r : Ds × List Int) (e : Ending) (w' : World) : Prop := ∃ A n c, e = .returned (.slice A n c) ∧ Hid (r.2.length = n) ∧ Hid (SlI w' w'.heap.size A c r.2) ∧ DOut w p S r.1 w'
def RetOut (w : World) (p : Nat) (S : Nat → Prop) (D' : Ds) (b : List UInt8) (e : Ending) (w' : World) : Prop := ∃ A n c, e = .returned (.slice A n c) ∧ Hid (b.length = n) ∧ Hid (SlB w' w'.heap.size A c b) ∧ DOutF w p S D' A b w'
def RetRd (w : World) (p : Nat) (S : Nat → Prop) (r : Ds × List UInt8 × Bool) (e : Ending) (w' : World) : Prop := ∃ A n c, e = .returned (.tuple #[.slice A n c, .bool r.2.2]) ∧ Hid (r.2.1.length = n) ∧ Hid (SlB w' w'.heap.size A c r.2.1) ∧ DOutF w p S r.1 A r.2.1 w'
theorem sli_cell {w : World} {B n c : Nat} {A : Option Addr} {l : List Int} (h : SlI w B A c l) {j : Nat} (hn : l.length = n) (hj : j < n) : ∃ b o y, A = some ⟨b, o, none⟩ ∧ l[j]? = some y ∧ w.cell? ⟨b, o + j, none⟩ = some (.int .i64 y) := by
  subst hn
  obtain ⟨b, o, rfl, hb, hc⟩ := h.2.2.2 (by
    intro e
    have : l = [] := by simpa using e
    subst this; simp at hj)
  exact ⟨b, o, l[j], rfl, by simp [hj], hc j _ (by simp [hj])⟩
theorem sli_up {u W : World} {A : Option Addr} {c : Nat} {l : List Int} (h : Hid (SlI u u.heap.size A c l)) (hW : Below u.heap.size u W) : Hid (SlI W W.heap.size A c l) :=
  hid ⟨h.out.1, h.out.2.1, h.out.2.2.1, (h.out.2.2.2.below hW).more hW.size⟩
theorem sli_lit {w : World} {cs : Array Value} {l : List Int} {n : Nat} (hc : (l.map fun x => Value.int .i64 x).toArray = cs) (hn : l.length = n) (hm : n ≤ maxLen) : SlI (w.alloc (.cells cs 3)) (w.alloc (.cells cs 3)).heap.size (some ⟨w.heap.size, 0, none⟩) n l := by
  subst hn hc
  refine ⟨Nat.le_refl _, hm, (fun e => by cases e), ?_⟩
  have := lies_lit w (l.map fun x => Value.int .i64 x).toArray 3
  rw [World.size_alloc]
  simpa using this
end Go.Proofs.Ytggcampdkgfmgaa
namespace Go.Proofs.Ytggcampdkgfmgaa
open Go.RowKit

/-! Layer 16: appends to a row of its own, and where it lies behind them. -/
section
variable {P : Program} (w : World)
/-- append of a slice to a row of the call's own: where the row lies behind it. -/
theorem run_appx (base : Nat) (t ty e : TypeId) (i : TypeInfo) (z : Value) (bytes : Nat) (ht : P.underlying t = some (.slice e)) (hi : P.info? e = some i) (hz : i.zero = some z)
    (hsize : i.size = 1) (hby : i.bytes = bytes) (hzs : z.cells.size = 1)
    (A : Option Addr) (n c : Nat) (xs : List Value) (hown : w.ownsRow base e 1 (.slice A n c) n xs)
    (B : Nat) (A2 : Option Addr) (m c2 : Nat) (news : List Value) (hl : news.length = m) (hr : Lies w B A2 news) (h1 : ∀ u ∈ news, u.oneCell' = true)
    (h63 : n + m ≤ maxLen) (hbytes : (n + m) * bytes ≤ 140737488355328) (hbase : base ≤ w.heap.size) :
    ∃ A' c' w', (Builtin.append_ #[t, t] ty #[.slice A n c, .slice A2 m c2]).run P w = .ok (.slice A' (n + m) c') w' ∧ w'.ownsRow base e 1 (.slice A' (n + m) c') (n + m) (xs ++ news) ∧
      w.grownBy w' (Value.slice A n c).ownBlock ∧ ∀ x, (Value.slice A' (n + m) c').ownBlock = some x → (Value.slice A n c).ownBlock = some x ∨ w.heap.size ≤ x := by
  by_cases hm : m = 0
  · subst hm
    have hn : news = [] := List.eq_nil_of_length_eq_zero hl
    subst hn
    refine ⟨A, c, w, ?_, by simpa using hown, ⟨rfl, rfl, rfl, Nat.le_refl _, fun _ _ _ => rfl⟩, fun x hx => .inl hx⟩
    rcases hown.2 with ⟨hv, h0⟩ | ⟨g, cap, cur, hv, _, _, hnc, _⟩
    · subst h0
      injection hv with hA hn hc
      subst hA; subst hc
      cases A2 <;> simp [Builtin.append_, run_underlying ht, sizeOf, typeInfo, hi, Builtin.lenOf, Builtin.firstCells, loadCells, loadCellsFrom]
    · injection hv with hA hn hc
      subst hA; subst hc
      cases A2 <;> simp [Builtin.append_, run_underlying ht, sizeOf, typeInfo, hi, Builtin.lenOf, Builtin.firstCells, loadCells, loadCellsFrom, storeCells, hnc]
  · have hne : news ≠ [] := by
      intro e
      rw [e] at hl
      simp at hl
      omega
    obtain ⟨b, o, rfl, _, hc⟩ := hr hne
    have hnews : ∀ j u, news[j]? = some u → w.cell? (Addr.add ⟨b, o, none⟩ j) = some u := fun j u hu => by rw [Addr.add_lit]; exact hc j u hu
    have hl1 : news.length = m * i.size := by rw [hsize]; omega
    have h63' : n + m ≤ 9223372036854775807 := by unfold maxLen at h63; omega
    obtain ⟨v', w', hrun, h2, h3, h4⟩ := run_append_own (P := P) w base t ty e i z 1 bytes ht hi hz hsize hby hzs (by decide) (.slice A n c) n xs hown ⟨b, o, none⟩ m c2 news (by omega) hnews h1 h63 hbytes hbase
    obtain ⟨A', c', rfl⟩ : ∃ A' c', v' = .slice A' (n + m) c' := by
      rcases h2.2 with ⟨_, h0⟩ | ⟨g, cap, cur, hv, _⟩
      · omega
      · exact ⟨_, _, hv⟩
    refine ⟨A', c', w', hrun, h2, h3, ?_⟩
    intro x hx
    rcases hown.2 with ⟨hv, h0⟩ | ⟨g, cap, cur, hv, hbg, hg, hnc, hcm, hcs, htake⟩
    · injection hv with e1 e2 e3
      subst e1; subst e3; subst h0
      have hr2 := run_append_nil (P := P) w t ty e i z ht hi hz ⟨b, o, none⟩ m c2 news hl1 hnews (by omega) (by omega) (by have := hbytes; rw [hby]; simp only [Nat.zero_add] at this; omega)
      rw [hr2] at hrun
      injection hrun with e4 _
      injection e4 with e5 _ _
      subst e5
      right
      simp [Value.ownBlock] at hx
      omega
    · injection hv with e1 e2 e3
      subst e1; subst e3
      by_cases hroom : n + m ≤ c
      · have hr2 := run_append_room (P := P) w t ty e i ht hi g n c cur hg ⟨b, o, none⟩ m c2 news hl1 hnews h1 hroom (by rw [hsize, hcs]; omega)
        rw [hr2] at hrun
        injection hrun with e4 _
        injection e4 with e5 _ _
        subst e5
        exact .inl hx
      · have holds : ∀ j v, xs[j]? = some v → w.cell? ((⟨g, 0, none⟩ : Addr).add j) = some v := hown.cells (g := g) rfl
        have hr2 := run_append_grow (P := P) w t ty e i z ht hi hz ⟨g, 0, none⟩ n c xs (by rw [hown.1, hsize]) holds ⟨b, o, none⟩ m c2 news hl1 hnews (by omega) (by omega) (growslice_fits (by omega) (by rw [hby]; exact hbytes))
        rw [hr2] at hrun
        injection hrun with e4 _
        injection e4 with e5 _ _
        subst e5
        right
        simp [Value.ownBlock] at hx
        omega

theorem wpList_appx {ops : Array Oper} {rest : List Oper} {o : Oper} {a : Act} {Q : Exit → Act → World → Prop} (hgd : o.guard = none) (s x : Operand) (t : TypeId)
    (ho : o.op = .call { callee := .builtin .append, args := #[s, x], argTypes := #[t, t] })
    (base : Nat) (e : TypeId) (i : TypeInfo) (z : Value) (bytes : Nat) (ht : P.underlying t = some (.slice e)) (hi : P.info? e = some i) (hz : i.zero = some z)
    (hsize : i.size = 1) (hby : i.bytes = bytes) (hzs : z.cells.size = 1)
    (A : Option Addr) (n c : Nat) (xs : List Value) (hs : a.eval s = .slice A n c) (hown : w.ownsRow base e 1 (.slice A n c) n xs)
    (B : Nat) (A2 : Option Addr) (m c2 : Nat) (news : List Value) (hx : a.eval x = .slice A2 m c2) (hl : news.length = m) (hr : Lies w B A2 news) (h1 : ∀ u ∈ news, u.oneCell' = true)
    (h63 : n + m ≤ maxLen) (hbytes : (n + m) * bytes ≤ 140737488355328) (hbase : base ≤ w.heap.size)
    (h : ∀ A' c' w', w'.ownsRow base e 1 (.slice A' (n + m) c') (n + m) (xs ++ news) → w.grownBy w' (Value.slice A n c).ownBlock → (∀ x, (Value.slice A' (n + m) c').ownBlock = some x → (Value.slice A n c).ownBlock = some x ∨ w.heap.size ≤ x) → wpList P ops Q rest (a.put o.dst (.slice A' (n + m) c')) w') : wpList P ops Q (o :: rest) a w := by
  refine wpList_plain hgd fun K hK => ?_
  obtain ⟨A', c', w', hrun, h2, h3, h4⟩ := run_appx (P := P) w base t o.type e i z bytes ht hi hz hsize hby hzs A n c xs hown B A2 m c2 news hl hr h1 h63 hbytes hbase
  unfold Oper.wp execOp
  simp only [ho, resolve, invoke, builtin, Sem.run_bind, Sem.run_pure, Result.andThen_ok, List.map_toArray, List.map_cons, List.map_nil, hs, hx, hrun]
  exact hK _ _ (h A' c' w' h2 h3 h4)
end


/-- Bytes behind bytes of a row of one's own: nothing else turns. -/
theorem app_base {ops : Array Oper} {rest : List Oper} {o : Oper} {a : Act} {Q : Exit → Act → World → Prop} (w : World) (hgd : o.guard = none) (s x : Operand) (ho : o.op = .call { callee := .builtin .append, args := #[s, x], argTypes := #[27, 27] })
    (base : Nat) (hbase : base ≤ w.heap.size) (n c : Nat) (A : Option Addr) (xs : List UInt8) (hs : a.eval s = .slice A n c) (hown : Hid (w.ownsRow base 5 1 (.slice A n c) n (bv xs))) (A2 : Option Addr) (m c2 : Nat) (ys : List UInt8)
    (hx : a.eval x = .slice A2 m c2) (hS : Hid (SlB w w.heap.size A2 c2 ys)) (hy : ys.length = m) (hm : n + m ≤ 1000000)
    (h : ∀ A' c' w', Hid (w'.ownsRow base 5 1 (.slice A' (n + m) c') (n + m) (bv (xs ++ ys))) → Hid (ButP (fun b => ∃ q, A = some q ∧ q.block = b) w w') → Hid (∀ q, A' = some q → (∃ r, A = some r ∧ r.block = q.block) ∨ w.heap.size ≤ q.block) → wpList Try.prog ops Q rest (a.put o.dst (.slice A' (n + m) c')) w') : wpList Try.prog ops Q (o :: rest) a w := by
  subst hy
  obtain ⟨i5, hi5, hz5, hz51, hz52⟩ := info_parts Try.info5
  refine wpList_appx w hgd s x 27 ho base 5 i5 _ 1 Try.underlying27 hi5 hz5 hz51 hz52 rfl A n c (bv xs) hs hown.out w.heap.size A2 ys.length c2 (bv ys) hx (bv_length ys) hS.out.2.2.2 (bv_one _) (by unfold maxLen; omega) (by omega) hbase ?_
  intro A3 c3 u3 ho3 hg3 hw3
  refine h A3 c3 u3 (hid ?_) (hid ((ButP.refl _ w).grown hg3 fun k hk => .inl ?_)) (hid fun q hq => ?_)
  · rwa [← bv_append] at ho3
  · cases A with
    | none => cases hk
    | some q => injection hk with hk; exact ⟨q, rfl, hk⟩
  · subst hq
    rcases hw3 _ rfl with h1 | h1
    · cases A with
      | none => cases h1
      | some r => injection h1 with h1; exact .inl ⟨r, rfl, h1⟩
    · exact .inr h1
/-- Bytes behind bytes of a row of one's own: nothing else turns. -/
theorem app_but {ops : Array Oper} {rest : List Oper} {o : Oper} {a : Act} {Q : Exit → Act → World → Prop} (w : World) (hgd : o.guard = none) (s x : Operand) (ho : o.op = .call { callee := .builtin .append, args := #[s, x], argTypes := #[27, 27] })
    (n c : Nat) (A : Option Addr) (xs : List UInt8) (hs : a.eval s = .slice A n c) (hown : Hid (w.ownsRow 0 5 1 (.slice A n c) n (bv xs))) (A2 : Option Addr) (m c2 : Nat) (ys : List UInt8)
    (hx : a.eval x = .slice A2 m c2) (hS : Hid (SlB w w.heap.size A2 c2 ys)) (hy : ys.length = m) (hm : n + m ≤ 1000000)
    (h : ∀ A' c' w', Hid (w'.ownsRow 0 5 1 (.slice A' (n + m) c') (n + m) (bv (xs ++ ys))) → Hid (ButP (fun b => ∃ q, A = some q ∧ q.block = b) w w') → Hid (∀ q, A' = some q → (∃ r, A = some r ∧ r.block = q.block) ∨ w.heap.size ≤ q.block) → wpList Try.prog ops Q rest (a.put o.dst (.slice A' (n + m) c')) w') : wpList Try.prog ops Q (o :: rest) a w := by
  exact app_base w hgd s x ho 0 (Nat.zero_le _) n c A xs hs hown A2 m c2 ys hx hS hy hm h
theorem own_nil0 (w : World) : Hid (w.ownsRow 0 5 1 (.slice none 0 0) 0 (bv [])) := hid ⟨rfl, .inl ⟨rfl, rfl⟩⟩
theorem own0_slb {w : World} {A : Option Addr} {n c : Nat} {xs : List UInt8} (hn : Hid (xs.length = n)) (h : Hid (w.ownsRow 0 5 1 (.slice A n c) n (bv xs))) : Hid (SlB w w.heap.size A c xs) := slb_own hn h
theorem own_but {w w' : World} {S : Nat → Prop} {A : Option Addr} {n c : Nat} {xs : List UInt8} (h : Hid (w.ownsRow 0 5 1 (.slice A n c) n (bv xs))) (k : ButP S w w') (hS : ∀ q, A = some q → ¬ S q.block) : Hid (w'.ownsRow 0 5 1 (.slice A n c) n (bv xs)) :=
  hid (k.own h.out fun g hg => by
    cases A with
    | none => cases hg
    | some q => injection hg with hg; subst hg; exact hS q rfl)
theorem own_lt {w : World} {a : Addr} {n c : Nat} {xs : List UInt8} (h : Hid (w.ownsRow 0 5 1 (.slice (some a) n c) n (bv xs))) {A : Option Addr} (_hA : A = some a) : a.block < w.heap.size := by
  rcases h.out.2 with ⟨e, _⟩ | ⟨g, cap, cur, e, _, hg, _⟩
  · cases e
  · injection e with e1 _ _
    injection e1 with e1
    subst e1
    exact (show Box w g 5 cur from hg).lt
/-- Rows of a list stay, where none of them turns. -/
theorem pl_but {w w' : World} {B : Nat} {T : Nat → Prop} {ps : List (List UInt8)} {cs : List Value} (h : L10.PL w B ps cs) (k : ButP T w w') (hT : ∀ v ∈ cs, ∀ g, v.ownBlock = some g → ¬ T g) : L10.PL w' B ps cs :=
  ⟨h.1, fun j hj => by
    obtain ⟨A, c, h1, h2⟩ := h.2 j hj
    exact ⟨A, c, h1, k.own h2 (hT _ (List.mem_of_getElem? h1))⟩⟩
/-- A row's block is there. -/
theorem pl_lt {w : World} {B : Nat} {ps : List (List UInt8)} {cs : List Value} (h : L10.PL w B ps cs) : ∀ v ∈ cs, ∀ g, v.ownBlock = some g → g < w.heap.size := fun v hv g hg => by
  obtain ⟨j, hj, rfl⟩ := List.getElem_of_mem hv
  obtain ⟨A, c, h1, h2⟩ := h.2 j (by rw [← h.1]; exact hj)
  rw [List.getElem?_eq_getElem hj] at h1
  injection h1 with h1
  rw [h1] at hg
  rcases h2.2 with ⟨e, _⟩ | ⟨g2, cap, cur, e, _, hg2, _⟩
  · rw [e] at hg; cases hg
  · rw [e] at hg
    injection hg with hg
    subst hg
    exact (show Box w g2 5 cur from hg2).lt
end Go.Proofs.Ytggcampdkgfmgaa
namespace Go.Proofs.Ytggcampdkgfmgaa
open Go.RowKit

/-! A discipline through calls, numbers in memory of one's own. -/
structure Rel (w0 w : World) (p : Nat) (S0 S : Nat → Prop) (D : Ds) : Prop where
  at_ : DAt w p S D
  new : ∀ x, S x → S0 x ∨ w0.heap.size ≤ x
  but : ButP S0 w0 w
section
variable {w0 w w' : World} {p : Nat} {S0 S : Nat → Prop} {D D' : Ds}
theorem Rel.next (H : Rel w0 w p S0 S D) (h : DOut w p S D' w') : ∃ S', Hid (Rel w0 w' p S0 S' D') ∧ Hid (∀ x, S' x → S x ∨ w.heap.size ≤ x) ∧ Hid (ButP S w w') := by
  obtain ⟨S', h1, h2, h3⟩ := h
  refine ⟨S', hid ⟨h1.out, fun x hx => ?_, H.but.trans h3.out H.new⟩, h2, h3⟩
  rcases h2.out x hx with h | h
  · exact H.new x h
  · exact .inr (Nat.le_trans H.but.size h)
theorem Rel.nextF {A : Option Addr} {b : List UInt8} (H : Rel w0 w p S0 S D) (h : DOutF w p S D' A b w') : ∃ S', Hid (Rel w0 w' p S0 S' D') ∧ Hid (∀ x, S' x → S x ∨ w.heap.size ≤ x) ∧ Hid (ButP S w w') := by
  obtain ⟨S', h1, h2, h3, _⟩ := h
  exact H.next ⟨S', h1, h2, h3⟩
theorem Rel.store (H : Rel w0 w p S0 S D) {g : Nat} (h1 : ¬ S g) (h2 : w0.heap.size ≤ g) (i : Nat) (u : Value) : Rel w0 (w.setCell ⟨g, i, none⟩ u) p S0 S D :=
  ⟨H.at_.keep (T := fun x => x = g) ((ButP.refl (fun x => x = g) w).store (.inl rfl) u) (fun x hx e => h1 (e ▸ hx)), H.new, H.but.store (.inr h2) u⟩
theorem Rel.out (H : Rel w0 w p S0 S D) : DOut w0 p S0 D w := ⟨S, hid H.at_, hid H.new, hid H.but⟩
end
theorem Rel.new3 {w : World} {p : Nat} {S : Nat → Prop} {D : Ds} (hD : DAt w p S D) (o1 o2 o3 : Obj) : Rel w (((w.alloc o1).alloc o2).alloc o3) p S S D := by
  have b1 := (Below.refl _ w).alloc (Nat.le_refl _) o1
  have b2 := b1.alloc b1.size o2
  have b3 := b2.alloc b2.size o3
  exact ⟨hD.bel b3, fun x hx => .inl hx, ButP.of_below b3 _⟩
theorem infoI : (Try.prog.info? 3).map (fun i => (i.zero, i.size, i.bytes)) = some (some (.int .i64 0), 1, 8) := by kernel_rfl
def iv16 (l : List Int) : List Value := l.map fun x => Value.int .i64 x
theorem own_ltI {w : World} {base e size n c : Nat} {a : Addr} {xs : List Value} (h : Hid (w.ownsRow base e size (.slice (some a) n c) n xs)) : a.block < w.heap.size := by
  obtain ⟨_, cs, b⟩ := own_box h.out a.block rfl
  exact b.lt
theorem Rel.drew {w0 w : World} {p : Nat} {S0 S : Nat → Prop} {D : Ds} (H : Rel w0 w p S0 S D) : Rel w0 w.drew p S0 S D := ⟨H.at_.drew, H.new, H.but.drew⟩
theorem own_free {B n c : Nat} {A : Option Addr} {S : Nat → Prop} {sz : Nat} (F : Hid (∀ x, A = some x → B ≤ x.block ∧ ¬ S x.block ∧ x.block < sz)) : ∀ g, (Value.slice A n c).ownBlock = some g → ¬ S g := fun g hg => by
  cases A with
  | none => cases hg
  | some q => injection hg with hg; subst hg; exact (F.out q rfl).2.1
theorem rel_row {w0 w u u2 : World} {p : Nat} {S0 S1 S2 : Nat → Prop} {D : Ds} {A : Option Addr} (R : Hid (Rel w0 u p S0 S2 D)) (F : Hid (∀ x, A = some x → w0.heap.size ≤ x.block ∧ ¬ S1 x.block ∧ x.block < w.heap.size)) (N : Hid (∀ x, S2 x → S1 x ∨ w.drew.heap.size ≤ x)) (B : Hid (ButP (fun b => ∃ q, A = some q ∧ q.block = b) u u2)) : Rel w0 u2 p S0 S2 D :=
  ⟨R.out.at_.keep B.out (fun x hx => by
    rintro ⟨a, ha, rfl⟩
    have h1 := F.out a ha
    rcases N.out _ hx with h | h
    · exact h1.2.1 h
    · have h2 : w.heap.size ≤ a.block := h
      omega), R.out.new, R.out.but.trans B.out (fun x hx => by obtain ⟨a, ha, rfl⟩ := hx; exact .inr (F.out a ha).1)⟩
theorem free_row {w0 w u u2 : World} {S1 S2 : Nat → Prop} {A A' : Option Addr} {n c : Nat} {xs : List Value} (F : Hid (∀ x, A = some x → w0.heap.size ≤ x.block ∧ ¬ S1 x.block ∧ x.block < w.heap.size)) (N : Hid (∀ x, S2 x → S1 x ∨ w.drew.heap.size ≤ x)) (F2 : Hid (∀ q, A' = some q → (∃ r, A = some r ∧ r.block = q.block) ∨ u.heap.size ≤ q.block)) (P : Hid (u2.ownsRow 0 3 1 (.slice A' n c) n xs)) (h1 : w.drew.heap.size ≤ u.heap.size) (h2 : u.heap.size ≤ u2.heap.size) (hS : ∀ x, S2 x → x < u.heap.size := by assumption) :
    ∀ x, A' = some x → (w0.heap.size ≤ w.heap.size → w0.heap.size ≤ x.block) ∧ ¬ S2 x.block ∧ x.block < u2.heap.size := fun x hx => by
  have h3 : w.heap.size ≤ u.heap.size := h1
  subst hx
  have hlt := own_ltI P
  rcases F2.out x rfl with ⟨r, hr, e⟩ | h
  · have k := F.out r hr
    rw [e] at k
    refine ⟨fun _ => k.1, fun hs => ?_, hlt⟩
    rcases N.out _ hs with h | h
    · exact k.2.1 h
    · have h4 : w.heap.size ≤ x.block := h
      omega
  · exact ⟨fun _ => by omega, fun hs => by have := hS _ hs; omega, hlt⟩
theorem input_one (D : Ds) (c : UInt8) : (inputD D c).2.length ≤ 1 := by
  rcases inputD_sig D c with h | ⟨_, _, _, h | h | h⟩
  · rw [h]; decide
  · rw [h.1]; decide
  · rw [h.1]; decide
  · rw [h.1]; decide
theorem Rel.keep {w0 w w' : World} {p : Nat} {S0 S T : Nat → Prop} {D : Ds} (H : Rel w0 w p S0 S D) (k : ButP T w w') (hd : ∀ x, S x → ¬ T x) (hT : ∀ x, T x → S0 x ∨ w0.heap.size ≤ x) : Rel w0 w' p S0 S D :=
  ⟨H.at_.keep k hd, H.new, H.but.trans k hT⟩
end Go.Proofs.Ytggcampdkgfmgaa
namespace Go.Proofs.Ytggcampdkgfmgaa
open Go.RowKit

/-! A discipline that was made behind a world, through calls. -/
/-- A discipline that was made behind a world. -/
structure Al (w0 w : World) (p : Nat) (S : Nat → Prop) (D : Ds) : Prop where
  at_ : DAt w p S D
  new : ∀ x, S x → w0.heap.size ≤ x
  bel : Below w0.heap.size w0 w
theorem Al.made {w0 w : World} {p : Nat} {S : Nat → Prop} {D : Ds} (hD : Hid (DAt w p S D)) (hS : Hid (∀ x, S x → w0.heap.size ≤ x)) (hb : Hid (Below w0.heap.size w0 w)) : Al w0 w p S D := ⟨hD.out, hS.out, hb.out⟩
theorem Al.next {w0 w w' : World} {p : Nat} {S : Nat → Prop} {D D' : Ds} (H : Al w0 w p S D) (h : DOut w p S D' w') : ∃ S', Hid (Al w0 w' p S' D') ∧ Hid (∀ x, S' x → S x ∨ w.heap.size ≤ x) ∧ Hid (ButP S w w') := by
  obtain ⟨S', h1, h2, h3⟩ := h
  refine ⟨S', hid ⟨h1.out, fun x hx => ?_, H.bel.trans (h3.out.below H.bel.size H.new)⟩, h2, h3⟩
  rcases h2.out x hx with h | h
  · exact H.new x h
  · exact Nat.le_trans H.bel.size h
theorem Al.nextF {w0 w w' : World} {p : Nat} {S : Nat → Prop} {D D' : Ds} {A : Option Addr} {b : List UInt8} (H : Al w0 w p S D) (h : DOutF w p S D' A b w') : ∃ S', Hid (Al w0 w' p S' D') ∧ Hid (∀ x, S' x → S x ∨ w.heap.size ≤ x) ∧ Hid (ButP S w w') ∧ Hid (b ≠ [] → ∀ a, A = some a → ¬ S' a.block) := by
  obtain ⟨S', h1, h2, h3, h4, _⟩ := h
  obtain ⟨S2, k1, k2, k3⟩ := H.next (D' := D') ⟨S', h1, h2, h3⟩
  refine ⟨S', hid ⟨h1.out, fun x hx => ?_, H.bel.trans (h3.out.below H.bel.size H.new)⟩, h2, h3, h4⟩
  rcases h2.out x hx with h | h
  · exact H.new x h
  · exact Nat.le_trans H.bel.size h
/-- Bytes that are nobody's else stay. -/
theorem slb_but {w w' : World} {S : Nat → Prop} {A : Option Addr} {c : Nat} {b : List UInt8} (h : Hid (SlB w w.heap.size A c b)) (k : ButP S w w') (hA : b ≠ [] → ∀ a, A = some a → ¬ S a.block) : Hid (SlB w' w'.heap.size A c b) :=
  hid ⟨h.out.1, h.out.2.1, h.out.2.2.1, Lies.more_ (k.lies h.out.2.2.2 (Nat.le_refl _) fun hn => hA (by rintro e; rw [e] at hn; exact hn rfl)) k.size⟩
theorem slb_lt {w : World} {A : Option Addr} {c : Nat} {b : List UInt8} (h : Hid (SlB w w.heap.size A c b)) (hb : b ≠ []) : ∀ a, A = some a → a.block < w.heap.size := by
  obtain ⟨g, o, e, hlt, _⟩ := h.out.2.2.2 (by
    intro e
    have : b = [] := by simpa [bv] using e
    exact hb this)
  intro a ha
  rw [e] at ha
  injection ha with ha
  subst ha
  exact hlt
theorem free_next {w w' : World} {S S' : Nat → Prop} {A : Option Addr} {c : Nat} {b : List UInt8} (h : Hid (SlB w w.heap.size A c b)) (hf : b ≠ [] → ∀ a, A = some a → ¬ S a.block) (hS : ∀ x, S' x → S x ∨ w.heap.size ≤ x) (_k : ButP S w w') : b ≠ [] → ∀ a, A = some a → ¬ S' a.block := fun hb a ha hx => by
  have h1 := slb_lt h hb a ha
  rcases hS _ hx with h2 | h2
  · exact hf hb a ha h2
  · omega
theorem Al.grow {w0 w w' : World} {p : Nat} {S : Nat → Prop} {D : Ds} (H : Al w0 w p S D) (k : Below w.heap.size w w') : Al w0 w' p S D := ⟨H.at_.bel k, H.new, H.bel.trans (k.mono H.bel.size)⟩
theorem Al.drew {w0 w : World} {p : Nat} {S : Nat → Prop} {D : Ds} (H : Al w0 w p S D) : Al w0 w.drew p S D := ⟨H.at_.drew, H.new, H.bel.drew⟩
end Go.Proofs.Ytggcampdkgfmgaa
