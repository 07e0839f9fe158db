import Derived.Test.YtggcampdkgfmgaaGreatTZ
namespace Go.Proofs.YtggcampdkgfmgaaGreat
open Go.RowKit

/-! TopTyped: what is echoed. -/
/-- What has been typed has gone out. -/
structure Ec (t : Tm) (done : List UInt8) (D : Ds) : Prop where
  out : D.out = (L12.bytesP (L12.poF t) 0 done).1
  col : D.col = ((L12.bytesP (L12.poF t) 0 done).2 : Int)
theorem Ec.len {t : Tm} {done : List UInt8} {D : Ds} (H : Ec t done D) (hl : done.length ≤ 300) : D.out.length ≤ 600 := by
  rw [H.out]
  have := L12.bytesP_len (L12.poF t) done 0
  omega
theorem Ec.show_ {t : Tm} {done : List UInt8} {D : Ds} (H : Ec t done D) (ht : D.t = t) (hl : done.length ≤ 300) (c : UInt8) : Ec t (done ++ [c]) (showD D [c]) := by
  have hn : nrm D.col = (L12.bytesP (L12.poF t) 0 done).2 := by
    rw [H.col]
    have h1 := L12.bytesP_le (L12.poF t) done 0 (by omega)
    exact nrm_nat h1
  have h2 := H.len hl
  have h3 := L12.bytesP_len (L12.poF t) [c] (L12.bytesP (L12.poF t) 0 done).2
  have h3 : (L12.bytesP (L12.poF t) (L12.bytesP (L12.poF t) 0 done).2 [c]).1.length ≤ 2 := h3
  unfold showD
  rw [ht, hn, if_pos (by omega)]
  refine ⟨?_, ?_⟩
  · show D.out ++ _ = _
    rw [L12.bytesP_append, H.out]
  · show ((L12.bytesP (L12.poF t) (L12.bytesP (L12.poF t) 0 done).2 [c]).2 : Int) = _
    rw [L12.bytesP_append]
theorem Ec.few {t : Tm} {done : List UInt8} {D : Ds} (H : Ec t done D) (hl : done.length ≤ 300) (hh : D.h = false) (hu : usedD D < 768) : Ec t done (markD D) := by
  rw [markD_few hh hu]
  have := H.len hl
  unfold putD
  rw [if_pos (by rw [List.length_nil]; omega)]
  exact ⟨by show D.out ++ [] = _; rw [List.append_nil]; exact H.out, H.col⟩
theorem Ec.of {t : Tm} {done : List UInt8} {D E : Ds} (H : Ec t done D) (h1 : E.out = D.out) (h2 : E.col = D.col) : Ec t done E := ⟨h1.trans H.out, h2.trans H.col⟩
/-- Lines wait, and all of them have gone out. -/
structure LnE (t : Tm) (ws : List (List UInt8)) (p : List UInt8) (done : List UInt8) (D : Ds) : Prop where
  ln : LnAt t ws p D
  ec : Ec t done D
theorem sign_plain {D : Ds} {c : UInt8} (h32 : 32 ≤ c.toNat) (h126 : c.toNat ≤ 126) : signB D c = [c] := by
  unfold signB showB hatB
  have h1 : ¬ c.toNat < 32 := by omega
  have h2 : ¬ c.toNat = 127 := by omega
  simp [h1, h2]
theorem LnE.byte {t : Tm} {ws : List (List UInt8)} {p : List UInt8} {D : Ds} {done : List UInt8} (HE : LnE t ws p done D) (T : LnT t) {c : UInt8} (h53 : hasN t.f 53 = true) (hc : PlainC t c) (h32 : 32 ≤ c.toNat) (h126 : c.toNat ≤ 126) (hl : done.length ≤ 250) (hu : ws.flatten.length + p.length < 200) : LnE t ws (p ++ [c]) (done ++ [c]) (inputD D c).1 ∧ (inputD D c).2 = [] := by
  have H := HE.ln
  have hb := H.byte T hc hu
  refine ⟨⟨hb.1, ?_⟩, hb.2⟩
  obtain ⟨h10, h13, hc⟩ := hc
  have ht := H.t
  subst ht
  have e : innerD { D with idle := 0 } (L9.stripB D.t c) = (typedD { D with idle := 0 } c, []) := by
    rw [strip_id T.h33 T.h37]
    exact inner_plain H.nx (typed_none (hc 8 (by decide) (by decide)) (hc 9 (by decide) (by decide)) T.h39) (sig_none (hc 1 (by decide) (by decide)) (hc 2 (by decide) (by decide)) (hc 10 (by decide) (by decide))) (turn_plain h10 h13) T.h51
  unfold inputD
  rw [e]
  show Ec D.t (done ++ [c]) (markD (typedD { D with idle := 0 } c))
  have e3 : typedD { D with idle := 0 } c = takeD { D with idle := 0 } c [c] := (typedD_take (D := { D with idle := 0 }) hc h10).trans (by rw [show L9.markB ({ D with idle := 0 } : Ds).t c = [c] from mark_id T.h31 c])
  rw [e3]
  have e2 : takeD { D with idle := 0 } c [c] = echoD { D with idle := 0, fr := if D.line = [] then D.col else D.fr, line := D.line ++ [c] } (signB D c) := by
    unfold takeD
    rw [if_neg (by show ¬ hasN D.t.f 51 = false; rw [T.h51]; decide), if_pos (by show D.line.length + 1 ≤ 254; rw [H.line]; omega)]
    rfl
  rw [e2, sign_plain h32 h126]
  have eo : echoD { D with idle := 0, fr := if D.line = [] then D.col else D.fr, line := D.line ++ [c] } [c] = showD { D with idle := 0, fr := if D.line = [] then D.col else D.fr, line := D.line ++ [c] } [c] := by
    unfold echoD
    exact if_pos h53
  rw [eo]
  have hE : Ec D.t done { D with idle := 0, fr := if D.line = [] then D.col else D.fr, line := D.line ++ [c] } := HE.ec.of rfl rfl
  refine Ec.few (Ec.show_ hE rfl (by omega) c) (by rw [List.length_append, List.length_singleton]; omega) ?_ ?_
  · exact (showD_oc _ _).h.trans H.h
  · unfold usedD
    rw [(showD_oc _ _).ls, (showD_oc _ _).line, (showD_oc _ _).raw]
    show L13.usedL D.ls + (D.line ++ [c]).length + D.raw.length < 768
    rw [H.ls, used_map, H.line, H.raw, List.length_append, List.length_singleton, List.length_nil]
    omega
theorem LnE.nl {t : Tm} {ws : List (List UInt8)} {p : List UInt8} {D : Ds} {done : List UInt8} (HE : LnE t ws p done D) (T : LnT t) (h53 : hasN t.f 53 = true) (hl : done.length ≤ 250) (hu : ws.flatten.length + p.length < 200) : LnE t (ws ++ [p ++ [10]]) [] (done ++ [10]) (inputD D 10).1 ∧ (inputD D 10).2 = [] := by
  have H := HE.ln
  have hb := H.nl T hu
  refine ⟨⟨hb.1, ?_⟩, hb.2⟩
  have hc := T.nl
  have ht := H.t
  subst ht
  have e : innerD { D with idle := 0 } (L9.stripB D.t 10) = (typedD { D with idle := 0 } 10, []) := by
    rw [strip_id T.h33 T.h37]
    exact inner_plain H.nx (typed_none (hc 8 (by decide) (by decide)) (hc 9 (by decide) (by decide)) T.h39) (sig_none (hc 1 (by decide) (by decide)) (hc 2 (by decide) (by decide)) (hc 10 (by decide) (by decide))) (turn_nl T.h34) T.h51
  unfold inputD
  rw [e]
  show Ec D.t (done ++ [10]) (markD (typedD { D with idle := 0 } 10))
  rw [typedD_nl (D := { D with idle := 0 }) hc]
  have hp : L13.putL D.ls (D.line ++ [10], false) = (D.ls ++ [(D.line ++ [10], false)], true) := by
    unfold L13.putL
    rw [if_pos]
    rw [H.ls, used_map, H.line]
    have e0 : L13.usedL [(p ++ [10], false)] = p.length + 1 := by simp [L13.usedL]
    rw [e0]
    omega
  have he : endB { D with idle := 0 } [10] false = true := by show (L13.putL D.ls (D.line ++ [10], false)).2 = true; rw [hp]
  have e2 : endD { D with idle := 0 } [10] false = { D with idle := 0, ls := D.ls ++ [(D.line ++ [10], false)], line := [] } := by
    unfold endD
    rw [if_pos he]
    show ({ D with idle := 0, ls := (L13.putL D.ls (D.line ++ [10], false)).1, line := [] } : Ds) = _
    rw [hp]
  have en : newlineD { D with idle := 0 } 10 = showD { D with idle := 0, ls := D.ls ++ [(D.line ++ [10], false)], line := [] } [10] := by
    unfold newlineD
    rw [if_neg (by rw [he]; decide), if_pos rfl, if_pos (.inl h53), e2]
  rw [en]
  have hE : Ec D.t done { D with idle := 0, ls := D.ls ++ [(D.line ++ [10], false)], line := [] } := HE.ec.of rfl rfl
  refine Ec.few (Ec.show_ hE rfl (by omega) 10) (by rw [List.length_append, List.length_singleton]; omega) ?_ ?_
  · exact (showD_oc _ _).h.trans H.h
  · unfold usedD
    rw [(showD_oc _ _).ls, (showD_oc _ _).line, (showD_oc _ _).raw]
    show L13.usedL (D.ls ++ [(D.line ++ [10], false)]) + 0 + D.raw.length < 768
    have eu : D.ls ++ [(D.line ++ [10], false)] = (ws ++ [p ++ [10]]).map fun x => (x, false) := by rw [H.ls, H.line, List.map_append]; rfl
    rw [eu, used_map, H.raw]
    simp only [List.flatten_append, List.flatten_cons, List.flatten_nil, List.append_nil, List.length_append, List.length_singleton, List.length_nil]
    omega
/-- A byte of a text behind its lines. -/
def stepL (s : List (List UInt8) × List UInt8) (c : UInt8) : List (List UInt8) × List UInt8 := if c = 10 then (s.1 ++ [s.2 ++ [10]], []) else (s.1, s.2 ++ [c])
theorem spl_step (l : List UInt8) (c : UInt8) : spl (l ++ [c]) = stepL (spl l) c := spl_snoc l c
/-- A whole text, typed. -/
theorem LnE.text {t : Tm} (T : LnT t) (h53 : hasN t.f 53 = true) : ∀ (b done : List UInt8) {D : Ds}, LnE t (spl done).1 (spl done).2 done D → (∀ y ∈ b, y = 10 ∨ (PlainC t y ∧ 32 ≤ y.toNat ∧ y.toNat ≤ 126)) → done.length + b.length ≤ 200 →
    LnE t (spl (done ++ b)).1 (spl (done ++ b)).2 (done ++ b) (inAll D b) ∧ (typeM D b).2.2 = []
  | [], done, D, H, _, _ => by rw [List.append_nil]; exact ⟨H, rfl⟩
  | y :: r, done, D, H, hb, hl => by
    rw [List.length_cons] at hl
    have hlen := spl_len _ done rfl
    have hu : (spl done).1.flatten.length + (spl done).2.length < 200 := by omega
    have hstep : LnE t (spl (done ++ [y])).1 (spl (done ++ [y])).2 (done ++ [y]) (inputD D y).1 ∧ (inputD D y).2 = [] := by
      rw [spl_step]
      unfold stepL
      by_cases h10 : y = 10
      · rw [if_pos h10]
        subst h10
        exact H.nl T h53 (by omega) hu
      · rw [if_neg h10]
        obtain ⟨h1, h2, h3⟩ := (hb y (by simp)).resolve_left h10
        exact H.byte T h53 h1 h2 h3 (by omega) hu
    have ih := LnE.text T h53 r (done ++ [y]) hstep.1 (fun z hz => hb z (by simp [hz])) (by rw [List.length_append, List.length_singleton]; omega)
    rw [List.append_assoc] at ih
    refine ⟨ih.1, ?_⟩
    have h1 := H.ln.inv.used
    unfold typeM
    rw [if_neg (by omega)]
    show (inputD D y).2 ++ (typeM (inputD D y).1 r).2.2 = []
    rw [hstep.2, ih.2]
    rfl
end Go.Proofs.YtggcampdkgfmgaaGreat
