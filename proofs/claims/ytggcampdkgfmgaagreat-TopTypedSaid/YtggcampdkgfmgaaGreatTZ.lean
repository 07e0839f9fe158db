import Derived.Test.YtggcampdkgfmgaaGreatTY
namespace Go.Proofs.YtggcampdkgfmgaaGreat
open Go.RowKit

/-! TopKilled. -/
theorem LnAt.nl2 {t : Tm} {ws : List (List UInt8)} {p : List UInt8} {D : Ds} (H : LnAt t ws p D) (T : LnT t) (hu : ws.flatten.length + p.length < 250) : LnAt t (ws ++ [p ++ [10]]) [] (inputD D 10).1 ∧ (inputD D 10).2 = [] := by
  have hc := T.nl
  have ht := H.t
  subst ht
  have e : innerD { D with idle := 0 } (L9.stripB D.t 10) = (typedD { D with idle := 0 } 10, []) := by
    rw [strip_id T.h33 T.h37]
    exact inner_plain H.nx (typed_none (hc 8 (by decide) (by decide)) (hc 9 (by decide) (by decide)) T.h39) (sig_none (hc 1 (by decide) (by decide)) (hc 2 (by decide) (by decide)) (hc 10 (by decide) (by decide))) (turn_nl T.h34) T.h51
  unfold inputD
  rw [e]
  refine ⟨?_, rfl⟩
  show LnAt D.t (ws ++ [p ++ [10]]) [] (markD (typedD { D with idle := 0 } 10))
  rw [typedD_nl (D := { D with idle := 0 }) hc]
  have hp : L13.putL D.ls (D.line ++ [10], false) = (D.ls ++ [(D.line ++ [10], false)], true) := by
    unfold L13.putL
    rw [if_pos]
    rw [H.ls, used_map, H.line]
    have e0 : L13.usedL [(p ++ [10], false)] = p.length + 1 := by simp [L13.usedL]
    rw [e0]
    omega
  have he : endB { D with idle := 0 } [10] false = true := by show (L13.putL D.ls (D.line ++ [10], false)).2 = true; rw [hp]
  have e2 : endD { D with idle := 0 } [10] false = { D with idle := 0, ls := D.ls ++ [(D.line ++ [10], false)], line := [] } := by
    unfold endD
    rw [if_pos he]
    show ({ D with idle := 0, ls := (L13.putL D.ls (D.line ++ [10], false)).1, line := [] } : Ds) = _
    rw [hp]
  have k := newlineD_oc he
  rw [e2] at k
  have iv := (H.inv.idle_ (Int.le_refl 0) (by omega)).newline T.h51 10
  refine LnAt.mark (ws := ws ++ [p ++ [10]]) (p := []) ⟨iv, k.t, ?_, k.line, k.nx.trans H.nx, k.raw.trans H.raw, k.s.trans H.s, k.h.trans H.h⟩ (by simp only [List.length_append, List.length_cons, List.length_nil, List.flatten_append, List.flatten_cons, List.flatten_nil, List.append_nil]; omega)
  rw [k.ls]
  show D.ls ++ [(D.line ++ [10], false)] = _
  rw [H.ls, H.line, List.map_append]
  rfl
theorem LnAt.kill {t : Tm} {ws : List (List UInt8)} {p : List UInt8} {D : Ds} (H : LnAt t ws p D) (T : LnT t) {c : UInt8} (h10 : c ≠ 10) (h13 : c ≠ 13) (h4 : L15.isC t 4 c = true) (hc : ∀ op : Int, 1 ≤ op → op ≤ 18 → op ≠ 4 → L15.isC t op c = false) (hu : ws.flatten.length + p.length < 250) : LnAt t ws [] (inputD D c).1 ∧ (inputD D c).2 = [] := by
  have ht := H.t
  subst ht
  have e : innerD { D with idle := 0 } (L9.stripB D.t c) = (typedD { D with idle := 0 } c, []) := by
    rw [strip_id T.h33 T.h37]
    exact inner_plain H.nx (typed_none (hc 8 (by decide) (by decide) (by decide)) (hc 9 (by decide) (by decide) (by decide)) T.h39) (sig_none (hc 1 (by decide) (by decide) (by decide)) (hc 2 (by decide) (by decide) (by decide)) (hc 10 (by decide) (by decide) (by decide))) (turn_plain h10 h13) T.h51
  unfold inputD
  rw [e]
  refine ⟨?_, rfl⟩
  show LnAt D.t ws [] (markD (typedD { D with idle := 0 } c))
  have e3 : typedD { D with idle := 0 } c = killD { D with idle := 0 } c := by
    have h14 : Ds.is { D with idle := 0 } 14 c = false := hc 14 (by decide) (by decide) (by decide)
    have h3 : Ds.is { D with idle := 0 } 3 c = false := hc 3 (by decide) (by decide) (by decide)
    have h13' : Ds.is { D with idle := 0 } 13 c = false := hc 13 (by decide) (by decide) (by decide)
    have h4' : Ds.is { D with idle := 0 } 4 c = true := h4
    unfold typedD
    simp only [h14, h3, h13', h4', Bool.and_false, if_true]
    rw [if_neg (by decide), if_neg (by decide), if_neg (by decide)]
  rw [e3]
  have e2 : ∃ X, killD { D with idle := 0 } c = echoD { D with idle := 0, line := [] } X := by
    unfold killD
    split
    · exact ⟨_, rfl⟩
    · exact ⟨_, rfl⟩
  obtain ⟨X, e2⟩ := e2
  have iv := (H.inv.idle_ (Int.le_refl 0) (by omega)).kill c
  rw [e2] at iv ⊢
  refine LnAt.mark (ws := ws) (p := []) ⟨iv, ?_, ?_, ?_, ?_, ?_, ?_, ?_⟩ (by simp only [List.length_nil]; omega)
  · exact (echoD_oc _ _).t
  · exact (echoD_oc _ _).ls.trans H.ls
  · exact (echoD_oc _ _).line
  · exact (echoD_oc _ _).nx.trans H.nx
  · exact (echoD_oc _ _).raw.trans H.raw
  · exact (echoD_oc _ _).s.trans H.s
  · exact (echoD_oc _ _).h.trans H.h
theorem LnAt.text {t : Tm} (T : LnT t) : ∀ (b : List UInt8) {p : List UInt8} {D : Ds}, LnAt t [] p D → (∀ y ∈ b, PlainC t y) → p.length + b.length ≤ 200 → LnAt t [] (p ++ b) (inAll D b)
  | [], p, D, H, _, _ => by rw [List.append_nil]; exact H
  | y :: r, p, D, H, hb, hl => by
    rw [List.length_cons] at hl
    have h1 := (H.byte T (hb y (by simp)) (by simp only [List.flatten_nil, List.length_nil]; omega)).1
    have h2 := LnAt.text T r h1 (fun z hz => hb z (by simp [hz])) (by rw [List.length_append, List.length_cons, List.length_nil]; omega)
    rw [List.append_assoc] at h2
    exact h2
/-- Typed, killed, typed, ended: what is read. -/
theorem killed_read {t : Tm} (ht : t.Ok) (T : LnT t) {bs ms : List UInt8} {c : UInt8} (hb : ∀ y ∈ bs, PlainC t y) (hm : ∀ y ∈ ms, PlainC t y) (l1 : bs.length ≤ 200) (l2 : ms.length ≤ 200) (h10 : c ≠ 10) (h13 : c ≠ 13) (h4 : L15.isC t 4 c = true) (hc : ∀ op : Int, 1 ≤ op → op ≤ 18 → op ≠ 4 → L15.isC t op c = false) :
    (readD (inAll (inAll (inAll (inAll (newD t) bs) [c]) ms) [10]) 999 0).2 = (ms ++ [10], true) := by
  have H1 := LnAt.text T bs (LnAt.new ht) hb (by simpa using l1)
  rw [List.nil_append] at H1
  have H2 : LnAt t [] [] (inAll (inAll (newD t) bs) [c]) := (H1.kill T h10 h13 h4 hc (by simp only [List.flatten_nil, List.length_nil]; omega)).1
  have H3 := LnAt.text T ms H2 hm (by simpa using l2)
  rw [List.nil_append] at H3
  have H4 : LnAt t [ms ++ [10]] [] (inAll (inAll (inAll (inAll (newD t) bs) [c]) ms) [10]) := (H3.nl2 T (by simp only [List.flatten_nil, List.length_nil]; omega)).1
  have h := (H4.some T.h51 (by simp; omega) (k := 999) (by decide)).1
  rw [show ((999 : Nat) : Int) = 999 from rfl] at h
  rw [h]
  congr 1
  exact List.take_of_length_le (by simp; omega)
theorem mw_al {w0 w : World} {g p : Nat} {S : Nat → Prop} {t : Tm} {D : Ds} (H : Hid (AlP w0 w g p S { newPt t ⟨0, 0, 0, 0⟩ with sl := 1, d := D })) (hI : Hid (Inv D)) (A : Option Addr) (n c : Nat) (b : List UInt8) (hb : Hid (SlB w w.heap.size A c b)) (hn : Hid (b.length = n)) (hm : n ≤ 20000) (hA : Hid (b ≠ [] → ∀ a, A = some a → ¬ S a.block)) {D' : Ds} (hD : Hid (inAll D b = D')) :
    Calls Tryz.prog 41 #[.pointer (some ⟨g, 0, none⟩), .slice A n c] w fun e w' => ∃ k A' n' c' S', e = .returned (.tuple #[.int .i64 k, .slice A' n' c']) ∧ Hid (AlP w0 w' g p S' { newPt t ⟨0, 0, 0, 0⟩ with sl := 1, d := D' }) ∧ Hid (Inv D') := by
  have hr : Hid (mwP { newPt t ⟨0, 0, 0, 0⟩ with sl := 1, d := D } b = ({ newPt t ⟨0, 0, 0, 0⟩ with sl := 1, d := D' }, (typeM D b).2.1, evs 0 (typeM D b).2.2)) := hid (by
    unfold mwP newPt
    rw [if_neg (by show ¬ false = true; decide)]
    show (_, _, _) = _
    rw [(typeM_inv b hI.out).1, hD.out])
  refine (mwrite_any Inv (hid (fun D h => h.fit)) (hid (fun D x h => h.input x)) (AlP.py H) hI A n c b hb hn hm hA hr).mono ?_
  rintro e w' ⟨A', n', c', S', rfl, _, _, h1, _⟩
  exact ⟨_, A', n', c', S', rfl, hid (H.out.next h1), hid (hD.out ▸ hI.out.inAll b)⟩
theorem rd_al {w0 w : World} {g p : Nat} {S : Nat → Prop} {t : Tm} {D : Ds} (H : Hid (AlP w0 w g p S { newPt t ⟨0, 0, 0, 0⟩ with sl := 1, d := D })) (hI : Hid (Inv D)) {b : List UInt8} (hr : Hid ((readD D 999 0).2 = (b, true))) :
    Calls Tryz.prog 43 #[.pointer (some ⟨g, 0, none⟩), .int .i64 999, .int .i64 0] w fun e w' => ∃ A n c, e = .returned (.tuple #[.slice A n c, .int .i64 0]) ∧ Hid (b.length = n) ∧ Hid (SlB w' w'.heap.size A c b) ∧ Hid (Below w0.heap.size w0 w') := by
  have hrp : Hid (rdP { newPt t ⟨0, 0, 0, 0⟩ with sl := 1, d := D } 999 0 = ({ newPt t ⟨0, 0, 0, 0⟩ with sl := 1, d := (readD D 999 0).1 }, b, 0)) := hid (by
    unfold rdP rnP newPt
    rw [if_neg (by show ¬ false = true; decide)]
    show (_, _, _) = _
    rw [hr.out]
    rfl)
  refine (sread_any (AlP.py H) (hid hI.out.fit) 999 0 (by unfold i64ok; omega) (by unfold i64ok; omega) hrp).mono ?_
  rintro e w' ⟨A, n, c, S', rfl, hn, hs, h1, _⟩
  exact ⟨A, n, c, rfl, hn, hs, hid (H.out.next h1).bel⟩
end Go.Proofs.YtggcampdkgfmgaaGreat
