import Derived.Test.YtoedhblihodgdaaDoorWS
import Derived.Test.YtoedhblihodgdaaDoorWR
namespace Go.Proofs.YtoedhblihodgdaaDoor
open Go.RowKit

theorem read_n (W : World) (kA : Option Addr) (kc kn : Nat) (ks : List Int) (A : Option Addr) (c n : Nat) (bs : List UInt8) (m er : Int) (fs : List Fd) (fn : Nat) (hX : Hid (readF ks bs = (er, fs))) (hfn : fs.length = fn) (hkn : ks.length = kn) (hn : bs.length = n)
    (hk : Hid (Lies W W.heap.size kA (ks.map (Value.int .i64)))) (hkl : kn ≤ 1000) (hb : Hid (SlB W W.heap.size A c bs)) (hm : Hid (W.cell? ⟨0, 0, none⟩ = some (.int .i64 m))) :
    Calls Tryd.prog 17 #[.slice kA kn kc, .slice A n c] W fun e w2 => ∃ A1 c1, e = .returned (.tuple #[.slice A1 fn c1, .int .i64 er]) ∧ Hid (∃ cs, w2.ownsRow W.heap.size 37 4 (.slice A1 fs.length c1) fs.length cs ∧ FlatF w2 W.heap.size fs cs) ∧ Hid (Below W.heap.size W w2) := by
  subst hfn; subst hkn; subst hn
  refine (read_any W kA kc ks A c bs m hk.out hkl hb.out hm.out).mono ?_
  rw [hX.out]
  rintro e w2 ⟨A1, c1, cs, rfl, ho, hf, hb⟩
  exact ⟨A1, c1, rfl, ⟨cs, ho, hf⟩, hb⟩

theorem lies_at {w w2 : World} {A : Option Addr} {cs : List Value} (h : Hid (Lies w w.heap.size A cs)) (hb : Hid (Below w.heap.size w w2)) : Hid (Lies w2 w2.heap.size A cs) := lies_bel h hb
theorem slb_at {w w2 : World} {A : Option Addr} {c : Nat} {bs : List UInt8} (h : Hid (SlB w w.heap.size A c bs)) (hb : Hid (Below w.heap.size w w2)) : Hid (SlB w2 w2.heap.size A c bs) :=
  ⟨h.out.1, h.out.2.1, h.out.2.2.1, (lies_bel (A := A) h.out.2.2.2 hb).out⟩

theorem write_c (W : World) (A : Option Addr) (c n : Nat) (l : List Fd) (er : Int) (bs : List UInt8) (hX : Hid (writeF l = (er, bs))) (hn : l.length = n) (hF : Hid (FdsV W W.heap.size A l)) (hc : n ≤ c) (hc2 : c ≤ maxLen) :
    Calls Tryd.prog 11 #[.slice A n c] W fun e w2 => ∃ A1 c1, e = .returned (.tuple #[.slice A1 bs.length c1, .int .i64 er]) ∧ Hid (Lies w2 w2.heap.size A1 (bv bs)) ∧ Hid (Below W.heap.size W w2) ∧ Hid (bs.length ≤ c1 ∧ c1 ≤ maxLen) := by
  subst hn
  refine (write_any W A c l hF.out hc hc2).mono ?_
  rw [hX.out]
  rintro e w2 ⟨A1, c1, rfl, ho, hb⟩
  exact ⟨A1, c1, rfl, Lies.own ho, hb, own_caps ho⟩

/-- Of the round over field k: what it has been read of, and what it is written as. -/
structure Round (bs cs : List UInt8) (f : Fd) (kd : Int) (a n a2 : Nat) : Prop where
  ok : writeF [f] = (0, enc f)
  len : (enc f).length = n
  fits : a + n ≤ bs.length
  next : a2 = a + n
  same : kd ≠ 2 → ∃ r r2, bs.drop a = enc f ++ r ∧ cs.drop a = enc f ++ r2
  bool : kd = 2 → n = 1 ∧ ∃ x y : UInt8, bs[a]? = some x ∧ cs[a]? = some y ∧ y = (if x = 0 then 0 else 1)

theorem round_at {ks : List Int} {bs : List UInt8} {fs : List Fd} (hrd : RdL ks fs bs) (hok : okW fs) (hfl : ∀ f ∈ fs, fault f = 0) (hbs : bs.length ≤ 33792) (k : Nat) (hk : k < fs.length) (hk2 : k < ks.length) :
    fs[k].kind = ks[k] ∧ Round bs (encs fs) fs[k] ks[k] (encs (fs.take k)).length (enc fs[k]).length (encs (fs.take (k + 1))).length := by
  obtain ⟨hlen, hbl, _, _⟩ := rdl_len ks fs bs hrd
  have hkk := (kindsB_iff fs).1 hok.1 k hk
  simp only [kindB, Bool.and_eq_true, decide_eq_true_eq] at hkk
  obtain ⟨hkk, _⟩ := hkk
  obtain ⟨g, ch, rr, eg, hto, hdr⟩ := rdl_at ks fs bs hrd k hk hk2
  have hkind : fs[k].kind = ks[k] := by rw [eg]
  have henc := encs_at fs k hk
  have hta : encs (fs.take (k + 1)) = encs (fs.take k) ++ enc fs[k] := by rw [take_snoc _ _ hk, encs_append]; simp [encs]
  have hn1 : (enc fs[k]).length = ch.length := by rw [eg]; exact hto.len
  have h3 : (encs fs).length = (encs (fs.take k)).length + (encs (fs.drop k)).length := by rw [← List.length_append, ← encs_append, List.take_append_drop]
  have e := congrArg List.length hdr
  simp only [List.length_drop, List.length_append] at e
  have e2 := congrArg List.length henc
  simp only [List.length_drop, List.length_append] at e2
  have hfit : (encs (fs.take k)).length + (enc fs[k]).length ≤ bs.length := by
    by_cases h0 : (encs (fs.take k)).length ≤ bs.length
    · omega
    · omega
  refine ⟨hkind, ?_, rfl, hfit, ?_, ?_, ?_⟩
  · exact size_ok hkk (hfl _ (List.getElem_mem hk)) (by omega)
  · rw [hta, List.length_append]
  · intro h2
    refine ⟨rr, encs (fs.drop (k + 1)), ?_, henc⟩
    rw [hdr, eg, hto.same h2]
  · intro h2
    obtain ⟨x, h1, h4⟩ := hto.bool h2
    have he : enc fs[k] = [if x = 0 then 0 else 1] := by
      rw [eg, h2]
      simp only [enc, h4]
      by_cases h0 : x = 0 <;> simp [h0]
    refine ⟨by rw [he]; rfl, x, if x = 0 then 0 else 1, ?_, ?_, rfl⟩
    · rw [← List.head?_drop, hdr, h1]; rfl
    · rw [← List.head?_drop, henc, he]; rfl

theorem size_box (w : World) (cs : Array Value) (v : Value) (f : Fd) (n : Nat) (hv : Hid (FdV w w.heap.size v f)) (hX : Hid (writeF [f] = (0, enc f))) (hn : (enc f).length = n) :
    Calls Tryd.prog 15 #[v] (w.alloc (.cells cs 37)) fun e w' => e = .returned (.int .i64 n) ∧ Hid (Below w.heap.size w w') ∧ ∀ i u, cs[i]? = some u → w'.cell? ⟨w.heap.size, i, none⟩ = some u := by
  subst hn
  refine (size_any (w.alloc (.cells cs 37)) w.heap.size v f ?_ (by simp) 0 (enc f) hX).mono ?_
  · exact hv.out.keep ((Below.refl _ _).alloc (Nat.le_refl _) _)
  · rintro e w2 ⟨rfl, hb⟩
    refine ⟨rfl, ((Below.refl _ _).alloc (Nat.le_refl _) _).trans (hb.out.mono (by simp)), fun i u hu => ?_⟩
    rw [hb.out.cell (p := ⟨w.heap.size, i, none⟩) (by simp), lit_cell w cs 37 (0, 0) w.heap.size i rfl, hu]

/-- Two slices of the same bytes, wherever they lie. -/
theorem same_cut (w : World) (b o b2 o2 c c2 n a : Nat) (xs ys e r r2 : List UInt8) (hn : e.length = n) (hl : n ≤ maxLen) (hx : xs.drop a = e ++ r) (hy : ys.drop a = e ++ r2) (h1 : Hid (Lies w w.heap.size (some ⟨b, o, none⟩) (bv xs))) (h2 : Hid (Lies w w.heap.size (some ⟨b2, o2, none⟩) (bv ys))) :
    Calls Tryd.prog 13 #[.slice (some ⟨b, o + a, none⟩) n c, .slice (some ⟨b2, o2 + a, none⟩) n c2] w fun e w' => e = .returned (.bool true) ∧ Quiet w w' := by
  subst hn
  have key : ∀ (B O : Nat) (zs r : List UInt8), zs.drop a = e ++ r → Lies w w.heap.size (some ⟨B, O, none⟩) (bv zs) → Lies w w.heap.size (some ⟨B, O + a, none⟩) (bv e) := by
    intro B O zs r hz h hne
    have hzn : bv zs ≠ [] := by
      intro h0
      have h0' : zs = [] := by simpa [bv] using h0
      rw [h0'] at hz
      simp at hz
      exact hne (by rw [hz.1]; rfl)
    obtain ⟨b', o', e', hb', hc⟩ := h hzn
    injection e' with e'
    injection e' with e1 e2
    subst e1; subst e2
    refine ⟨B, O + a, rfl, hb', fun j u hu => ?_⟩
    rw [Nat.add_assoc]
    refine hc (a + j) u ?_
    have hd : (bv zs).drop a = bv e ++ bv r := by simp only [bv, ← List.map_drop, hz, List.map_append]
    rw [← List.getElem?_drop, hd, List.getElem?_append_left]
    · exact hu
    · exact (List.getElem?_eq_some_iff.1 hu).1
  have := bytes_any w _ _ _ _ c c2 e e (key b o xs r hx h1.out) (key b2 o2 ys r2 hy h2.out) hl hl
  simpa using this
end Go.Proofs.YtoedhblihodgdaaDoor
