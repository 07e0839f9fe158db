import Derived.Test.YtdplngplljejhaaDoorTN
import Derived.Test.YtdplngplljejhaaDoorTP
namespace Go.Proofs.YtdplngplljejhaaDoor
open Go.RowKit

/-- What Own hands back has the bytes that it was given, or none. -/
theorem own_d (m : Mg) (A : Option Addr) (c : Nat) (w : World) :
    Calls Tryd.prog 14 #[.agg (m.cells A c)] w fun e w' => ∃ A' c', e = .returned (.agg ((ownM m).cells A' c')) ∧ Below w.heap.size w w' ∧ ((A' = A ∧ c' = c ∧ (ownM m).data = m.data) ∨ (A' = none ∧ c' = 0 ∧ (ownM m).data = [])) := by
  obtain ⟨x, hx⟩ : ∃ x, look m.kind tab = x := ⟨_, rfl⟩
  cases x with
  | none =>
    refine (own17_none m.kind (look_none hx) m.chan m.sender m.window m.packet m.code m.data.length c m.name m.lang m.want A w).mono ?_
    rintro e w' ⟨rfl, hb⟩
    have e : ownM m = { zeroM with kind := m.kind } := by rw [ownM, hx]
    rw [e]
    exact ⟨none, 0, rfl, hb, Or.inr ⟨rfl, rfl, rfl⟩⟩
  | some ps =>
    have hmem := look_mem hx
    have e0 : ownM m = mvs m ps { zeroM with kind := m.kind } := by rw [ownM, hx]
    rw [e0]
    clear e0 hx
    obtain ⟨kd, ch, se, wi, pa, co, nm, lg, wt, dt⟩ := m
    simp only at hmem
    simp only [tab, List.mem_cons, List.mem_nil_iff, or_false, Prod.mk.injEq] at hmem
    rcases hmem with ⟨rfl, rfl⟩ | ⟨rfl, rfl⟩ | ⟨rfl, rfl⟩ | ⟨rfl, rfl⟩ | ⟨rfl, rfl⟩ | ⟨rfl, rfl⟩ | ⟨rfl, rfl⟩ | ⟨rfl, rfl⟩ | ⟨rfl, rfl⟩ | ⟨rfl, rfl⟩ | ⟨rfl, rfl⟩ | ⟨rfl, rfl⟩ | ⟨rfl, rfl⟩ | ⟨rfl, rfl⟩ | ⟨rfl, rfl⟩
    · refine (own17_1 ch se wi pa co dt.length c nm lg wt A w).mono ?_
      rintro e w' ⟨rfl, hb⟩
      exact ⟨A, c, rfl, hb, Or.inl ⟨rfl, rfl, rfl⟩⟩
    · refine (own17_80 ch se wi pa co dt.length c nm lg wt A w).mono ?_
      rintro e w' ⟨rfl, hb⟩
      exact ⟨A, c, rfl, hb, Or.inl ⟨rfl, rfl, rfl⟩⟩
    · refine (own17_81 ch se wi pa co dt.length c nm lg wt A w).mono ?_
      rintro e w' ⟨rfl, hb⟩
      exact ⟨A, c, rfl, hb, Or.inl ⟨rfl, rfl, rfl⟩⟩
    · refine (own17_82 ch se wi pa co dt.length c nm lg wt A w).mono ?_
      rintro e w' ⟨rfl, hb⟩
      exact ⟨none, 0, rfl, hb, Or.inr ⟨rfl, rfl, rfl⟩⟩
    · refine (own17_90 ch se wi pa co dt.length c nm lg wt A w).mono ?_
      rintro e w' ⟨rfl, hb⟩
      exact ⟨A, c, rfl, hb, Or.inl ⟨rfl, rfl, rfl⟩⟩
    · refine (own17_91 ch se wi pa co dt.length c nm lg wt A w).mono ?_
      rintro e w' ⟨rfl, hb⟩
      exact ⟨A, c, rfl, hb, Or.inl ⟨rfl, rfl, rfl⟩⟩
    · refine (own17_92 ch se wi pa co dt.length c nm lg wt A w).mono ?_
      rintro e w' ⟨rfl, hb⟩
      exact ⟨A, c, rfl, hb, Or.inl ⟨rfl, rfl, rfl⟩⟩
    · refine (own17_93 ch se wi pa co dt.length c nm lg wt A w).mono ?_
      rintro e w' ⟨rfl, hb⟩
      exact ⟨none, 0, rfl, hb, Or.inr ⟨rfl, rfl, rfl⟩⟩
    · refine (own17_94 ch se wi pa co dt.length c nm lg wt A w).mono ?_
      rintro e w' ⟨rfl, hb⟩
      exact ⟨A, c, rfl, hb, Or.inl ⟨rfl, rfl, rfl⟩⟩
    · refine (own17_95 ch se wi pa co dt.length c nm lg wt A w).mono ?_
      rintro e w' ⟨rfl, hb⟩
      exact ⟨A, c, rfl, hb, Or.inl ⟨rfl, rfl, rfl⟩⟩
    · refine (own17_96 ch se wi pa co dt.length c nm lg wt A w).mono ?_
      rintro e w' ⟨rfl, hb⟩
      exact ⟨none, 0, rfl, hb, Or.inr ⟨rfl, rfl, rfl⟩⟩
    · refine (own17_97 ch se wi pa co dt.length c nm lg wt A w).mono ?_
      rintro e w' ⟨rfl, hb⟩
      exact ⟨none, 0, rfl, hb, Or.inr ⟨rfl, rfl, rfl⟩⟩
    · refine (own17_98 ch se wi pa co dt.length c nm lg wt A w).mono ?_
      rintro e w' ⟨rfl, hb⟩
      exact ⟨A, c, rfl, hb, Or.inl ⟨rfl, rfl, rfl⟩⟩
    · refine (own17_99 ch se wi pa co dt.length c nm lg wt A w).mono ?_
      rintro e w' ⟨rfl, hb⟩
      exact ⟨none, 0, rfl, hb, Or.inr ⟨rfl, rfl, rfl⟩⟩
    · refine (own17_100 ch se wi pa co dt.length c nm lg wt A w).mono ?_
      rintro e w' ⟨rfl, hb⟩
      exact ⟨none, 0, rfl, hb, Or.inr ⟨rfl, rfl, rfl⟩⟩

theorem great_x (w : World) (m : Mg) (A : Option Addr) (c : Nat) (hm : Hid m.Ok) (hl : m.data.length ≤ maxLen) {b : Bool} (hb : Hid (greatB m = b)) : Calls Tryd.prog 11 #[.agg (m.cells A c)] w fun e w' => e = .returned (.bool b) ∧ Hid (Below w.heap.size w w') := by
  rw [← hb.out]
  exact great_m m A c w hl hm.out.name hm.out.lang
theorem encode_x (w : World) (m : Mg) (A : Option Addr) (c k : Nat) (er : Int) (bs : List UInt8) (hX : Hid (encF m = (er, bs))) (hm : Hid m.Ok) (hd : Hid (SlB w w.heap.size A c m.data)) (hn : bs.length = k) :
    Calls Tryd.prog 12 #[.agg (m.cells A c)] w fun e w' => ∃ A1 c1, e = .returned (.tuple #[.slice A1 k c1, .int .i64 er]) ∧ Hid (w'.ownsRow w.heap.size 5 1 (.slice A1 k c1) k (bv bs)) ∧ Hid (Below w.heap.size w w') := by
  subst hn
  refine (encode_any w m A c hm.out (TK.of_low hd.out.1 hd.out.2.1 hd.out.2.2.2 (Nat.le_refl _))).mono ?_
  rw [hX.out]
  rintro e w' ⟨A1, c1, rfl, ho, hb⟩
  exact ⟨A1, c1, rfl, ho, hb⟩
theorem put_x (w : World) (A : Option Addr) (c n k : Nat) (p : List UInt8) (hp : 1 ≤ p.length ∧ p.length ≤ 33792) (hn : p.length = n) (hk : (four p.length ++ p).length = k) (hb : Hid (SlB w w.heap.size A c p)) :
    Calls Tryd.prog 13 #[.slice A n c] w fun e w' => ∃ A1 c1, e = .returned (.tuple #[.slice A1 k c1, .int .i64 0]) ∧ Hid (w'.ownsRow w.heap.size 5 1 (.slice A1 k c1) k (bv (four p.length ++ p))) ∧ Hid (Below w.heap.size w w') := by
  subst hn; subst hk
  refine (fput_any w _ A c p hb.out (Nat.le_refl _) (by unfold maxLen; omega)).mono ?_
  rw [putF_ok hp]
  rintro e w' ⟨A1, c1, rfl, ho, hb⟩
  exact ⟨A1, c1, rfl, ho, hb⟩
/-- The cells of a list of messages whose bytes lie in what came in. -/
def WC (w : World) (ms : List Mg) (vs : List Value) : Prop := vs.length = ms.length * 10 ∧ ∀ k (h : k < ms.length), ∃ A c, (∀ (j : Nat) (v : Value), (ms[k].cells A c).toList[j]? = some v → vs[k * 10 + j]? = some v) ∧ SlB w w.heap.size A c ms[k].data
theorem WC.nil_ (w : World) : WC w [] [] := ⟨rfl, fun k h => by simp at h⟩
theorem WC.snoc {w : World} {ms : List Mg} {vs : List Value} {m : Mg} {A : Option Addr} {c : Nat} (h : WC w ms vs) (hs : SlB w w.heap.size A c m.data) : WC w (ms ++ [m]) (vs ++ (m.cells A c).toList) := by
  refine ⟨by rw [List.length_append, mcells_len, h.1, List.length_append]; simp; omega, fun k hk => ?_⟩
  by_cases hlt : k < ms.length
  · obtain ⟨A', c', h1, h2⟩ := h.2 k hlt
    rw [List.getElem_append_left hlt]
    refine ⟨A', c', fun j v hj => ?_, h2⟩
    have hj10 : j < 10 := (List.getElem?_eq_some_iff.1 hj).1
    rw [List.getElem?_append_left (by rw [h.1]; omega)]
    exact h1 j v hj
  · have hk' : k = ms.length := by simp at hk; omega
    subst hk'
    rw [List.getElem_append_right (Nat.le_refl _)]
    refine ⟨A, c, fun j v hj => ?_, by simpa using hs⟩
    rw [List.getElem?_append_right (by rw [h.1]; omega), h.1]
    simpa using hj
/-- The messages' cells as a list in memory. -/
theorem WC.view {w wr : World} {B k wc : Nat} {WA : Option Addr} {ms : List Mg} {vs : List Value} (h : WC w ms vs) (ho : wr.ownsRow B 40 10 (.slice WA k wc) k vs) (hb : Below w.heap.size w wr) : MsgsV wr wr.heap.size WA ms := fun hne => by
  have hvn : vs ≠ [] := by
    intro e
    have := h.1
    rw [e] at this
    have : 0 < ms.length := List.length_pos_iff.2 hne
    simp at *
    omega
  obtain ⟨b, o, e, hlt, hc⟩ := Lies.own ho hvn
  refine ⟨b, o, e, hlt, fun k hk => ?_⟩
  obtain ⟨A, c, h1, h2⟩ := h.2 k hk
  exact ⟨A, c, fun j v hj => by rw [Nat.add_assoc]; exact hc _ _ (h1 j v hj), (h2.below hb).more hb.size⟩
/-- Payloads and what they say. -/
def Good (P : List (List UInt8)) (W : List Mg) : Prop := P.length = W.length ∧ (∀ p ∈ P, 1 ≤ p.length ∧ p.length ≤ 33792) ∧ ∀ i (h1 : i < P.length) (h2 : i < W.length), decF P[i] = (0, W[i])
theorem Good.nil_ : Good [] [] := ⟨rfl, fun p h => (by cases h), fun i h => (by simp at h)⟩
theorem Good.snoc {P : List (List UInt8)} {W : List Mg} {p : List UInt8} {m : Mg} (h : Good P W) (hp : 1 ≤ p.length ∧ p.length ≤ 33792) (hd : decF p = (0, m)) : Good (P ++ [p]) (W ++ [m]) := by
  obtain ⟨h1, h2, h3⟩ := h
  refine ⟨by simp [h1], fun q hq => ?_, fun i hi1 hi2 => ?_⟩
  · rcases List.mem_append.1 hq with hq | hq
    · exact h2 q hq
    · rw [List.mem_singleton.1 hq]; exact hp
  · by_cases hlt : i < P.length
    · rw [List.getElem_append_left hlt, List.getElem_append_left (by omega)]
      exact h3 i hlt (by omega)
    · have : i = P.length := by simp at hi1; omega
      subst this
      rw [List.getElem_append_right (Nat.le_refl _), List.getElem_append_right (by omega)]
      simp [h1, hd]
theorem streamF_snoc (P : List (List UInt8)) (p : List UInt8) : streamF (P ++ [p]) = streamF P ++ (four p.length ++ p) := by
  simp [streamF]
/-- What the first loop has made. -/
structure L1 (w wr : World) (SA : Option Addr) (sn sc : Nat) (WA : Option Addr) (wk wc : Nat) (P : List (List UInt8)) (W : List Mg) (vs : List Value) : Prop where
  good : Good P W
  slen : (streamF P).length = sn
  sown : wr.ownsRow w.heap.size 5 1 (.slice SA sn sc) sn (bv (streamF P))
  wlen : W.length = wk
  wown : wr.ownsRow w.heap.size 40 10 (.slice WA wk wc) wk vs
  wc : WC w W vs
  bel : Below w.heap.size w wr
theorem L1.keep {w wr wr' : World} {SA : Option Addr} {sn sc : Nat} {WA : Option Addr} {wk wc : Nat} {P : List (List UInt8)} {W : List Mg} {vs : List Value} (h : L1 w wr SA sn sc WA wk wc P W vs) (k : Below wr.heap.size wr wr') : L1 w wr' SA sn sc WA wk wc P W vs :=
  ⟨h.good, h.slen, own_keep h.sown k, h.wlen, own_keep h.wown k, h.wc, h.bel.trans (k.mono h.bel.size)⟩
end Go.Proofs.YtdplngplljejhaaDoor
