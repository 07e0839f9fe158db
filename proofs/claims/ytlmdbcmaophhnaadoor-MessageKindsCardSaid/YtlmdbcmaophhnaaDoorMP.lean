import Derived.Test.YtlmdbcmaophhnaaDoorMK
namespace Go.Proofs.YtlmdbcmaophhnaaDoor
open Go.RowKit

/- Errors: none of what writes or reads fields is the error of an unknown kind. -/
theorem namesE_ne (l : List ByteArray) : namesE l ≠ 8 := by
  unfold namesE
  split
  · decide
  · split <;> decide
theorem fault_ne (f : Fd) : fault f ≠ 8 := by
  unfold fault
  repeat' split
  all_goals first | decide | exact namesE_ne _
theorem wrF_ne : ∀ (l : List Fd) (acc : List UInt8), (wrF acc l).1 ≠ 8
  | [], acc => by rw [wrF]; simp
  | f :: r, acc => by
    rw [wrF]
    split
    · split
      · decide
      · exact wrF_ne r _
    · exact fault_ne f
theorem writeF_ne (l : List Fd) : (writeF l).1 ≠ 8 := by
  unfold writeF
  split
  · exact wrF_ne l []
  · decide
theorem textF_ne (l : List UInt8) : (textF l).1 ≠ 8 := by
  unfold textF
  repeat' split
  all_goals simp
theorem getF_ne (k : Int) (l : List UInt8) : (getF k l).1 ≠ 8 := by
  unfold getF
  split
  · cases l <;> simp [byteF]
  · split
    · cases l <;> simp [boolF]
    · split
      · unfold u32F; split <;> simp
      · split
        · exact textF_ne l
        · split
          · unfold namesF
            split
            · split
              · simp
              · split
                · simp
                · split <;> simp
            · exact textF_ne l
          · unfold restF; split <;> simp
theorem rdF_ne : ∀ (ks : List Int) (acc : List Fd) (l : List UInt8), (rdF acc ks l).1 ≠ 8
  | [], acc, l => by rw [rdF]; split <;> simp
  | k :: r, acc, l => by
    rw [rdF]
    split
    · exact rdF_ne r _ _
    · exact getF_ne k l
theorem readF_ne (ks : List Int) (l : List UInt8) : (readF ks l).1 ≠ 8 := by
  unfold readF
  split
  · exact rdF_ne ks [] l
  · decide
theorem putsF_ne : ∀ (ps : List Pl) (fs : List Fd) (x : Mg), (putsF ps fs x).1 ≠ 8
  | [], _, x => by rw [putsF]; simp
  | _ :: _, [], x => by rw [putsF]; simp
  | p :: ps, f :: fs, x => by
    rw [putsF]
    split
    · exact putsF_ne ps fs _
    · decide

/-- The fifteen kinds. -/
def knownZ (z : Int) : Bool := decide (z = 1) || (decide (80 ≤ z) && decide (z ≤ 82)) || (decide (90 ≤ z) && decide (z ≤ 100))
theorem known_cases {z : Int} (h : knownZ z = true) : z = 1 ∨ z = 80 ∨ z = 81 ∨ z = 82 ∨ z = 90 ∨ z = 91 ∨ z = 92 ∨ z = 93 ∨ z = 94 ∨ z = 95 ∨ z = 96 ∨ z = 97 ∨ z = 98 ∨ z = 99 ∨ z = 100 := by
  simp only [knownZ, Bool.or_eq_true, Bool.and_eq_true, decide_eq_true_eq] at h
  omega
theorem look_known (z : Int) : (look z tab).isSome = knownZ z := by
  cases h : knownZ z with
  | true => rcases known_cases h with rfl | rfl | rfl | rfl | rfl | rfl | rfl | rfl | rfl | rfl | rfl | rfl | rfl | rfl | rfl <;> rfl
  | false =>
    have hn : look z tab = none := by
      cases hl : look z tab with
      | none => rfl
      | some ps =>
        exfalso
        have hm := look_mem hl
        simp only [tab, List.mem_cons, List.mem_nil_iff, or_false, Prod.mk.injEq] at hm
        rcases hm with ⟨rfl, _⟩ | ⟨rfl, _⟩ | ⟨rfl, _⟩ | ⟨rfl, _⟩ | ⟨rfl, _⟩ | ⟨rfl, _⟩ | ⟨rfl, _⟩ | ⟨rfl, _⟩ | ⟨rfl, _⟩ | ⟨rfl, _⟩ | ⟨rfl, _⟩ | ⟨rfl, _⟩ | ⟨rfl, _⟩ | ⟨rfl, _⟩ | ⟨rfl, _⟩ <;> exact absurd h (by decide)
    rw [hn]; rfl
theorem look_unknown {z : Int} (h : knownZ z = false) : look z tab = none := by
  have e := look_known z
  rw [h] at e
  cases hl : look z tab with
  | none => rfl
  | some ps => rw [hl] at e; cases e
theorem decF_unknown {z : UInt8} (r : List UInt8) (h : knownZ z.toNat = false) : decF (z :: r) = (8, zeroM) := by
  rw [decF, look_unknown h]
theorem decF_known {z : UInt8} (r : List UInt8) (h : knownZ z.toNat = true) : (decF (z :: r)).1 ≠ 8 := by
  have e := look_known z.toNat
  rw [h] at e
  rw [decF]
  cases hl : look z.toNat tab with
  | none => rw [hl] at e; cases e
  | some ps =>
    simp only
    split
    · exact putsF_ne _ _ _
    · exact readF_ne _ _
theorem encF_unknown {m : Mg} (h : knownZ m.kind = false) : encF m = (8, []) := by
  rw [encF, look_unknown h]
theorem encF_known {m : Mg} (h : knownZ m.kind = true) : (encF m).1 ≠ 8 := by
  have e := look_known m.kind
  rw [h] at e
  rw [encF]
  cases hl : look m.kind tab with
  | none => rw [hl] at e; cases e
  | some ps =>
    simp only
    split
    · exact writeF_ne _
    · decide

/- Payloads cut short. -/
theorem getF_cut (f : Fd) (hk : f.kind = 3 ∨ f.kind = 4) (hf : fault f = 0) (j : Nat) (hj : j < (enc f).length) : (getF f.kind ((enc f).take j)).1 = 3 := by
  rcases hk with h | h
  · have e : enc f = four f.n := by simp [enc, h]
    rw [e] at hj ⊢
    rw [four_len] at hj
    have eg : getF f.kind ((four f.n).take j) = u32F ((four f.n).take j) := by simp [getF, h]
    rw [eg]
    unfold u32F
    rw [if_pos (by rw [List.length_take, four_len]; omega)]
  · have e : enc f = four f.text.length ++ f.text := by simp [enc, h]
    simp only [fault, h] at hf
    simp at hf
    rw [e] at hj ⊢
    rw [List.length_append, four_len] at hj
    have eg : (getF f.kind ((four f.text.length ++ f.text).take j)).1 = (textF ((four f.text.length ++ f.text).take j)).1 := by simp [getF, h, strF]
    rw [eg]
    unfold textF
    by_cases h4 : j < 4
    · rw [if_pos (by rw [List.length_take]; omega)]
    · have e4 : (four f.text.length ++ f.text).take j = four f.text.length ++ f.text.take (j - 4) := by
        rw [List.take_append, four_len, List.take_of_length_le (by rw [four_len]; omega)]
      have hd : (four f.text.length ++ f.text.take (j - 4)).drop 4 = f.text.take (j - 4) := rfl
      rw [e4, num4_four _ (by omega), hd, if_neg (by rw [List.length_append, four_len]; omega), if_neg (by omega), if_pos (by rw [List.length_take]; omega)]
theorem rdF_cut : ∀ (l acc : List Fd) (j : Nat), (∀ f ∈ l, (f.kind = 3 ∨ f.kind = 4) ∧ fault f = 0 ∧ f.n < 4294967296) → j < (encs l).length → (rdF acc (l.map Fd.kind) ((encs l).take j)).1 = 3
  | [], _, j, _, h => by simp [encs] at h
  | f :: l, acc, j, hl, h => by
    obtain ⟨hk, hf, hn⟩ := hl f (by simp)
    rw [encs_cons, List.length_append] at h
    rw [List.map_cons, rdF, encs_cons]
    by_cases hj : j < (enc f).length
    · have e : (enc f ++ encs l).take j = (enc f).take j := List.take_append_of_le_length (by omega)
      have hc := getF_cut f hk hf j hj
      rw [e, if_neg (by rw [hc]; decide)]
      exact hc
    · have e : (enc f ++ encs l).take j = enc f ++ (encs l).take (j - (enc f).length) := by rw [List.take_append, List.take_of_length_le (by omega)]
      have hg := getF_enc f ((encs l).take (j - (enc f).length)) (by rcases hk with h | h <;> omega) hf hn (fun h6 => by rcases hk with h | h <;> omega)
      rw [e, hg]
      simp only [if_true]
      exact rdF_cut l _ _ (fun g hg => hl g (by simp [hg])) (by omega)
def restZ (z : Int) : Bool := decide (z = 80) || decide (z = 81) || decide (z = 90) || decide (z = 91) || decide (z = 98)
theorem plain_kinds {z : Int} {ps : List Pl} (h : look z tab = some ps) (hr : restZ z = false) : ∀ p ∈ ps, p.kind = 3 ∨ p.kind = 4 := by
  have hm := look_mem h
  simp only [tab, List.mem_cons, List.mem_nil_iff, or_false, Prod.mk.injEq] at hm
  rcases hm with ⟨rfl, rfl⟩ | ⟨rfl, rfl⟩ | ⟨rfl, rfl⟩ | ⟨rfl, rfl⟩ | ⟨rfl, rfl⟩ | ⟨rfl, rfl⟩ | ⟨rfl, rfl⟩ | ⟨rfl, rfl⟩ | ⟨rfl, rfl⟩ | ⟨rfl, rfl⟩ | ⟨rfl, rfl⟩ | ⟨rfl, rfl⟩ | ⟨rfl, rfl⟩ | ⟨rfl, rfl⟩ | ⟨rfl, rfl⟩
  all_goals first
    | exact absurd hr (by decide)
    | (intro p hp; simp only [List.mem_cons, List.mem_nil_iff, or_false] at hp; rcases hp with rfl | rfl | rfl | rfl <;> first | exact .inl rfl | exact .inr rfl)
    | (intro p hp; simp only [List.mem_cons, List.mem_nil_iff, or_false] at hp; rcases hp with rfl | rfl | rfl <;> first | exact .inl rfl | exact .inr rfl)
    | (intro p hp; simp only [List.mem_cons, List.mem_nil_iff, or_false] at hp; rcases hp with rfl | rfl <;> first | exact .inl rfl | exact .inr rfl)
    | (intro p hp; simp only [List.mem_cons, List.mem_nil_iff, or_false] at hp; subst hp; exact .inl rfl)
    | (intro p hp; cases hp)
/-- A payload cut short, of a kind whose fields end, is no message. -/
theorem cut_math {m : Mg} (hm : m.Ok) (h : (encF m).1 = 0) (hr : restZ m.kind = false) (k : Nat) (h1 : 1 ≤ k) (hk : k < (encF m).2.length) : decF ((encF m).2.take k) = (3, zeroM) := by
  obtain ⟨ps, hl, ha, he, hok⟩ := encF_some h
  have hkd := look_some hl
  have hpk := plain_kinds hl hr
  have hrr : encs (kfm m :: ps.map (Pl.fld m)) = UInt8.ofNat m.kind.toNat :: encs (ps.map (Pl.fld m)) := by rw [encs_cons, enc_kfm]; rfl
  rw [he, hrr] at hk
  rw [he, hrr]
  simp only at hk ⊢
  obtain ⟨j, rfl⟩ : ∃ j, k = j + 1 := ⟨k - 1, by omega⟩
  rw [List.length_cons] at hk
  rw [List.take_succ_cons, decF, ofNat_kind hkd, hl]
  have hkb : kindsB ((1 :: ps.map Pl.kind).map kfd) = true := by
    rw [← kinds_fld m ps, kindsB_kfd]
    exact hok.1
  have hmap : ps.map Pl.kind = (ps.map (Pl.fld m)).map Fd.kind := by
    rw [List.map_map]
    apply List.map_congr_left
    intro p _
    exact (fld_kind m p).symm
  have hread : (readF (1 :: ps.map Pl.kind) (UInt8.ofNat m.kind.toNat :: (encs (ps.map (Pl.fld m))).take j)).1 = 3 := by
    rw [readF, if_pos hkb, rd_first, hmap]
    refine rdF_cut _ _ _ ?_ (by omega)
    intro f hf
    refine ⟨?_, hok.2.1 f (by simp [hf]), ?_⟩
    · obtain ⟨q, hq, rfl⟩ := List.mem_map.1 hf
      rw [fld_kind]
      exact hpk q hq
    · obtain ⟨q, _, rfl⟩ := List.mem_map.1 hf
      exact (fld_wf hm q).1
  simp only
  rw [if_neg (by rw [hread]; decide), hread]

end Go.Proofs.YtlmdbcmaophhnaaDoor
