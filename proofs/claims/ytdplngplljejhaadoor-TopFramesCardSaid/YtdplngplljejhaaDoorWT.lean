import Derived.Test.YtdplngplljejhaaDoorWI
import Derived.Test.YtdplngplljejhaaDoorWM
import Derived.Lib.SplitLaws
import Derived.Lib.JoinLaws
namespace Go.Proofs.YtdplngplljejhaaDoor
open Go.RowKit

/-- A text cut at each comma. -/
def cutC : List UInt8 → List (List UInt8)
  | [] => [[]]
  | b :: l => if b = 44 then [] :: cutC l else match cutC l with | [] => [[b]] | x :: r => (b :: x) :: r
theorem cutC_cons (l : List UInt8) : ∃ x r, cutC l = x :: r := by
  cases l with
  | nil => exact ⟨_, _, rfl⟩
  | cons b l =>
    unfold cutC
    split
    · exact ⟨_, _, rfl⟩
    · split <;> exact ⟨_, _, rfl⟩
theorem cutC_comma (l : List UInt8) : cutC (44 :: l) = [] :: cutC l := by rw [cutC, if_pos rfl]
theorem cutC_other (b : UInt8) (l : List UInt8) (h : b ≠ 44) (x : List UInt8) (r : List (List UInt8)) (e : cutC l = x :: r) : cutC (b :: l) = (b :: x) :: r := by rw [cutC, if_neg h, e]

theorem index_comma (l : List UInt8) : Lib.index (44 :: l) [44] = 0 := by simp [Lib.index]
theorem index_other (b : UInt8) (l : List UInt8) (h : b ≠ 44) : Lib.index (b :: l) [44] = if Lib.index l [44] == -1 then -1 else Lib.index l [44] + 1 := by
  have : ([44] : List UInt8).isPrefixOf (b :: l) = false := by simp [List.isPrefixOf]; exact fun e => h e.symm
  rw [Lib.index, this]
  simp

theorem splitK_cut : ∀ (s : List UInt8) (k : Nat), s.count 44 ≤ k → Lib.splitK [44] 0 k s = cutC s
  | [], 0, _ => rfl
  | [], k + 1, _ => by simp [Lib.splitK, Lib.index, cutC]
  | b :: l, k, h => by
    by_cases hb : b = 44
    · subst hb
      cases k with
      | zero => simp at h
      | succ k =>
        have hk : l.count 44 ≤ k := by simp at h; omega
        rw [cutC_comma, ← splitK_cut l k hk, Lib.splitK, index_comma]
        simp
    · have hc : (b :: l).count 44 = l.count 44 := by rw [List.count_cons]; simp [hb]
      rw [hc] at h
      cases k with
      | zero =>
        have := splitK_cut l 0 h
        rw [Lib.splitK] at this
        rw [cutC_other b l hb l [] this.symm, Lib.splitK]
      | succ k =>
        have := splitK_cut l (k + 1) h
        rw [Lib.splitK] at this
        rw [Lib.splitK, index_other b l hb]
        by_cases hi : (Lib.index l [44] == -1) = true
        · rw [if_pos hi] at this
          rw [if_pos hi, if_pos (by simp), cutC_other b l hb l [] this.symm]
        · have hge := Lib.index_ge l [44]
          have hi' : ¬ Lib.index l [44] = -1 := by simpa using hi
          rw [if_neg hi] at this
          have h0 : ¬ ((Lib.index l [44] + 1 == -1) = true) := by simp; omega
          rw [if_neg hi, if_neg h0, cutC_other b l hb _ _ this.symm]
          have e : (Lib.index l [44] + 1).toNat = (Lib.index l [44]).toNat + 1 := by omega
          rw [e]
          simp
theorem spl_cut (tx : List UInt8) : (spl tx).map (·.data.toList) = cutC tx := by
  unfold spl
  rw [Lib.splitB_data]
  have e : (⟨tx.toArray⟩ : ByteArray).data.toList = tx := by simp
  have e2 : Lib.countB ⟨tx.toArray⟩ ⟨#[44]⟩ = tx.count 44 := by
    show Lib.count _ _ = _
    simp [Lib.count_one]
  rw [e2, e]
  exact splitK_cut tx _ (Nat.le_refl _)

theorem join_cut : ∀ s : List UInt8, Lib.join (cutC s) [44] = s
  | [] => by simp [cutC, Lib.join_one]
  | b :: l => by
    obtain ⟨x, r, e⟩ := cutC_cons l
    have ih := join_cut l
    rw [e, Lib.join_cons] at ih
    by_cases hb : b = 44
    · subst hb
      rw [cutC_comma, e, Lib.join_cons]
      simp only [Lib.joinTail, List.map_cons, List.flatten_cons] at ih ⊢
      simpa using ih
    · rw [cutC_other b l hb x r e, Lib.join_cons, List.cons_append, ih]
theorem joined_spl (tx : List UInt8) : joined (spl tx) = tx := by
  unfold joined
  rw [spl_cut, join_cut]

/-- What a field that was read says of the bytes that it took. -/
structure Took (k : Int) (f : Fd) (chunk : List UInt8) : Prop where
  fault : fault { f with kind := k } = 0
  len : (enc { f with kind := k }).length = chunk.length
  same : k ≠ 2 → enc { f with kind := k } = chunk
  bool : k = 2 → ∃ x : UInt8, chunk = [x] ∧ f.n = (if x = 0 then 0 else 1)
  small : f.n < 4294967296 ∧ ∀ s ∈ f.list, s.size ≤ 64

theorem four_num (a b c d : UInt8) (r : List UInt8) : four (num4 (a :: b :: c :: d :: r)) = [a, b, c, d] := by
  have h0 := a.toNat_lt
  have h1 := b.toNat_lt
  have h2 := c.toNat_lt
  have h3 := d.toNat_lt
  have e : num4 (a :: b :: c :: d :: r) = a.toNat * 16777216 + b.toNat * 65536 + c.toNat * 256 + d.toNat := by simp [num4]
  unfold four
  rw [e]
  simp only [List.cons.injEq, and_true]
  refine ⟨?_, ?_, ?_, ?_⟩ <;> (apply UInt8.toNat_inj.1; rw [UInt8.toNat_ofNat']; omega)
theorem four_take (left : List UInt8) (h : 4 ≤ left.length) : four (num4 left) = left.take 4 := by
  match left, h with
  | a :: b :: c :: d :: r, _ => rw [four_num]; rfl

theorem textF_zero {left : List UInt8} (h : (textF left).1 = 0) : left = four (textF left).2.1.length ++ (textF left).2.1 ++ (textF left).2.2 := by
  unfold textF at h ⊢
  by_cases h4 : left.length < 4
  · simp [h4] at h
  · rw [if_neg h4] at h ⊢
    by_cases h6 : 32768 < num4 left
    · simp [h6] at h
    · rw [if_neg h6] at h ⊢
      by_cases h3 : (left.drop 4).length < num4 left
      · rw [if_pos h3] at h; simp at h
      · rw [if_neg h3]
        have e : ((left.drop 4).take (num4 left)).length = num4 left := by rw [List.length_take]; omega
        simp only [e]
        rw [four_take left (by omega), List.append_assoc, List.take_append_drop, List.take_append_drop]

theorem getF_took (k : Int) (hk : 1 ≤ k ∧ k ≤ 6) (left : List UInt8) (hl : left.length ≤ 33792) (h : (getF k left).1 = 0) : ∃ chunk, left = chunk ++ (getF k left).2.2 ∧ Took k (getF k left).2.1 chunk := by
  have hk6 : k = 1 ∨ k = 2 ∨ k = 3 ∨ k = 4 ∨ k = 5 ∨ k = 6 := by omega
  rcases hk6 with rfl | rfl | rfl | rfl | rfl | rfl
  · have e : getF 1 left = byteF left := by simp [getF]
    rw [e] at h ⊢
    cases left with
    | nil => simp [byteF] at h
    | cons a r =>
      have ha := a.toNat_lt
      refine ⟨[a], rfl, ?_, ?_, fun _ => ?_, fun h => by simp at h, ?_, ?_⟩
      · simp [byteF, fault]; omega
      · simp [enc]
      · simp [byteF, enc]
      · simp [byteF]; omega
      · simp [byteF]
  · have e : getF 2 left = boolF left := by simp [getF]
    rw [e] at h ⊢
    cases left with
    | nil => simp [boolF] at h
    | cons a r =>
      have ha := a.toNat_lt
      refine ⟨[a], rfl, ?_, ?_, fun h => absurd rfl h, fun _ => ⟨a, rfl, ?_⟩, ?_, ?_⟩
      · simp [boolF, fault]; omega
      · simp [enc]
      · show min a.toNat 1 = _
        by_cases h0 : a = 0
        · subst h0; rfl
        · have : a.toNat ≠ 0 := fun h => h0 (UInt8.toNat_inj.1 h)
          rw [if_neg h0]; omega
      · show min a.toNat 1 < _
        omega
      · simp [boolF]
  · have e : getF 3 left = u32F left := by simp [getF]
    rw [e] at h ⊢
    unfold u32F at h ⊢
    by_cases h4 : left.length < 4
    · simp [h4] at h
    · rw [if_neg h4]
      refine ⟨left.take 4, (List.take_append_drop 4 left).symm, by simp [fault], ?_, fun _ => ?_, fun h => by simp at h, num4_lt left, by simp⟩
      · simp [enc, four]; omega
      · simp [enc]; exact four_take left (by omega)
  · have e : getF 4 left = strF left := by simp [getF]
    rw [e] at h ⊢
    have hz : (textF left).1 = 0 := h
    have ht := textF_zero hz
    have hlen := textF_len left
    refine ⟨four (textF left).2.1.length ++ (textF left).2.1, ht, ?_, ?_, fun _ => ?_, fun h => by simp at h, by simp [strF], by simp [strF]⟩
    · simp [strF, fault]; omega
    · simp [strF, enc]
    · simp [strF, enc]
  · have e : getF 5 left = namesF left := by simp [getF]
    rw [e] at h ⊢
    unfold namesF at h ⊢
    by_cases hz : (textF left).1 = 0
    · have ht := textF_zero hz
      rw [if_pos hz] at h ⊢
      by_cases he : (textF left).2.1 = []
      · rw [if_pos he] at h ⊢
        rw [he] at ht
        exact ⟨four 0, by simpa using ht, by simp [fault, zf, namesE], by simp [enc, zf, joined, Lib.join_nil], fun _ => by simp [enc, zf, joined, Lib.join_nil], fun h => by simp at h, by simp [zf], by simp [zf]⟩
      · rw [if_neg he] at h ⊢
        by_cases h64 : 64 < (spl (textF left).2.1).length
        · rw [if_pos h64] at h; simp at h
        · rw [if_neg h64] at h ⊢
          by_cases hall : (spl (textF left).2.1).all nameOk = true
          · rw [if_pos hall]
            refine ⟨four (textF left).2.1.length ++ (textF left).2.1, ht, ?_, ?_, fun _ => ?_, fun h => by simp at h, by simp, ?_⟩
            · simp [fault, namesE, h64, hall]
            · simp [enc, joined_spl]
            · simp [enc, joined_spl]
            · intro s hs
              have := List.all_eq_true.1 hall s hs
              simp only [nameOk, Bool.and_eq_true, decide_eq_true_eq] at this
              omega
          · rw [if_neg hall] at h; simp at h
    · rw [if_neg hz] at h
      exact absurd h hz
  · have e : getF 6 left = restF left := by simp [getF]
    rw [e] at h ⊢
    unfold restF at h ⊢
    have h6 : ¬ 33792 < left.length := by omega
    rw [if_neg h6]
    exact ⟨left, by simp, by simp [fault]; omega, by simp [enc], fun _ => by simp [enc], fun h => by simp at h, by simp, by simp⟩

/-- What was read of bytes, field by field. -/
def RdL : List Int → List Fd → List UInt8 → Prop
  | [], fs, bs => fs = [] ∧ bs = []
  | k :: ks, fs, bs => ∃ f fs' c r, fs = { f with kind := k } :: fs' ∧ bs = c ++ r ∧ Took k f c ∧ RdL ks fs' r

theorem rdF_zero : ∀ (ks : List Int) (acc : List Fd) (left : List UInt8), (∀ k ∈ ks, 1 ≤ k ∧ k ≤ 6) → left.length ≤ 33792 → (rdF acc ks left).1 = 0 → ∃ fs, (rdF acc ks left).2 = acc ++ fs ∧ RdL ks fs left
  | [], acc, left, _, _, h => by
    unfold rdF at h ⊢
    by_cases hl : left = []
    · rw [if_pos hl]; exact ⟨[], by simp, rfl, hl⟩
    · rw [if_neg hl] at h; simp at h
  | k :: ks, acc, left, hk, hl, h => by
    unfold rdF at h ⊢
    by_cases hz : (getF k left).1 = 0
    · rw [if_pos hz] at h ⊢
      obtain ⟨c, hc, ht⟩ := getF_took k (hk k (by simp)) left hl hz
      have hr : (getF k left).2.2.length ≤ 33792 := by
        have := congrArg List.length hc
        simp at this; omega
      obtain ⟨fs, hfs, hrd⟩ := rdF_zero ks _ _ (fun q hq => hk q (by simp [hq])) hr h
      exact ⟨_ :: fs, by rw [hfs]; simp, _, fs, c, _, rfl, hc, ht, hrd⟩
    · rw [if_neg hz] at h
      exact absurd h hz

theorem rdl_len : ∀ (ks : List Int) (fs : List Fd) (bs : List UInt8), RdL ks fs bs → fs.length = ks.length ∧ (encs fs).length = bs.length ∧ (∀ f ∈ fs, fault f = 0) ∧ (∀ f ∈ fs, f.n < 4294967296 ∧ ∀ s ∈ f.list, s.size ≤ 64)
  | [], _, _, ⟨h1, h2⟩ => by subst h1; subst h2; simp [encs]
  | k :: ks, _, _, ⟨f, fs, c, r, h1, h2, ht, hr⟩ => by
    subst h1; subst h2
    obtain ⟨a, b, d, e⟩ := rdl_len ks fs r hr
    refine ⟨by simp [a], by rw [encs_cons, List.length_append, ht.len, b, List.length_append], fun g hg => ?_, fun g hg => ?_⟩
    · rcases List.mem_cons.1 hg with rfl | hg
      · exact ht.fault
      · exact d g hg
    · rcases List.mem_cons.1 hg with rfl | hg
      · exact ht.small
      · exact e g hg
theorem rdl_at : ∀ (ks : List Int) (fs : List Fd) (bs : List UInt8), RdL ks fs bs → ∀ i (hi : i < fs.length) (hk : i < ks.length), ∃ f c r, fs[i] = { f with kind := ks[i] } ∧ Took ks[i] f c ∧ bs.drop (encs (fs.take i)).length = c ++ r
  | [], _, _, ⟨h1, _⟩, i, hi, _ => by subst h1; simp at hi
  | k :: ks, _, _, ⟨f, fs, c, r, h1, h2, ht, hr⟩, i, hi, hk => by
    subst h1; subst h2
    cases i with
    | zero => exact ⟨f, c, r, rfl, ht, by simp [encs]⟩
    | succ i =>
      obtain ⟨g, c', r', e1, e2, e3⟩ := rdl_at ks fs r hr i (by simpa using hi) (by simpa using hk)
      refine ⟨g, c', r', by simpa using e1, by simpa using e2, ?_⟩
      rw [List.take_succ_cons, encs_cons, List.length_append, ht.len, List.drop_append, List.drop_of_length_le (by omega)]
      simpa using e3
theorem encs_at (fs : List Fd) (i : Nat) (hi : i < fs.length) : (encs fs).drop (encs (fs.take i)).length = enc fs[i] ++ encs (fs.drop (i + 1)) := by
  have e : encs fs = encs (fs.take i) ++ (enc fs[i] ++ encs (fs.drop (i + 1))) := by
    rw [← encs_cons, ← encs_append, ← List.drop_eq_getElem_cons hi, List.take_append_drop]
  rw [e, List.drop_append]
  simp
theorem rdl_kinds (ks : List Int) (fs : List Fd) (bs : List UInt8) (h : RdL ks fs bs) (hk : kindsB (ks.map kfd) = true) : kindsB fs = true := by
  obtain ⟨hl, _⟩ := rdl_len ks fs bs h
  rw [kindsB_iff] at hk ⊢
  intro i hi
  obtain ⟨f, c, r, e1, _, _⟩ := rdl_at ks fs bs h i hi (by omega)
  have := hk i (by simp; omega)
  rw [e1]
  simp only [List.getElem_map, kfd, List.length_map] at this
  simpa [hl] using this
theorem readF_zero {ks : List Int} {bs : List UInt8} (hl : bs.length ≤ 33792) (h : (readF ks bs).1 = 0) : RdL ks (readF ks bs).2 bs ∧ okW (readF ks bs).2 := by
  unfold readF at h ⊢
  by_cases hk : kindsB (ks.map kfd) = true
  · rw [if_pos hk] at h ⊢
    have hks : ∀ k ∈ ks, 1 ≤ k ∧ k ≤ 6 := by
      intro k hkm
      obtain ⟨i, hi, rfl⟩ := List.getElem_of_mem hkm
      have := (kindsB_iff _).1 hk i (by simpa using hi)
      simp only [List.getElem_map, kfd, kindB, Bool.and_eq_true, decide_eq_true_eq] at this
      exact this.1
    obtain ⟨fs, hfs, hrd⟩ := rdF_zero ks [] bs hks hl h
    have hfs' : (rdF [] ks bs).2 = fs := by rw [hfs]; simp
    rw [hfs']
    obtain ⟨a, b, c, d⟩ := rdl_len ks fs bs hrd
    exact ⟨hrd, rdl_kinds ks fs bs hrd hk, c, by omega⟩
  · rw [if_neg hk] at h; simp at h
theorem rdF_err : ∀ (ks : List Int) (acc : List Fd) (left : List UInt8), (rdF acc ks left).1 ≠ 0 → (rdF acc ks left).2 = []
  | [], acc, left, h => by
    unfold rdF at h ⊢
    by_cases hl : left = []
    · rw [if_pos hl] at h; simp at h
    · rw [if_neg hl]
  | k :: ks, acc, left, h => by
    unfold rdF at h ⊢
    by_cases hz : (getF k left).1 = 0
    · rw [if_pos hz] at h ⊢
      exact rdF_err ks _ _ h
    · rw [if_neg hz]
theorem readF_err {ks : List Int} {bs : List UInt8} (h : (readF ks bs).1 ≠ 0) : (readF ks bs).2 = [] := by
  unfold readF at h ⊢
  by_cases hk : kindsB (ks.map kfd) = true
  · rw [if_pos hk] at h ⊢; exact rdF_err ks [] bs h
  · rw [if_neg hk]
end Go.Proofs.YtdplngplljejhaaDoor
