import Derived.Test.YtdplngplljejhaaDoorWT
namespace Go.Proofs.YtdplngplljejhaaDoor
open Go.RowKit

/-- A field with what its kind names alone. -/
def ownF (f : Fd) : Fd := ⟨f.kind, if f.kind = 4 ∨ f.kind = 5 ∨ f.kind = 6 then 0 else f.n, if f.kind = 4 ∨ f.kind = 6 then f.text else [], if f.kind = 5 then f.list else []⟩

theorem cutC_app : ∀ (x y : List UInt8), (∀ b ∈ x, b ≠ 44) → cutC (x ++ 44 :: y) = x :: cutC y
  | [], y, _ => cutC_comma y
  | b :: x, y, h => by
    rw [List.cons_append, cutC_other b _ (h b (by simp)) _ _ (cutC_app x y (fun c hc => h c (by simp [hc])))]
theorem cutC_one : ∀ (x : List UInt8), (∀ b ∈ x, b ≠ 44) → cutC x = [x]
  | [], _ => rfl
  | b :: x, h => cutC_other b x (h b (by simp)) x [] (cutC_one x (fun c hc => h c (by simp [hc])))
theorem cutC_join : ∀ (x : List UInt8) (r : List (List UInt8)), (∀ s ∈ x :: r, ∀ b ∈ s, b ≠ 44) → cutC (Lib.join (x :: r) [44]) = x :: r
  | x, [], h => by rw [Lib.join_one]; exact cutC_one x (h x (by simp))
  | x, y :: r, h => by
    have e : Lib.join (x :: y :: r) [44] = x ++ 44 :: Lib.join (y :: r) [44] := by
      simp [Lib.join_cons, Lib.joinTail]
    rw [e, cutC_app x _ (h x (by simp)), cutC_join y r (fun s hs => h s (by simp [hs]))]

theorem name_free {s : ByteArray} (h : nameOk s = true) : ∀ b ∈ s.data.toList, b ≠ 44 := by
  intro b hb e
  subst e
  simp only [nameOk, Bool.and_eq_true, List.all_eq_true] at h
  have := (nameByte_iff 44).1 (h.2 44 hb)
  exact this.2.2 rfl
theorem name_some {s : ByteArray} (h : nameOk s = true) : s.data.toList ≠ [] := by
  intro e
  simp only [nameOk, Bool.and_eq_true, decide_eq_true_eq] at h
  have h1 := h.1.1
  have h2 : s.size = s.data.toList.length := rfl
  rw [e] at h2
  rw [h2] at h1
  exact absurd h1 (by decide)
theorem bytes_inj : ∀ (a b : List ByteArray), a.map (·.data.toList) = b.map (·.data.toList) → a = b
  | [], [], _ => rfl
  | [], _ :: _, h => by simp at h
  | _ :: _, [], h => by simp at h
  | x :: a, y :: b, h => by
    simp only [List.map_cons, List.cons.injEq] at h
    have e : x = y := ByteArray.ext (Array.ext' h.1)
    rw [e, bytes_inj a b h.2]
theorem spl_joined (ls : List ByteArray) (h : ls.all nameOk = true) (hn : ls ≠ []) : spl (joined ls) = ls := by
  apply bytes_inj
  rw [spl_cut]
  unfold joined
  cases ls with
  | nil => exact absurd rfl hn
  | cons x r =>
    rw [List.map_cons]
    refine cutC_join _ _ ?_
    intro s hs
    rw [← List.map_cons (f := fun s : ByteArray => s.data.toList), List.mem_map] at hs
    obtain ⟨t, ht, rfl⟩ := hs
    exact name_free (List.all_eq_true.1 h t ht)
theorem joined_nil (ls : List ByteArray) (h : ls.all nameOk = true) (hn : ls ≠ []) : joined ls ≠ [] := by
  cases ls with
  | nil => exact absurd rfl hn
  | cons x r =>
    intro e
    unfold joined at e
    rw [List.map_cons, Lib.join_cons] at e
    simp only [List.append_eq_nil_iff] at e
    exact name_some (List.all_eq_true.1 h x (by simp)) e.1

theorem four_len (n : Nat) : (four n).length = 4 := rfl
theorem num4_four (n : Nat) (h : n < 4294967296) (r : List UInt8) : num4 (four n ++ r) = n := by
  simp only [num4, four, List.cons_append, List.nil_append, List.getD, List.getElem?_cons_zero, List.getElem?_cons_succ, Option.getD_some, UInt8.toNat_ofNat']
  omega
theorem textF_enc (tx r : List UInt8) (h : tx.length ≤ 32768) : textF (four tx.length ++ tx ++ r) = (0, tx, r) := by
  have h4 : num4 (four tx.length ++ (tx ++ r)) = tx.length := num4_four _ (by omega) _
  have hd : (four tx.length ++ (tx ++ r)).drop 4 = tx ++ r := rfl
  rw [List.append_assoc]
  unfold textF
  rw [h4, hd, if_neg (by simp only [List.length_append, four_len]; omega), if_neg (by omega), if_neg (by simp)]
  simp

theorem getF_enc (f : Fd) (r : List UInt8) (hk : 1 ≤ f.kind ∧ f.kind ≤ 6) (hf : fault f = 0) (hn : f.n < 4294967296) (h6 : f.kind = 6 → r = []) : getF f.kind (enc f ++ r) = (0, { ownF f with kind := 0 }, r) := by
  have h : f.kind = 1 ∨ f.kind = 2 ∨ f.kind = 3 ∨ f.kind = 4 ∨ f.kind = 5 ∨ f.kind = 6 := by omega
  rcases h with h | h | h | h | h | h
  · simp only [fault, h, if_true] at hf
    have hn' : f.n ≤ 255 := by split at hf <;> omega
    simp only [getF, enc, h, if_true, ownF, byteF, List.cons_append, List.nil_append]
    simp
    omega
  · simp only [fault, h] at hf
    simp at hf
    have e : f.n = 0 ∨ f.n = 1 := by omega
    simp only [getF, enc, h, ownF, boolF]
    rcases e with e | e <;> simp [e]
  · have h4 := num4_four f.n hn r
    simp only [getF, enc, h, ownF, u32F]
    have hd : (four f.n ++ r).drop 4 = r := rfl
    simp [h4, hd, four_len]
  · simp only [fault, h] at hf
    simp at hf
    have ht := textF_enc f.text r (by omega)
    rw [List.append_assoc] at ht
    simp only [getF, enc, h, ownF, strF]
    simp [ht]
  · simp only [fault, h, namesE] at hf
    simp at hf
    have h64 : f.list.length ≤ 64 := by
      by_cases hh : 64 < f.list.length
      · simp [hh] at hf
      · omega
    have hall : f.list.all nameOk = true := by
      rw [if_neg (by omega)] at hf
      simpa using hf
    have hl := joined_len f.list hall h64
    have ht := textF_enc (joined f.list) r (by omega)
    simp only [getF, enc, h, ownF, namesF]
    simp only [show ((5 : Int) = 1) = False by simp, show ((5 : Int) = 2) = False by simp, show ((5 : Int) = 3) = False by simp, show ((5 : Int) = 4) = False by simp, if_true, if_false, ht]
    by_cases hn0 : f.list = []
    · rw [hn0]
      simp [joined, Lib.join, zf]
    · have e1 := spl_joined f.list hall hn0
      have e2 := joined_nil f.list hall hn0
      rw [if_neg e2, e1, if_neg (by omega), if_pos hall]
      simp
  · simp only [fault, h] at hf
    simp at hf
    rw [h6 h, List.append_nil]
    simp only [getF, enc, h, ownF, restF]
    simp
    omega

theorem rdF_encs : ∀ (l acc : List Fd), kindsB l = true → (∀ f ∈ l, fault f = 0) → (∀ f ∈ l, f.n < 4294967296) → rdF acc (l.map Fd.kind) (encs l) = (0, acc ++ l.map ownF)
  | [], acc, _, _, _ => by simp [rdF, encs]
  | f :: l, acc, hk, hf, hn => by
    simp only [kindsB, Bool.and_eq_true, Bool.or_eq_true, decide_eq_true_eq, List.isEmpty_iff] at hk
    obtain ⟨⟨⟨k1, k2⟩, k3⟩, k4⟩ := hk
    have h6 : f.kind = 6 → encs l = [] := fun h => by
      rcases k3 with k3 | k3
      · exact absurd h k3
      · rw [k3]; rfl
    have hg := getF_enc f (encs l) ⟨k1, k2⟩ (hf f (by simp)) (hn f (by simp)) h6
    rw [List.map_cons, encs_cons, rdF, hg]
    simp only [if_true]
    rw [rdF_encs l _ k4 (fun g hg => hf g (by simp [hg])) (fun g hg => hn g (by simp [hg])), List.map_cons]
    simp [ownF]
theorem kindsB_kfd : ∀ l : List Fd, kindsB ((l.map Fd.kind).map kfd) = kindsB l
  | [] => rfl
  | f :: l => by
    simp only [List.map_cons, kindsB]
    rw [kindsB_kfd l]
    simp only [kfd, List.isEmpty_map]
    congr 2
/-- What is written is read, with what the kinds name. -/
theorem readF_encs {l : List Fd} (h : okW l) (hn : ∀ f ∈ l, f.n < 4294967296) : readF (l.map Fd.kind) (encs l) = (0, l.map ownF) := by
  rw [readF, kindsB_kfd, if_pos h.1, rdF_encs l [] h.1 h.2.1 hn]
  simp
end Go.Proofs.YtdplngplljejhaaDoor
