import Derived.Test.YtfpkjocoifoigaaGreatDoorQP
import Derived.Test.YtfpkjocoifoigaaGreatDoorQT
import Derived.Test.YtfpkjocoifoigaaGreatDoorMK
namespace Go.Proofs.YtfpkjocoifoigaaGreatDoor
open Go.RowKit

theorem rowK_kind (x : Rw) : rowK x.kind Rw.all = some x := by cases x <;> rfl
theorem rowN_some {s : ByteArray} {x : Rw} : ∀ {l : List Rw}, rowN s l = some x → x.name = s
  | [], h => by cases h
  | a :: r, h => by
    rw [rowN] at h
    by_cases e : a.name = s
    · rw [if_pos e] at h
      injection h with h
      rw [← h]; exact e
    · rw [if_neg e] at h
      exact rowN_some h
theorem rowN_name (x : Rw) : rowN x.name Rw.all = some x := by cases x <;> kernel_rfl
theorem encR_err {r : Rq} (h : (encR r).1 ≠ 0) : (encR r).2 = (⟨#[]⟩, []) := by
  unfold encR at h ⊢
  split
  · rfl
  · rename_i k hk
    rw [hk] at h
    simp only at h
    by_cases hf : (k.put r .zero).fault = 0
    · rw [if_pos hf] at h; exact absurd rfl h
    · rw [if_neg hf]
theorem decR_err {s : ByteArray} {b : List UInt8} (h : (decR s b).1 ≠ 0) : (decR s b).2 = zeroR := by
  unfold decR at h ⊢
  split
  · rfl
  · rename_i k hk
    rw [hk] at h
    simp only at h
    by_cases h1 : (readF k.kinds b).1 = 0
    · rw [if_pos h1] at h ⊢
      by_cases hf : (k.put (k.get (readF k.kinds b).2 { zeroR with kind := k.kind }) .zero).fault = 0
      · rw [if_pos hf] at h; exact absurd rfl h
      · rw [if_neg hf]
    · rw [if_neg h1]
theorem fault_zero {s : Ws} (h : s.fault = 0) : s.bad = false ∧ s.long = false := by
  obtain ⟨fs, b, l⟩ := s
  cases b <;> cases l <;> simp_all [Ws.fault]
theorem wordOk_64 {l : Nat} {s : ByteArray} (h : wordOk l s = true) : s.data.toList.length ≤ 64 := by
  simp only [wordOk, Bool.and_eq_true, decide_eq_true_eq] at h
  rw [str_len]
  exact h.1.2
theorem enc4_len (t : List UInt8) : (enc ⟨4, 0, t, []⟩).length = 4 + t.length := by simp [enc, four]; omega
theorem enc3_len (n : Nat) : (enc ⟨3, n, [], []⟩).length = 4 := by simp [enc, four]
theorem enc2_len (n : Nat) : (enc ⟨2, n, [], []⟩).length = 1 := by simp [enc]
theorem flt4 {t : List UInt8} (h : t.length ≤ 1024) : fault ⟨4, 0, t, []⟩ = 0 := by simp [fault]; omega
theorem flt3 (n : Nat) : fault ⟨3, n, [], []⟩ = 0 := by simp [fault]
theorem flt2 (b : Bool) : fault ⟨2, if b then 1 else 0, [], []⟩ = 0 := by cases b <;> simp [fault]
theorem put_kb (k : Rw) (r : Rq) : kindsB (k.put r .zero).fs = true := by rw [← kindsB_kfd, put_kinds_any]; exact kinds_okB k
theorem put_okW (k : Rw) {r : Rq} (h : (k.put r .zero).fault = 0) : okW (k.put r .zero).fs := by
  obtain ⟨hb, hl⟩ := fault_zero h
  refine ⟨put_kb k r, ?_, ?_⟩
  · intro f hf
    cases k <;> simp [Rw.put, Ws.wrd, Ws.txt, Ws.num, Ws.flg, Ws.eqs, Ws.size, Ws.zero] at hf hb hl
    · rcases hf with rfl | rfl | rfl | rfl | rfl | rfl
      · exact flt4 (by have := wordOk_64 hb; omega)
      · exact flt3 _
      · exact flt3 _
      · exact flt3 _
      · exact flt3 _
      · exact flt4 hl
    · rcases hf with rfl | rfl
      · exact flt4 (by have := wordOk_64 hb.1; omega)
      · exact flt4 (by simpa using hl)
    · subst hf; exact flt4 (by simpa using hl)
    · subst hf; exact flt4 (by have := wordOk_64 hb; omega)
    · rcases hf with rfl | rfl | rfl | rfl <;> exact flt3 _
    · subst hf; exact flt2 _
    · subst hf; exact flt4 (by have := wordOk_64 hb; omega)
    · subst hf; exact flt3 _
    · rcases hf with rfl | rfl | rfl | rfl
      · exact flt4 (by have := wordOk_64 hb.1; omega)
      · exact flt2 _
      · exact flt4 (by simpa using hl)
      · exact flt4 (by have := wordOk_64 hb.2; omega)
  · have hx : ∀ {l : Nat} {t : ByteArray} {q : Bool}, (q || !wordOk l t) = false → t.data.toList.length ≤ 64 ∧ q = false := by
      intro l t q h
      simp only [Bool.or_eq_false_iff, Bool.not_eq_false'] at h
      exact ⟨wordOk_64 h.2, h.1⟩
    have hy : ∀ {t : List UInt8} {q : Bool}, (q || decide (1024 < t.length)) = false → t.length ≤ 1024 ∧ q = false := by
      intro t q h
      simp only [Bool.or_eq_false_iff, decide_eq_false_iff_not] at h
      exact ⟨by omega, h.1⟩
    have e : ∀ l : List Fd, (encs l).length = (l.map (fun f => (enc f).length)).sum := fun l => by simp [encs, List.length_flatMap]
    rw [e]
    cases k
    · have h1 := (hx (l := 0) (t := r.text) (q := false) hb).1
      have h2 := (hy (t := r.modes) (q := false) hl).1
      show (enc ⟨4, 0, r.text.data.toList, []⟩).length + ((enc ⟨3, r.cols, [], []⟩).length + ((enc ⟨3, r.rows, [], []⟩).length + ((enc ⟨3, r.width, [], []⟩).length + ((enc ⟨3, r.height, [], []⟩).length + ((enc ⟨4, 0, r.modes, []⟩).length + 0))))) ≤ 33792
      rw [enc4_len, enc4_len, enc3_len, enc3_len, enc3_len, enc3_len]
      omega
    · have h0 : ((false || !wordOk 1 r.text) || r.text.data.toList.contains 61) = false := hb
      rw [Bool.or_eq_false_iff] at h0
      have h1 := (hx (l := 1) (t := r.text) (q := false) h0.1).1
      have h2 := (hy (t := r.value.data.toList) (q := false) hl).1
      show (enc ⟨4, 0, r.text.data.toList, []⟩).length + ((enc ⟨4, 0, r.value.data.toList, []⟩).length + 0) ≤ 33792
      rw [enc4_len, enc4_len]
      omega
    · show 0 ≤ 33792
      omega
    · have h2 := (hy (t := r.text.data.toList) (q := false) hl).1
      show (enc ⟨4, 0, r.text.data.toList, []⟩).length + 0 ≤ 33792
      rw [enc4_len]
      omega
    · have h1 := (hx (l := 1) (t := r.text) (q := false) hb).1
      show (enc ⟨4, 0, r.text.data.toList, []⟩).length + 0 ≤ 33792
      rw [enc4_len]
      omega
    · show (enc ⟨3, r.cols, [], []⟩).length + ((enc ⟨3, r.rows, [], []⟩).length + ((enc ⟨3, r.width, [], []⟩).length + ((enc ⟨3, r.height, [], []⟩).length + 0))) ≤ 33792
      rw [enc3_len, enc3_len, enc3_len, enc3_len]
      omega
    · show (enc ⟨2, if r.on then 1 else 0, [], []⟩).length + 0 ≤ 33792
      rw [enc2_len]
      omega
    · have h1 := (hx (l := 1) (t := r.text) (q := false) hb).1
      show (enc ⟨4, 0, r.text.data.toList, []⟩).length + 0 ≤ 33792
      rw [enc4_len]
      omega
    · show (enc ⟨3, r.code, [], []⟩).length + 0 ≤ 33792
      rw [enc3_len]
      omega
    · have h0 : ((false || !wordOk 1 r.text) || !wordOk 0 r.lang) = false := hb
      have h3 := hx (l := 0) (t := r.lang) h0
      have h1 := (hx (l := 1) (t := r.text) (q := false) h3.2).1
      have h2 := (hy (t := r.value.data.toList) (q := false) hl).1
      have h4 := h3.1
      show (enc ⟨4, 0, r.text.data.toList, []⟩).length + ((enc ⟨2, if r.on then 1 else 0, [], []⟩).length + ((enc ⟨4, 0, r.value.data.toList, []⟩).length + ((enc ⟨4, 0, r.lang.data.toList, []⟩).length + 0))) ≤ 33792
      rw [enc4_len, enc4_len, enc4_len, enc2_len]
      omega
theorem put_own (k : Rw) (r : Rq) : k.put (k.own r) .zero = k.put r .zero := by cases k <;> rfl
theorem str_mk (t : ByteArray) (k : Int) (n : Nat) (l : List ByteArray) : Rw.str ⟨k, n, t.data.toList, l⟩ = t := by
  show (⟨t.data.toList.toArray⟩ : ByteArray) = t
  cases t; simp
theorem ownF4 (t : List UInt8) : ownF ⟨4, 0, t, []⟩ = ⟨4, 0, t, []⟩ := rfl
theorem ownF3 (n : Nat) : ownF ⟨3, n, [], []⟩ = ⟨3, n, [], []⟩ := rfl
theorem ownF2 (n : Nat) : ownF ⟨2, n, [], []⟩ = ⟨2, n, [], []⟩ := rfl
theorem bit_on (b : Bool) : decide ((if b then 1 else 0 : Nat) = 1) = b := by cases b <;> rfl
theorem get_put (k : Rw) (r : Rq) : k.get ((k.put r .zero).fs.map ownF) { zeroR with kind := k.kind } = k.own r := by
  cases k <;> simp only [Rw.put, Ws.wrd, Ws.txt, Ws.num, Ws.flg, Ws.eqs, Ws.size, Ws.zero, List.nil_append, List.cons_append, List.append_assoc, List.map_cons, List.map_nil, ownF4, ownF3, ownF2, Rw.get, str_mk, bit_on, Rw.own, Rw.kind]
/-- What is encoded is decoded, with the fields of its kind. -/
theorem backq_math {r : Rq} (hr : r.Ok) (h : (encR r).1 = 0) :
    ∃ k, rowK r.kind Rw.all = some k ∧ (encR r).2.1 = k.name ∧ decR k.name (encR r).2.2 = (0, k.own r) ∧ (encR r).2.2.length ≤ 33792 := by
  unfold encR at h ⊢
  cases hk : rowK r.kind Rw.all with
  | none => rw [hk] at h; simp at h
  | some k =>
    rw [hk] at h
    simp only at h ⊢
    by_cases hf : (k.put r .zero).fault = 0
    · rw [if_pos hf]
      have hok := put_okW k hf
      have hw := writeF_ok hok
      have hrd := readF_encs hok (fun f hf => (put_wf k hr f hf).1)
      rw [put_kinds_any] at hrd
      refine ⟨k, rfl, rfl, ?_, by rw [hw]; exact hok.2.2⟩
      rw [hw]
      simp only
      rw [decR, rowN_name]
      simp only [hrd, if_true, get_put, put_own, hf]
    · rw [if_neg hf] at h
      exact absurd h hf

theorem getF_len (k : Int) (hk : k = 2 ∨ k = 3 ∨ k = 4) (left : List UInt8) (h : (getF k left).1 = 0) : left.length = (enc { (getF k left).2.1 with kind := k }).length + (getF k left).2.2.length := by
  rcases hk with rfl | rfl | rfl
  · cases left with
    | nil => simp [getF, boolF] at h
    | cons a r =>
      have e : (getF 2 (a :: r)) = (0, ⟨0, min a.toNat 1, [], []⟩, r) := rfl
      rw [e]
      simp [enc]; omega
  · have e : getF 3 left = u32F left := rfl
    rw [e] at h ⊢
    unfold u32F at h ⊢
    split at h
    · simp at h
    · rename_i hl
      rw [if_neg hl]
      simp [enc, four]; omega
  · have e : getF 4 left = strF left := rfl
    rw [e] at h ⊢
    have hz := textF_zero (left := left) h
    have hz2 := congrArg List.length hz
    simp only [List.length_append, four_len] at hz2
    show _ = (enc ⟨4, 0, (textF left).2.1, []⟩).length + (textF left).2.2.length
    rw [enc4_len]
    omega
theorem rdF_lenq : ∀ (ks : List Int) (acc : List Fd) (left : List UInt8), (∀ k ∈ ks, k = 2 ∨ k = 3 ∨ k = 4) → (rdF acc ks left).1 = 0 → (encs (rdF acc ks left).2).length = (encs acc).length + left.length
  | [], acc, left, _, h => by
    rw [rdF] at h ⊢
    by_cases e : left = []
    · rw [if_pos e, e]; rfl
    · rw [if_neg e] at h; simp at h
  | k :: r, acc, left, hk, h => by
    rw [rdF] at h ⊢
    by_cases e : (getF k left).1 = 0
    · rw [if_pos e] at h ⊢
      rw [rdF_lenq r _ _ (fun q hq => hk q (by simp [hq])) h, encs_append, List.length_append, getF_len k (hk k (by simp)) left e]
      have : encs [{ (getF k left).2.1 with kind := k }] = enc { (getF k left).2.1 with kind := k } := by simp [encs]
      rw [this]
      omega
    · rw [if_neg e] at h
      exact absurd h e
theorem readF_lenq (k : Rw) {b : List UInt8} (h : (readF k.kinds b).1 = 0) : (encs (readF k.kinds b).2).length = b.length := by
  unfold readF at h ⊢
  rw [if_pos (kinds_okB k)] at h ⊢
  rw [rdF_lenq _ _ _ (kinds_234 k) h]
  simp [encs]
theorem fd4 {f : Fd} (hk : f.kind = 4) (h : Rd f) : (⟨4, 0, (Rw.str f).data.toList, []⟩ : Fd) = f := by
  obtain ⟨k, n, t, l⟩ := f
  simp only at hk
  subst hk
  have h0 : n = 0 := h.zero rfl
  have hl : l = [] := h.list
  subst h0; subst hl
  simp [Rw.str]
theorem fd3 {f : Fd} (hk : f.kind = 3) (h : Rd f) : (⟨3, f.n, [], []⟩ : Fd) = f := by
  obtain ⟨k, n, t, l⟩ := f
  simp only at hk
  subst hk
  have ht : t = [] := h.none (.inr rfl)
  have hl : l = [] := h.list
  subst ht; subst hl
  rfl
theorem fd2 {f : Fd} (hk : f.kind = 2) (h : Rd f) : (⟨2, if decide (f.n = 1) then 1 else 0, [], []⟩ : Fd) = f := by
  obtain ⟨k, n, t, l⟩ := f
  simp only at hk
  subst hk
  have ht : t = [] := h.none (.inl rfl)
  have hl : l = [] := h.list
  have hn : n ≤ 1 := h.bit rfl
  subst ht; subst hl
  have : n = 0 ∨ n = 1 := by omega
  rcases this with rfl | rfl <;> rfl
theorem put_get (k : Rw) {fs : List Fd} (hk : fs.map Fd.kind = k.kinds) (h : ∀ f ∈ fs, Rd f) : (k.put (k.get fs { zeroR with kind := k.kind }) .zero).fs = fs ∧ k.own (k.get fs { zeroR with kind := k.kind }) = k.get fs { zeroR with kind := k.kind } ∧ (k.get fs { zeroR with kind := k.kind }).kind = k.kind := by
  have hl : fs.length = k.kinds.length := by rw [← hk, List.length_map]
  cases k with
  | pty =>
    match fs, hl with
    | [a, b, c, d, e, f], _ =>
      simp only [List.map_cons, List.map_nil, Rw.kinds, List.cons.injEq, and_true] at hk
      obtain ⟨k1, k2, k3, k4, k5, k6⟩ := hk
      refine ⟨?_, rfl, rfl⟩
      show [(⟨4, 0, (Rw.str a).data.toList, []⟩ : Fd), ⟨3, b.n, [], []⟩, ⟨3, c.n, [], []⟩, ⟨3, d.n, [], []⟩, ⟨3, e.n, [], []⟩, ⟨4, 0, f.text, []⟩] = _
      have e6 : (⟨4, 0, f.text, []⟩ : Fd) = f := by have := fd4 k6 (h f (by simp)); simpa [Rw.str] using this
      rw [fd4 k1 (h a (by simp)), fd3 k2 (h b (by simp)), fd3 k3 (h c (by simp)), fd3 k4 (h d (by simp)), fd3 k5 (h e (by simp)), e6]
  | env =>
    match fs, hl with
    | [a, b], _ =>
      simp only [List.map_cons, List.map_nil, Rw.kinds, List.cons.injEq, and_true] at hk
      refine ⟨?_, rfl, rfl⟩
      show [(⟨4, 0, (Rw.str a).data.toList, []⟩ : Fd), ⟨4, 0, (Rw.str b).data.toList, []⟩] = _
      rw [fd4 hk.1 (h a (by simp)), fd4 hk.2 (h b (by simp))]
  | shell =>
    match fs, hl with
    | [], _ => exact ⟨rfl, rfl, rfl⟩
  | exec =>
    match fs, hl with
    | [a], _ =>
      simp only [List.map_cons, List.map_nil, Rw.kinds, List.cons.injEq, and_true] at hk
      refine ⟨?_, rfl, rfl⟩
      show [(⟨4, 0, (Rw.str a).data.toList, []⟩ : Fd)] = _
      rw [fd4 hk (h a (by simp))]
  | subsystem =>
    match fs, hl with
    | [a], _ =>
      simp only [List.map_cons, List.map_nil, Rw.kinds, List.cons.injEq, and_true] at hk
      refine ⟨?_, rfl, rfl⟩
      show [(⟨4, 0, (Rw.str a).data.toList, []⟩ : Fd)] = _
      rw [fd4 hk (h a (by simp))]
  | change =>
    match fs, hl with
    | [b, c, d, e], _ =>
      simp only [List.map_cons, List.map_nil, Rw.kinds, List.cons.injEq, and_true] at hk
      refine ⟨?_, rfl, rfl⟩
      show [(⟨3, b.n, [], []⟩ : Fd), ⟨3, c.n, [], []⟩, ⟨3, d.n, [], []⟩, ⟨3, e.n, [], []⟩] = _
      rw [fd3 hk.1 (h b (by simp)), fd3 hk.2.1 (h c (by simp)), fd3 hk.2.2.1 (h d (by simp)), fd3 hk.2.2.2 (h e (by simp))]
  | xon =>
    match fs, hl with
    | [a], _ =>
      simp only [List.map_cons, List.map_nil, Rw.kinds, List.cons.injEq, and_true] at hk
      refine ⟨?_, rfl, rfl⟩
      show [(⟨2, if decide (a.n = 1) then 1 else 0, [], []⟩ : Fd)] = _
      rw [fd2 hk (h a (by simp))]
  | signal =>
    match fs, hl with
    | [a], _ =>
      simp only [List.map_cons, List.map_nil, Rw.kinds, List.cons.injEq, and_true] at hk
      refine ⟨?_, rfl, rfl⟩
      show [(⟨4, 0, (Rw.str a).data.toList, []⟩ : Fd)] = _
      rw [fd4 hk (h a (by simp))]
  | status =>
    match fs, hl with
    | [a], _ =>
      simp only [List.map_cons, List.map_nil, Rw.kinds, List.cons.injEq, and_true] at hk
      refine ⟨?_, rfl, rfl⟩
      show [(⟨3, a.n, [], []⟩ : Fd)] = _
      rw [fd3 hk (h a (by simp))]
  | ends =>
    match fs, hl with
    | [a, b, c, d], _ =>
      simp only [List.map_cons, List.map_nil, Rw.kinds, List.cons.injEq, and_true] at hk
      refine ⟨?_, rfl, rfl⟩
      show [(⟨4, 0, (Rw.str a).data.toList, []⟩ : Fd), ⟨2, if decide (b.n = 1) then 1 else 0, [], []⟩, ⟨4, 0, (Rw.str c).data.toList, []⟩, ⟨4, 0, (Rw.str d).data.toList, []⟩] = _
      rw [fd4 hk.1 (h a (by simp)), fd2 hk.2.1 (h b (by simp)), fd4 hk.2.2.1 (h c (by simp)), fd4 hk.2.2.2 (h d (by simp))]
/-- What is decoded is encoded under the same name in as many bytes, and decoded as the same. -/
theorem againq_math {s : ByteArray} {b : List UInt8} (h : (decR s b).1 = 0) :
    (decR s b).2.Ok ∧ ∃ k, rowK (decR s b).2.kind Rw.all = some k ∧ s = k.name ∧ (encR (decR s b).2).1 = 0 ∧ (encR (decR s b).2).2.1 = s ∧ (encR (decR s b).2).2.2.length = b.length ∧ decR s (encR (decR s b).2).2.2 = (0, (decR s b).2) ∧ k.own (decR s b).2 = (decR s b).2 := by
  unfold decR at h
  cases hn : rowN s Rw.all with
  | none => rw [hn] at h; simp at h
  | some k =>
    rw [hn] at h
    simp only at h
    have hs := rowN_some hn
    by_cases h1 : (readF k.kinds b).1 = 0
    · rw [if_pos h1] at h
      by_cases hf : (k.put (k.get (readF k.kinds b).2 { zeroR with kind := k.kind }) .zero).fault = 0
      · have hd : decR s b = (0, k.get (readF k.kinds b).2 { zeroR with kind := k.kind }) := by rw [decR, hn]; simp only [h1, hf, if_true]
        have hrd := readF_rd k h1
        have hlen := readF_lenq k h1
        have hpg := put_get k hrd.1 hrd.2
        have hok := get_okq k hrd.1 hrd.2
        rw [hd]
        generalize hfs : (readF k.kinds b).2 = fs at *
        generalize hx : k.get fs { zeroR with kind := k.kind } = x at *
        have hrk : rowK x.kind Rw.all = some k := by rw [hpg.2.2]; exact rowK_kind k
        have hoW := put_okW k hf
        have he : encR x = (0, k.name, encs fs) := by
          rw [encR, hrk]
          simp only [hf, if_true]
          rw [hpg.1] at hoW ⊢
          rw [writeF_ok hoW]
        have hbk := backq_math hok (by rw [he])
        rw [he] at hbk
        obtain ⟨k', e1, e2, e3, _⟩ := hbk
        rw [hrk] at e1
        injection e1 with e1
        subst e1
        refine ⟨hok, k, hrk, hs.symm, by rw [he], by rw [he]; exact hs, by rw [he]; exact hlen, ?_, hpg.2.1⟩
        rw [he, ← hs]
        simp only at e3 ⊢
        rw [e3, hpg.2.1]
      · rw [if_neg hf] at h
        exact absurd h hf
    · rw [if_neg h1] at h
      exact absurd h h1
end Go.Proofs.YtfpkjocoifoigaaGreatDoor
