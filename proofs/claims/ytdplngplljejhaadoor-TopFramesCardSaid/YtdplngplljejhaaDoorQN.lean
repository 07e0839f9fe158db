import Derived.Test.YtdplngplljejhaaDoorQM
import Derived.Test.YtdplngplljejhaaDoorMG
namespace Go.Proofs.YtdplngplljejhaaDoor
open Go.RowKit

/-- What a field of one of the kinds 2, 3, 4 that was read is like. -/
structure Rd (f : Fd) : Prop where
  n : f.n < 4294967296
  text : f.text.length ≤ 32768
  list : f.list = []
  bit : f.kind = 2 → f.n ≤ 1
  none : f.kind = 2 ∨ f.kind = 3 → f.text = []
  zero : f.kind = 4 → f.n = 0
theorem getF_rd (k : Int) (hk : k = 2 ∨ k = 3 ∨ k = 4) (left : List UInt8) : Rd { (getF k left).2.1 with kind := k } := by
  rcases hk with rfl | rfl | rfl
  · cases left with
    | nil => exact ⟨by show (0 : Nat) < _; omega, Nat.zero_le _, rfl, fun _ => Nat.zero_le _, fun _ => rfl, fun h => by simp at h⟩
    | cons a r =>
      have h1 : min a.toNat 1 ≤ 1 := by omega
      exact ⟨by show min a.toNat 1 < _; omega, Nat.zero_le _, rfl, fun _ => h1, fun _ => rfl, fun h => by simp at h⟩
  · show Rd { (u32F left).2.1 with kind := 3 }
    unfold u32F
    split
    · exact ⟨by show (0 : Nat) < _; omega, Nat.zero_le _, rfl, fun _ => Nat.zero_le _, fun _ => rfl, fun h => by simp at h⟩
    · exact ⟨num4_lt left, Nat.zero_le _, rfl, fun h => by simp at h, fun _ => rfl, fun h => by simp at h⟩
  · show Rd { (strF left).2.1 with kind := 4 }
    exact ⟨by show (0 : Nat) < _; omega, textF_len left, rfl, fun h => by simp at h, fun h => by simp at h, fun _ => rfl⟩
theorem rdF_rd : ∀ (ks : List Int) (acc : List Fd) (left : List UInt8), (∀ k ∈ ks, k = 2 ∨ k = 3 ∨ k = 4) → (rdF acc ks left).1 = 0 → ∃ xs, (rdF acc ks left).2 = acc ++ xs ∧ xs.map Fd.kind = ks ∧ ∀ f ∈ xs, Rd f
  | [], acc, left, _, h => by
    rw [rdF] at h ⊢
    by_cases e : left = []
    · rw [if_pos e]; exact ⟨[], by simp, rfl, by simp⟩
    · rw [if_neg e] at h; simp at h
  | k :: r, acc, left, hk, h => by
    rw [rdF] at h ⊢
    by_cases e : (getF k left).1 = 0
    · rw [if_pos e] at h ⊢
      obtain ⟨xs, h1, h2, h3⟩ := rdF_rd r _ _ (fun q hq => hk q (by simp [hq])) h
      refine ⟨{ (getF k left).2.1 with kind := k } :: xs, by rw [h1]; simp, by simp [h2], fun f hf => ?_⟩
      rcases List.mem_cons.1 hf with rfl | hf
      · exact getF_rd k (hk k (by simp)) left
      · exact h3 f hf
    · rw [if_neg e] at h
      exact absurd h e
theorem kinds_234 (k : Rw) : ∀ q ∈ k.kinds, q = 2 ∨ q = 3 ∨ q = 4 := by cases k <;> simp [Rw.kinds]
theorem kinds_okB (k : Rw) : kindsB (k.kinds.map kfd) = true := by cases k <;> rfl
theorem readF_rd (k : Rw) {b : List UInt8} (h : (readF k.kinds b).1 = 0) : (readF k.kinds b).2.map Fd.kind = k.kinds ∧ ∀ f ∈ (readF k.kinds b).2, Rd f := by
  unfold readF at h ⊢
  rw [if_pos (kinds_okB k)] at h ⊢
  obtain ⟨xs, h1, h2, h3⟩ := rdF_rd _ _ _ (kinds_234 k) h
  rw [h1]
  exact ⟨by simpa using h2, by simpa using h3⟩
theorem str_size (f : Fd) : (Rw.str f).size = f.text.length := by show f.text.toArray.size = _; simp
theorem str_ok {f : Fd} (h : Rd f) : (Rw.str f).size ≤ maxLen := by rw [str_size]; have := h.text; unfold maxLen; omega
theorem get_okq (k : Rw) {fs : List Fd} (hk : fs.map Fd.kind = k.kinds) (h : ∀ f ∈ fs, Rd f) : (k.get fs { zeroR with kind := k.kind }).Ok := by
  have hl : fs.length = k.kinds.length := by rw [← hk, List.length_map]
  have hb := kind_bd k
  have hkd : -9223372036854775808 ≤ k.kind ∧ k.kind ≤ 9223372036854775807 := by omega
  have z0 : (0 : Nat) < 4294967296 := by omega
  have zs : (⟨#[]⟩ : ByteArray).size ≤ maxLen := Nat.zero_le _
  cases k with
  | pty =>
    match fs, hl with
    | [a, b, c, d, e, f], _ => exact ⟨hkd, str_ok (h a (by simp)), zs, zs, (h b (by simp)).n, (h c (by simp)).n, (h d (by simp)).n, (h e (by simp)).n, z0⟩
  | env =>
    match fs, hl with
    | [a, b], _ => exact ⟨hkd, str_ok (h a (by simp)), str_ok (h b (by simp)), zs, z0, z0, z0, z0, z0⟩
  | shell => exact ⟨hkd, zs, zs, zs, z0, z0, z0, z0, z0⟩
  | exec =>
    match fs, hl with
    | [a], _ => exact ⟨hkd, str_ok (h a (by simp)), zs, zs, z0, z0, z0, z0, z0⟩
  | subsystem =>
    match fs, hl with
    | [a], _ => exact ⟨hkd, str_ok (h a (by simp)), zs, zs, z0, z0, z0, z0, z0⟩
  | change =>
    match fs, hl with
    | [b, c, d, e], _ => exact ⟨hkd, zs, zs, zs, (h b (by simp)).n, (h c (by simp)).n, (h d (by simp)).n, (h e (by simp)).n, z0⟩
  | xon =>
    match fs, hl with
    | [a], _ => exact ⟨hkd, zs, zs, zs, z0, z0, z0, z0, z0⟩
  | signal =>
    match fs, hl with
    | [a], _ => exact ⟨hkd, str_ok (h a (by simp)), zs, zs, z0, z0, z0, z0, z0⟩
  | status =>
    match fs, hl with
    | [a], _ => exact ⟨hkd, zs, zs, zs, z0, z0, z0, z0, (h a (by simp)).n⟩
  | ends =>
    match fs, hl with
    | [a, b, c, d], _ => exact ⟨hkd, str_ok (h a (by simp)), str_ok (h c (by simp)), str_ok (h d (by simp)), z0, z0, z0, z0, z0⟩
theorem lt_own {w : World} {b n c : Nat} {A : Option Addr} {cs : List Value} (h : w.ownsRow b 80 4 (.slice A n c) n cs) (base : Nat) : LT w base 80 A cs := fun hne => by
  obtain ⟨g, o, rfl, hlt, hc⟩ := Lies.own h hne
  obtain ⟨_, cur, hx⟩ := own_box h g rfl
  exact ⟨g, o, rfl, hlt, .inr ⟨cur, _, hx⟩, hc⟩
theorem tk_own {w : World} {b base c : Nat} {A : Option Addr} {bs : List UInt8} (h : w.ownsRow b 5 1 (.slice A bs.length c) bs.length (bv bs)) : TK w base A c bs := by
  have hc := own_caps h
  refine ⟨hc.1, hc.2, fun hne => ?_⟩
  obtain ⟨g, o, rfl, hlt, hcc⟩ := Lies.own h (by simpa [bv] using hne)
  obtain ⟨_, cur, hx⟩ := own_box h g rfl
  exact ⟨g, o, rfl, hlt, .inr ⟨cur, _, hx⟩, hcc⟩
/-- A reader of which only the kind and the fields were set. -/
theorem rd_new (w : World) (base c : Nat) (k : Int) (A : Option Addr) (fs : List Fd) (cs : List Value) (hb : base ≤ w.heap.size) (b : Nat) (ho : w.ownsRow b 80 4 (.slice A fs.length c) fs.length cs) (hbb : base ≤ b) (hf : FlatF w b fs cs) :
    RdS (w.alloc (.cells (({ zeroR with kind := k } : Rq).rcells none 0 A fs.length c) 69)) base w.heap.size { zeroR with kind := k } fs :=
  ⟨hb, none, 0, A, c, cs, Box.new w 69 _, World.ownsRow_nil _ _ _ _, own_caps ho, (lt_own ho base).below (bel1 w _), flat_keep (FlatF.base hbb _ _ hf) (bel1 w _)⟩
theorem bel_elf {w w' : World} {g : Nat} (h : Below w.heap.size w w') (hg : w.heap.size ≤ g) (a0 a1 a2 a3 a4 a5 a6 a7 a8 a9 a10 : Value) : Below w.heap.size w (((((((((((w'.setCell ⟨g, 0, none⟩ a0).setCell ⟨g, 1, none⟩ a1).setCell ⟨g, 2, none⟩ a2).setCell ⟨g, 3, none⟩ a3).setCell ⟨g, 4, none⟩ a4).setCell ⟨g, 5, none⟩ a5).setCell ⟨g, 6, none⟩ a6).setCell ⟨g, 7, none⟩ a7).setCell ⟨g, 8, none⟩ a8).setCell ⟨g, 9, none⟩ a9).setCell ⟨g, 10, none⟩ a10) :=
  ((((((((((h.setCell hg _).setCell hg _).setCell hg _).setCell hg _).setCell hg _).setCell hg _).setCell hg _).setCell hg _).setCell hg _).setCell hg _).setCell hg _
theorem kept_elf {w : World} {B g : Nat} {t : TypeId} {cs : Array Value} (h : Box w g t cs) (hg : B ≤ g) (a0 a1 a2 a3 a4 a5 a6 a7 a8 a9 a10 : Value) : Kept B [t] w (((((((((((w.setCell ⟨g, 0, none⟩ a0).setCell ⟨g, 1, none⟩ a1).setCell ⟨g, 2, none⟩ a2).setCell ⟨g, 3, none⟩ a3).setCell ⟨g, 4, none⟩ a4).setCell ⟨g, 5, none⟩ a5).setCell ⟨g, 6, none⟩ a6).setCell ⟨g, 7, none⟩ a7).setCell ⟨g, 8, none⟩ a8).setCell ⟨g, 9, none⟩ a9).setCell ⟨g, 10, none⟩ a10) := by
  have hs : ∀ {w : World} {cs : Array Value} (_ : Box w g t cs) (i : Nat) (u : Value), Kept B [t] w (w.setCell ⟨g, i, none⟩ u) := fun h i u => (Kept.refl _ _ _).store h hg (by simp) u
  have x0 := hs h 0 a0
  have y0 := h.store 0 a0
  have x1 := hs y0 1 a1
  have y1 := y0.store 1 a1
  have x2 := hs y1 2 a2
  have y2 := y1.store 2 a2
  have x3 := hs y2 3 a3
  have y3 := y2.store 3 a3
  have x4 := hs y3 4 a4
  have y4 := y3.store 4 a4
  have x5 := hs y4 5 a5
  have y5 := y4.store 5 a5
  have x6 := hs y5 6 a6
  have y6 := y5.store 6 a6
  have x7 := hs y6 7 a7
  have y7 := y6.store 7 a7
  have x8 := hs y7 8 a8
  have y8 := y7.store 8 a8
  have x9 := hs y8 9 a9
  have y9 := y8.store 9 a9
  have x10 := hs y9 10 a10
  have y10 := y9.store 10 a10
  exact ((((((((((x0.trans x1).trans x2).trans x3).trans x4).trans x5).trans x6).trans x7).trans x8).trans x9).trans x10)
end Go.Proofs.YtdplngplljejhaaDoor
