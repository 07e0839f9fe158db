import Derived.Test.YtibkbcffoabhfaaKQ
namespace Go.Proofs.Ytibkbcffoabhfaa
open Go.RowKit

/-- The cells of the document's queue. -/
def rqC (C : Cf) (v : Value) (ov : Bool) : Array Value := #[.int .i64 C.b, .int .i64 C.r, .int .i64 C.h, .int .i64 C.l, v, .bool ov]
/-- The document's queue. -/
structure Rq (w : World) (S : Nat → Prop) (C : Cf) (g : Nat) (rb : Option Nat) (L : List (List UInt8)) (ov : Bool) : Prop where
  ok : C.ok
  sum : sumB L ≤ C.b
  cnt : L.length ≤ C.r
  body : ∃ A c, Box w g 45 (rqC C (.slice A L.length c) ov) ∧ Wn w S A L.length c rb L
section
variable {w w' : World} {S S' : Nat → Prop} {C : Cf} {g : Nat} {rb : Option Nat} {L : List (List UInt8)} {ov : Bool} {K : List Nat}
theorem Rq.keep (h : Rq w S C g rb L ov) (k : But K w w') (hg : g ∉ K) (hr : ∀ x, rb = some x → x ∉ K) (hS : ∀ x, x < w.heap.size → S x → x ∉ K) : Rq w' S C g rb L ov := by
  obtain ⟨A, c, h1, h2⟩ := h.body
  exact ⟨h.ok, h.sum, h.cnt, A, c, k.box h1 hg, h2.keep k hr hS⟩
theorem Rq.mono (h : Rq w S C g rb L ov) (hS : ∀ x, x < w.heap.size → S x → S' x) : Rq w S' C g rb L ov := by
  obtain ⟨A, c, h1, h2⟩ := h.body
  exact ⟨h.ok, h.sum, h.cnt, A, c, h1, h2.mono hS⟩
theorem Rq.lt (h : Rq w S C g rb L ov) : g < w.heap.size ∧ ∀ x, rb = some x → x < w.heap.size := by
  obtain ⟨A, c, h1, h2⟩ := h.body
  exact ⟨h1.lt, h2.lt⟩
theorem Rq.keep0 (h : Rq w S C g rb L ov) (k : But [] w w') : Rq w' S C g rb L ov := h.keep k (by simp) (by simp) (by simp)
end
theorem Rq.other {w w' : World} {S : Nat → Prop} {C : Cf} {g : Nat} {rb : Option Nat} {L : List (List UInt8)} {ov : Bool} {K : List Nat} (h : Rq w S C g rb L ov) (k : But K w w') (hg : g ∉ K) (hr : ∀ x, rb = some x → x ∉ K) (hK : ∀ y ∈ K, ∃ t cs, t ≠ 5 ∧ Box w y t cs) : Rq w' S C g rb L ov := by
  obtain ⟨A, c, h1, h2⟩ := h.body
  exact ⟨h.ok, h.sum, h.cnt, A, c, k.box h1 hg, ((h2.far hK).keep k hr (fun x _ hx => hx.2)).mono (fun x _ hx => hx.1)⟩
theorem Rq.types {w : World} {S : Nat → Prop} {C : Cf} {g : Nat} {rb : Option Nat} {L : List (List UInt8)} {ov : Bool} (h : Rq w S C g rb L ov) : ∀ y ∈ g :: rb.toList, ∃ t cs, t ≠ 5 ∧ Box w y t cs := by
  obtain ⟨A, c, h1, h2⟩ := h.body
  intro y hy
  rcases List.mem_cons.1 hy with rfl | hy
  · exact ⟨45, _, by decide, h1⟩
  · obtain ⟨cs, hb⟩ := h2.box y (by simpa using hy)
    exact ⟨34, cs, by decide, hb⟩
theorem sumB_le {L : List (List UInt8)} : ∀ k, sumB (L.take k) ≤ sumB L := by
  induction L with
  | nil => simp [sumB]
  | cons x r ih =>
    intro k
    cases k with
    | zero => simp [sumB]
    | succ k => simp only [List.take_succ_cons, sumB]; have := ih k; omega
section
variable (w : World) {S : Nat → Prop} {C : Cf} {g : Nat} {rb : Option Nat} {L : List (List UInt8)} {ov : Bool}
set_option maxHeartbeats 2000000 in
set_option maxRecDepth 100000 in
theorem rused_any {s : Nat} (hs : Hid (sumB L = s)) (hq : Hid (Rq w S C g rb L ov)) : Calls Try.prog 16 #[.pointer (some ⟨g, 0, none⟩)] w fun e w' => e = .returned (.int .i64 s) ∧ w' = w := by
  obtain ⟨n, HN⟩ : ∃ n, Hid (L.length = n) := ⟨_, hid rfl⟩
  obtain ⟨A, c, h1, h2⟩ := hq.out.body
  have hok := hq.out.ok
  have hsum := hq.out.sum
  have hcnt := hq.out.cnt
  unfold Cf.ok at hok
  rw [hs.out] at hsum
  rw [HN.out] at h1 h2 hcnt
  have hs6 : s ≤ 65536 := by omega
  have hn6 : n ≤ 4096 := by omega
  have c4 := h1.cell 4
  unfold rqC at c4
  have HR : Hid (Wn w S A n c rb L) := h2
  clear h1 h2 hok hsum hcnt
  go_enter Try.func16, Try.ntmps16
  go_wp2
  go_loopw [3, 11] (fun t i wr => ∃ (k z : Nat), k ≤ n ∧ i = .int .i64 k ∧ t = .int .i64 z ∧ wr = w ∧ Hid (sumB (L.take k) = z)) (fun _ i _ => n - (intOf i).toNat)
  case atStart => exact ⟨0, 0, Nat.zero_le _, rfl, rfl, by trivial, rfl⟩
  case round =>
    obtain ⟨k, z, hk, rfl, rfl, rfl, HZ⟩ := hrel
    have hzs : z ≤ s := by
      have := sumB_le (L := L) k
      rw [HZ.out, hs.out] at this
      exact this
    by_cases hlt : k < n
    · have hkl : k < L.length := by rw [HN.out]; exact hlt
      rcases HR.out.row with ⟨_, e, _⟩ | ⟨r, f, cur, rfl, _, hb, hsz, he⟩
      · have := HR.out.le
        omega
      · obtain ⟨u, hu, tA, tc, rfl, ho, _⟩ := he k hkl
        have hcp := own_caps ho
        obtain ⟨x, HX⟩ : ∃ x : Nat, Hid (L[k].length = x) := ⟨_, hid rfl⟩
        have cc : wr.cell? ⟨r, f + k, none⟩ = some (.slice tA x tc) := by
          rw [hb.cell, ← HX.out]
          exact hu
        have HZ2 : Hid (sumB (L.take (k + 1)) = z + x) := by
          show _ = _
          rw [take_snoc _ _ hkl, sumB_app, HZ.out, HX.out]
        have hx6 : z + x ≤ s := by
          have := sumB_le (L := L) (k + 1)
          rw [HZ2.out, hs.out] at this
          exact this
        have i1 : (k : Int) < n := by omega
        clear hb he hu ho hcp
        go_wp2
        go_roundw
        case rel => exact ⟨k + 1, z + x, by omega, by go_num, by go_num, by trivial, HZ2.out⟩
        case measure => simp [intOf]; omega
    · have e : z = s := by
        rw [← HZ.out, ← hs.out, List.take_of_length_le (by rw [HN.out]; omega)]
      subst e
      have j1 : ¬ ((k : Int) < n) := by omega
      go_wp2
      go_ret
      exact ⟨rfl, rfl⟩
set_option maxHeartbeats 1000000 in
set_option maxRecDepth 100000 in
theorem rfront_any {n : Nat} {ok : Bool} {out : List UInt8} (hq : Hid (Rq w S C g rb L ov)) (hf : Hid (frontF L = (out, ok))) (hn : Hid (out.length = n)) :
    Calls Try.prog 25 #[.pointer (some ⟨g, 0, none⟩)] w fun e w' => ∃ A' c', e = .returned (.tuple #[.slice A' n c', .bool ok]) ∧ Hid (w'.ownsRow 0 5 1 (.slice A' n c') n (bv out)) ∧ w' = w := by
  cases L with
  | nil =>
    have e := hf.out
    rw [frontF] at e
    injection e with e1 e2
    subst e1; subst e2
    have hn0 := hn.out
    have e3 : n = 0 := by rw [← hn0]; rfl
    subst e3
    obtain ⟨A, c, h1, _⟩ := hq.out.body
    have c4 := h1.cell 4
    unfold rqC at c4
    clear h1
    go_enter Try.func25, Try.ntmps25
    go_wp2
    go_ret2
    exact ⟨none, 0, rfl, World.ownsRow_nil _ _ _ _, rfl⟩
  | cons b L =>
    have e := hf.out
    rw [frontF] at e
    injection e with e1 e2
    subst e1; subst e2
    obtain ⟨m, HM⟩ : ∃ m, Hid ((b :: L).length = m) := ⟨_, hid rfl⟩
    obtain ⟨A, c, h1, h2⟩ := hq.out.body
    rw [HM.out] at h1 h2
    have hm : m = L.length + 1 := by rw [← HM.out]; rfl
    have hmi : ((m : Int) == 0) = false := by simp; omega
    have hml := h2.le
    have c4 := h1.cell 4
    unfold rqC at c4
    rcases h2.row with ⟨_, e, _⟩ | ⟨r, f, cur, rfl, _, hb, hs, he⟩
    · omega
    · obtain ⟨u, hu, tA, tc, rfl, ho, _⟩ := he 0 (by simp)
      have cr : w.cell? ⟨r, f, none⟩ = some (.slice tA n tc) := by
        rw [hb.cell]
        rw [← hn.out]
        simpa using hu
      have HO : Hid (w.ownsRow 0 5 1 (.slice tA n tc) n (bv b)) := by
        show World.ownsRow _ _ _ _ _ _ _
        rw [← hn.out]
        simpa using ho
      have i0 : (0 : Int) < m := by omega
      clear hu he h1 h2 ho hb
      go_enter Try.func25, Try.ntmps25
      go_wp2
      go_ret2
      exact ⟨tA, tc, rfl, HO, rfl⟩
set_option maxHeartbeats 2000000 in
set_option maxRecDepth 100000 in
theorem rnew_any (S : Nat → Prop) (hok : Hid C.ok) : Calls Try.prog 10 #[.int .i64 C.b, .int .i64 C.r, .int .i64 C.h, .int .i64 C.l] w fun e w' => ∃ g, e = .returned (.tuple #[.pointer (some ⟨g, 0, none⟩), .int .i64 0]) ∧ Hid (Rq w' S C g none [] false) ∧ w.heap.size ≤ g ∧ Hid (Below w.heap.size w w') := by
  have h0 := hok.out
  obtain ⟨b, r, h, l⟩ := C
  unfold Cf.ok at h0
  simp only at h0 ⊢
  have n0 : ¬ ((b : Int) < 1) := by omega
  have n1 : ¬ ((65536 : Int) < b) := by omega
  have n2 : ¬ ((r : Int) < 1) := by omega
  have n3 : ¬ ((4096 : Int) < r) := by omega
  have n4 : ¬ ((l : Int) < 0) := by omega
  have n5 : ¬ ((h : Int) ≤ l) := by omega
  have n6 : ¬ ((b : Int) < h) := by omega
  go_enter Try.func10, Try.ntmps10
  go_wp2
  go_ret2
  exact ⟨_, rfl, ⟨hok.out, Nat.zero_le _, Nat.zero_le _, none, 0, Box.new w 45 _, Wn.nil _ _⟩, Nat.le_refl _, (Below.refl _ _).alloc (Nat.le_refl _) _⟩
end
set_option maxHeartbeats 2000000 in
set_option maxRecDepth 100000 in
theorem rnew_bad (w : World) (b r h l : Int) (hb : ¬ okI b r h l) : Calls Try.prog 10 #[.int .i64 b, .int .i64 r, .int .i64 h, .int .i64 l] w fun e w' => e = .returned (.tuple #[.pointer none, .int .i64 2]) ∧ w' = w := by
  rcases ok_or b r h l with h0 | h0 | h0 | h0 | h0 | h0 | h0 | h0
  · exact absurd h0 hb
  · have t0 := h0
    clear hb
    go_enter Try.func10, Try.ntmps10
    go_wp2
    go_ret2
    exact ⟨rfl, rfl⟩
  · obtain ⟨n0, t1⟩ := h0
    clear hb
    go_enter Try.func10, Try.ntmps10
    go_wp2
    go_ret2
    exact ⟨rfl, rfl⟩
  · obtain ⟨n0, n1, t2⟩ := h0
    clear hb
    go_enter Try.func10, Try.ntmps10
    go_wp2
    go_ret2
    exact ⟨rfl, rfl⟩
  · obtain ⟨n0, n1, n2, t3⟩ := h0
    clear hb
    go_enter Try.func10, Try.ntmps10
    go_wp2
    go_ret2
    exact ⟨rfl, rfl⟩
  · obtain ⟨n0, n1, n2, n3, t4⟩ := h0
    clear hb
    go_enter Try.func10, Try.ntmps10
    go_wp2
    go_ret2
    exact ⟨rfl, rfl⟩
  · obtain ⟨n0, n1, n2, n3, n4, t5⟩ := h0
    clear hb
    go_enter Try.func10, Try.ntmps10
    go_wp2
    go_ret2
    exact ⟨rfl, rfl⟩
  · obtain ⟨n0, n1, n2, n3, n4, n5, t6⟩ := h0
    clear hb
    go_enter Try.func10, Try.ntmps10
    go_wp2
    go_ret2
    exact ⟨rfl, rfl⟩
end Go.Proofs.Ytibkbcffoabhfaa
