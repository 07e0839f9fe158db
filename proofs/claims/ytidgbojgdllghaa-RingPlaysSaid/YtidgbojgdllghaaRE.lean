import Derived.Test.YtidgbojgdllghaaRA
namespace Go.Proofs.Ytidgbojgdllghaa
open Go.RowKit

/-- The document's ring: its block, what is in it, the block of that. -/
def Rf (w : World) (base g size : Nat) (q : List UInt8) (ob : Option Nat) : Prop :=
  ∃ A c, Box w g 42 #[.int .i64 size, .slice A q.length c] ∧ w.ownsRow base 5 1 (.slice A q.length c) q.length (bv q) ∧ (Value.slice A q.length c).ownBlock = ob
theorem Rf.keep {w w' : World} {base g size : Nat} {q : List UInt8} {ob : Option Nat} {L : List Nat} (h : Rf w base g size q ob) (k : But L w w') (hg : g ∉ L) (ho : ∀ x, ob = some x → x ∉ L) : Rf w' base g size q ob := by
  obtain ⟨A, c, hx, hown, e⟩ := h
  exact ⟨A, c, k.box hx hg, k.own hown (fun x hx => ho x (e.symm.trans hx)), e⟩
theorem Rf.lt {w : World} {base g size : Nat} {q : List UInt8} {ob : Option Nat} (h : Rf w base g size q ob) : g < w.heap.size ∧ ∀ x, ob = some x → base ≤ x ∧ x < w.heap.size := by
  obtain ⟨A, c, hx, hown, e⟩ := h
  exact ⟨hx.lt, fun x hx => hown.lt x (e.trans hx)⟩

theorem ownblock_some {A : Option Addr} {n c g : Nat} (h : (Value.slice A n c).ownBlock = some g) : ∃ a, A = some a ∧ a.block = g := by
  cases A with
  | none => simp [Value.ownBlock] at h
  | some a => exact ⟨a, rfl, by simpa [Value.ownBlock] using h⟩

set_option maxHeartbeats 2000000 in
set_option maxRecDepth 100000 in
theorem rnew_bad (w : World) (n : Int) (hn : n < 1 ∨ 65536 < n) : Calls Try.prog 10 #[.int .i64 n] w fun e w' => e = .returned (.tuple #[.pointer none, .int .i64 2]) ∧ w' = w := by
  rcases hn with h | h
  · go_enter Try.func10, Try.ntmps10
    go_wp2
    go_ret2
    exact ⟨rfl, rfl⟩
  · have h1 : ¬ (n < 1) := by omega
    go_enter Try.func10, Try.ntmps10
    go_wp2
    go_ret2
    exact ⟨rfl, rfl⟩
set_option maxHeartbeats 2000000 in
set_option maxRecDepth 100000 in
theorem rnew_any (w : World) (n : Nat) (h1 : 1 ≤ n) (h2 : n ≤ 65536) : Calls Try.prog 10 #[.int .i64 n] w fun e w' => ∃ g, e = .returned (.tuple #[.pointer (some ⟨g, 0, none⟩), .int .i64 0]) ∧ Hid (∀ base, Rf w' base g n [] none) ∧ w.heap.size ≤ g ∧ Hid (Below w.heap.size w w') := by
  have k1 : ¬ ((n : Int) < 1) := by omega
  have k2 : ¬ ((65536 : Int) < n) := by omega
  go_enter Try.func10, Try.ntmps10
  go_wp2
  go_ret2
  refine ⟨_, rfl, fun base => ⟨none, 0, Box.new w 42 _, World.ownsRow_nil _ _ _ _, rfl⟩, Nat.le_refl _, (Below.refl _ _).alloc (Nat.le_refl _) _⟩

theorem cell_own {w : World} {base n c g : Nat} {q : List UInt8} (_hl : q.length = n) (h : w.ownsRow base 5 1 (.slice (some ⟨g, 0, none⟩) n c) n (bv q)) (k : Nat) (hk : k < q.length) : w.cell? ⟨g, k, none⟩ = some (.int .u8 (q[k].toNat : Int)) := by
  have := h.cells (g := g) rfl k (.int .u8 (q[k].toNat : Int)) (by simp [bv, List.getElem?_map, List.getElem?_eq_getElem hk])
  rw [Addr.add_lit] at this
  simpa using this
theorem own_addr {w : World} {base n c : Nat} {A : Option Addr} {xs : List Value} (h : w.ownsRow base 5 1 (.slice A n c) n xs) (hn : 0 < n) : ∃ g, A = some ⟨g, 0, none⟩ := by
  rcases h.2 with ⟨_, h0⟩ | ⟨g, cap, cur, hv, _⟩
  · omega
  · injection hv with hv
    exact ⟨g, hv⟩
set_option maxHeartbeats 2000000 in
set_option maxRecDepth 100000 in
theorem rpeek_any (w : World) {base g size : Nat} {q : List UInt8} {ob : Option Nat} (n : Int) (hr : Hid (Rf w base g size q ob)) (hq : q.length ≤ 65536) :
    Calls Try.prog 24 #[.pointer (some ⟨g, 0, none⟩), .int .i64 n] w fun e w' => ∃ A c, e = .returned (.slice A (had n q.length) c) ∧ Hid (w'.ownsRow w.heap.size 5 1 (.slice A (had n q.length) c) (had n q.length) (bv (q.take (had n q.length)))) ∧ Hid (Below w.heap.size w w') := by
  obtain ⟨i0, hi0, hz0, hz1, hz2⟩ := info_parts Try.info5
  obtain ⟨m, HM⟩ : ∃ m, Hid (had n q.length = m) := ⟨_, hid rfl⟩
  have hm := had_le n q.length
  rw [HM.out] at hm ⊢
  obtain ⟨A0, c0, hx, hown, _⟩ := hr.out
  obtain ⟨ql, HQL⟩ : ∃ x, Hid (q.length = x) := ⟨_, hid rfl⟩
  rw [HQL.out] at hx hown hq hm
  have HX := hid hx
  have HO := hid hown
  clear hx hown
  go_enter Try.func24, Try.ntmps24
  go_wp2
  go_loopw [5, 6] (fun o i wr => ∃ (k : Nat) (A : Option Addr) (c : Nat), k ≤ m ∧ i = .int .i64 k ∧ o = .slice A k c ∧ Hid (wr.ownsRow w.heap.size 5 1 (.slice A k c) k (bv (q.take k))) ∧ Hid (Below w.heap.size w wr)) (fun _ i _ => m - (intOf i).toNat)
  case atStart => exact ⟨0, none, 0, Nat.zero_le _, rfl, rfl, World.ownsRow_nil _ _ _ _, Below.refl _ _⟩
  case round =>
    obtain ⟨k, A, c, hk, rfl, rfl, HOk, HBk⟩ := hrel
    have hxr := box_below HX.out HBk.out
    have cb := hxr.cell 1
    clear hxr
    by_cases hlt : k < m
    · have t1 : (k : Int) < n := by have := HM.out; unfold had at this; omega
      have t2 : (k : Int) < ql := by omega
      obtain ⟨gb, rfl⟩ := own_addr HO.out (by omega)
      have hkq : k < q.length := by rw [HQL.out]; omega
      have cc : wr.cell? ⟨gb, k, none⟩ = some (.int .u8 (q[k].toNat : Int)) := cell_own HQL.out (own_keep HO.out HBk.out) k hkq
      obtain ⟨z, HZ⟩ : ∃ z : Int, Hid ((q[k].toNat : Int) = z) := ⟨_, hid rfl⟩
      rw [HZ.out] at cc
      have HOk' : Hid ((wr.alloc (.cells #[.int .u8 z] 5)).ownsRow w.heap.size 5 1 (.slice A k c) k (bv (q.take k))) := HOk.out.alloc _
      have hsz := HBk.out.size
      have HT : Hid (bv (q.take k) ++ [.int .u8 z] = bv (q.take (k + 1))) := by
        show _ = _
        rw [take_snoc _ _ hkq, bv_append, ← HZ.out]
        rfl
      go_wp2_with (first
        | (at_builtin
           (refine wpList_app _ rfl (.tmp 21) (.tmp 29) 32 rfl w.heap.size 5 i0 _ 1 1 Try.underlying32 hi0 hz0 hz1 hz2 rfl (by decide) A k c (bv (q.take k)) rfl HOk'.out (wr.heap.size + 1) (some ⟨wr.heap.size, 0, none⟩) 1 1 [.int .u8 z] rfl rfl (lies_lit wr #[.int .u8 z] 5) (by intro u hu; simp at hu; subst hu; rfl) (by unfold maxLen; omega) (by omega) (by simp; omega) ?_
            intro A8 c8 w8 ho8 hg8
            have HO8 : Hid (w8.ownsRow w.heap.size 5 1 (.slice A8 (k + 1) c8) (k + 1) (bv (q.take (k + 1)))) := by rw [HT.out] at ho8; exact ho8
            have HB8 : Hid (Below w.heap.size w w8) := app_bel (HBk.out.alloc hsz _) HOk'.out hg8
            clear ho8 hg8)))
      go_roundw
      case rel => exact ⟨k + 1, A8, c8, by omega, by go_num, by go_num, HO8, HB8⟩
      case measure => simp [intOf]; omega
    · have hkm : k = m := by omega
      subst hkm
      by_cases t1 : (k : Int) < n
      · have t2 : ¬ ((k : Int) < ql) := by have := HM.out; unfold had at this; rw [HQL.out] at this; omega
        go_wp2
        go_ret
        exact ⟨_, _, rfl, HOk, HBk⟩
      · go_wp2
        go_ret
        exact ⟨_, _, rfl, HOk, HBk⟩
end Go.Proofs.Ytidgbojgdllghaa
