import Derived.Test.YtjncahcigbdbgabLA
namespace Go.Proofs.Ytjncahcigbdbgab
open Go.RowKit

/-! The law's helpers: lines in another type. -/
theorem Try.info37 : (Try.prog.info? 37).map (fun i => (i.zero, i.size, i.bytes)) = some (some (.agg #[.slice none 0 0, .bool false]), 2, 32) := by kernel_rfl
theorem Try.info30 : (Try.prog.info? 30).map (fun i => (i.zero, i.size, i.bytes)) = some (some (.agg #[.slice none 0 0, .bool false]), 2, 32) := by kernel_rfl
theorem Try.info25 : (Try.prog.info? 25).map (fun i => (i.zero, i.size, i.bytes)) = some (some (.agg #[.slice none 0 0, .bool false]), 2, 32) := by kernel_rfl
/-- A record is put behind a row of the call's own. -/
theorem app_rec {ops : Array Oper} {rest : List Oper} {o : Oper} {a : Act} {Q : Exit → Act → World → Prop} (T E : TypeId) (hT : Try.prog.underlying T = some (.slice E)) (hE : (Try.prog.info? E).map (fun i => (i.zero, i.size, i.bytes)) = some (some (.agg #[.slice none 0 0, .bool false]), 2, 32)) (W : World) (hgd : o.guard = none) (s x : Operand) (ho : o.op = .call { callee := .builtin .append, args := #[s, x], argTypes := #[T, T] })
    (base n m c : Nat) (A : Option Addr) (xs ys : List Rc) (hs : a.eval s = .slice A n c) (hown : Hid (W.ownsRow base E 2 (.slice A n c) n (rcV xs))) (hb : base ≤ W.heap.size) (A2 : Option Addr) (c2 : Nat) (hx : a.eval x = .slice A2 m c2) (hL : Hid (Lies W W.heap.size A2 (rcV ys))) (hy : ys.length = m) (hm : n + m ≤ 4398046511104)
    (h : ∀ A' c' w', Hid (w'.ownsRow base E 2 (.slice A' (n + m) c') (n + m) (rcV (xs ++ ys))) → Hid (Kept base [E] W w') → wpList Try.prog ops Q rest (a.put o.dst (.slice A' (n + m) c')) w') : wpList Try.prog ops Q (o :: rest) a W := by
  obtain ⟨i0, hi0, hz0, hz1, hz2⟩ := info_parts hE
  refine wpList_app _ hgd s x T ho base E i0 _ 2 32 hT hi0 hz0 hz1 hz2 rfl (by decide) A n c (rcV xs) hs hown.out W.heap.size A2 m c2 (rcV ys) hx (by rw [rcV_len, hy]) hL.out (rcV_cell ys) (by unfold maxLen; omega) (by omega) hb ?_
  intro A3 c3 u2 ho2 hg2
  rw [← rcV_append] at ho2
  have hk : Kept base [E] W u2 := (Kept.refl base [E] W).grown hg2 (fun k hk => by obtain ⟨a, cs, b⟩ := own_box hown.out k hk; exact ⟨a, E, cs, by simp, b⟩)
  exact h A3 c3 u2 (hid ho2) (hid hk)
theorem lies_rec (W : World) (E : TypeId) (r : Rc) (cs : Array Value) (g : Nat) (hg : g = W.heap.size) (hc : r.v.toArray = cs) : Lies (W.alloc (.cells cs E)) (W.alloc (.cells cs E)).heap.size (some ⟨g, 0, none⟩) (rcV [r]) := by
  subst hc hg
  have := lies_lit W r.v.toArray E
  rw [World.size_alloc, rcV_one]
  simpa using this
set_option maxRecDepth 100000 in
set_option maxHeartbeats 2000000 in
theorem ref_any (w : World) (A : Option Addr) (n c : Nat) (rs : List Rc) (hl : Hid (LnV w w.heap.size A c rs)) (hn : rs.length = n) (hm : n ≤ 1000) :
    Calls Try.prog 12 #[.slice A n c] w fun e w' => ∃ A2 c2, e = .returned (.slice A2 n c2) ∧ Hid (w'.ownsRow w.heap.size 37 2 (.slice A2 n c2) n (rcV rs)) ∧ Hid (Below w.heap.size w w') := by
  have HN := hid hn
  go_enter Try.func12, Try.ntmps12
  go_wp2
  go_loopw [3, 8] (fun o i wr => ∃ (k : Nat) (A2 : Option Addr) (c2 : Nat), k ≤ n ∧ i = .int .i64 k ∧ o = .slice A2 k c2 ∧ Hid (wr.ownsRow w.heap.size 37 2 (.slice A2 k c2) k (rcV (rs.take k))) ∧ Hid (Below w.heap.size w wr)) (fun _ i _ => n - (intOf i).toNat)
  case atStart => exact ⟨0, none, 0, Nat.zero_le _, rfl, rfl, hid (World.ownsRow_nil _ _ _ _), hid (Below.refl _ _)⟩
  case round =>
    obtain ⟨k, A2, c2, hk, rfl, rfl, HO, HB⟩ := hrel
    by_cases hlt : k < n
    · have HLw := ln_up hl HB.out
      obtain ⟨b, o, r, hA, hr, d0, d1, hS⟩ := HLw.out.at (k := k) (by rw [hn]; exact hlt)
      subst hA
      have HT := hid (rcV_take hr)
      have b1 : Below wr.heap.size wr ((wr.alloc (.cells #[.slice r.A r.bs.length r.c, .bool r.e] 25)).alloc (.cells #[.slice r.A r.bs.length r.c, .bool r.e] 37)) := (((Below.refl _ wr).alloc (Nat.le_refl _) _).alloc (by simp) _)
      have O1 := hid (own_keep HO.out b1)
      have L1 : Hid (Lies ((wr.alloc (.cells #[.slice r.A r.bs.length r.c, .bool r.e] 25)).alloc (.cells #[.slice r.A r.bs.length r.c, .bool r.e] 37)) ((wr.alloc (.cells #[.slice r.A r.bs.length r.c, .bool r.e] 25)).alloc (.cells #[.slice r.A r.bs.length r.c, .bool r.e] 37)).heap.size (some ⟨wr.heap.size + 1, 0, none⟩) (rcV [r])) := hid (lies_rec (wr.alloc (.cells #[.slice r.A r.bs.length r.c, .bool r.e] 25)) 37 r #[.slice r.A r.bs.length r.c, .bool r.e] (wr.heap.size + 1) (by simp) rfl)
      have B1 := bel_t HB b1
      have hz1 := B1.out.size
      clear hS hr b1
      go_wp2_with (first
        | (at_builtin
           (refine app_rec 33 37 Try.underlying33 Try.info37 _ (by rfl) (.tmp 12) (.tmp 14) rfl w.heap.size k 1 c2 A2 (rs.take k) [r] rfl O1 hz1 (some ⟨wr.heap.size + 1, 0, none⟩) 1 rfl L1 rfl (by omega) ?_)
           intro A3 c3 u3 O3 k3
           have B3 := hid (B1.out.trans (k3.out.below hz1))))
      go_roundw
      case rel => exact ⟨k + 1, A3, c3, by omega, by go_num, rfl, by rw [HT.out]; exact O3, B3⟩
      case measure => simp [intOf] <;> omega
    · have hkn : k = n := by omega
      have e : rs.take k = rs := List.take_of_length_le (by have := HN.out; omega)
      rw [e] at HO
      subst hkn
      go_wp2
      go_ret
      exact ⟨A2, c2, rfl, HO, HB⟩
set_option maxRecDepth 100000 in
set_option maxHeartbeats 2000000 in
theorem from_any (w : World) (A : Option Addr) (n c : Nat) (rs : List Rc) (hl : Hid (LnV w w.heap.size A c rs)) (hn : rs.length = n) (hm : n ≤ 1000) :
    Calls Try.prog 16 #[.slice A n c] w fun e w' => ∃ A2 c2, e = .returned (.slice A2 n c2) ∧ Hid (w'.ownsRow w.heap.size 37 2 (.slice A2 n c2) n (rcV rs)) ∧ Hid (Below w.heap.size w w') := by
  have HN := hid hn
  go_enter Try.func16, Try.ntmps16
  go_wp2
  go_loopw [3, 8] (fun o i wr => ∃ (k : Nat) (A2 : Option Addr) (c2 : Nat), k ≤ n ∧ i = .int .i64 k ∧ o = .slice A2 k c2 ∧ Hid (wr.ownsRow w.heap.size 37 2 (.slice A2 k c2) k (rcV (rs.take k))) ∧ Hid (Below w.heap.size w wr)) (fun _ i _ => n - (intOf i).toNat)
  case atStart => exact ⟨0, none, 0, Nat.zero_le _, rfl, rfl, hid (World.ownsRow_nil _ _ _ _), hid (Below.refl _ _)⟩
  case round =>
    obtain ⟨k, A2, c2, hk, rfl, rfl, HO, HB⟩ := hrel
    by_cases hlt : k < n
    · have HLw := ln_up hl HB.out
      obtain ⟨b, o, r, hA, hr, d0, d1, hS⟩ := HLw.out.at (k := k) (by rw [hn]; exact hlt)
      subst hA
      have HT := hid (rcV_take hr)
      have b1 : Below wr.heap.size wr ((wr.alloc (.cells #[.slice r.A r.bs.length r.c, .bool r.e] 30)).alloc (.cells #[.slice r.A r.bs.length r.c, .bool r.e] 37)) := (((Below.refl _ wr).alloc (Nat.le_refl _) _).alloc (by simp) _)
      have O1 := hid (own_keep HO.out b1)
      have L1 : Hid (Lies ((wr.alloc (.cells #[.slice r.A r.bs.length r.c, .bool r.e] 30)).alloc (.cells #[.slice r.A r.bs.length r.c, .bool r.e] 37)) ((wr.alloc (.cells #[.slice r.A r.bs.length r.c, .bool r.e] 30)).alloc (.cells #[.slice r.A r.bs.length r.c, .bool r.e] 37)).heap.size (some ⟨wr.heap.size + 1, 0, none⟩) (rcV [r])) := hid (lies_rec (wr.alloc (.cells #[.slice r.A r.bs.length r.c, .bool r.e] 30)) 37 r #[.slice r.A r.bs.length r.c, .bool r.e] (wr.heap.size + 1) (by simp) rfl)
      have B1 := bel_t HB b1
      have hz1 := B1.out.size
      clear hS hr b1
      go_wp2_with (first
        | (at_builtin
           (refine app_rec 33 37 Try.underlying33 Try.info37 _ (by rfl) (.tmp 12) (.tmp 14) rfl w.heap.size k 1 c2 A2 (rs.take k) [r] rfl O1 hz1 (some ⟨wr.heap.size + 1, 0, none⟩) 1 rfl L1 rfl (by omega) ?_)
           intro A3 c3 u3 O3 k3
           have B3 := hid (B1.out.trans (k3.out.below hz1))))
      go_roundw
      case rel => exact ⟨k + 1, A3, c3, by omega, by go_num, rfl, by rw [HT.out]; exact O3, B3⟩
      case measure => simp [intOf] <;> omega
    · have hkn : k = n := by omega
      have e : rs.take k = rs := List.take_of_length_le (by have := HN.out; omega)
      rw [e] at HO
      subst hkn
      go_wp2
      go_ret
      exact ⟨A2, c2, rfl, HO, HB⟩
end Go.Proofs.Ytjncahcigbdbgab
