import Derived.Test.YtjncahcigbdbgabLD
import Derived.BigQuiet
import Derived.Deep.QuietTactic
namespace Go.Proofs.Ytjncahcigbdbgab
open Go.RowKit

/-! The same lines. -/
/-- A world in which whatever was there in the other one is as it was. -/
structure Gr (u0 : World) where
  w : World
  b : Below u0.heap.size u0 w
instance (u0 : World) : Nonempty (Gr u0) := ⟨⟨u0, Below.refl _ _⟩⟩
def grw {u0 : World} (z : Gr u0) : World := z.w
theorem gr_cell {u0 : World} {g : Nat} {v : Value} {k : Nat} (z : Gr u0) (h : u0.cell? ⟨g, k, none⟩ = some v) : (grw z).cell? ⟨g, k, none⟩ = some v :=
  (z.b.cell (p := ⟨g, k, none⟩) (World.block_lt_of_cell? _ _ h)).trans h
theorem gr_call {P : Program} {u0 : World} {z : Gr u0} {f : FuncId} {args : Array Value} {v : Value} (h : Calls P f args (grw z) fun e w' => e = .returned v ∧ Hid (Below (grw z).heap.size (grw z) w')) :
    Calls P f args (grw z) fun e w'' => e = .returned v ∧ ∃ z' : Gr u0, w'' = grw z' :=
  h.mono fun _ w' ⟨he, hk⟩ => ⟨he, ⟨w', z.b.trans (hk.out.mono z.b.size)⟩, rfl⟩
theorem wp_region_grown {P : Program} {id : Nat} {Q : Exit → Act → World → Prop} {a : Act} {w : World} {l : List Oper} (hm : P.follows .mixedOrders = true) (hB : Region.lexB .any l.toArray = true)
    (h : wpQuiet P l.toArray (fun w' => ∃ z : Gr w, w' = grw z) (fun a' => ∀ z : Gr w, Q .normal a' (grw z)) l a) : (Code.region id l.toArray true).wp P Q a w :=
  wp_region_quiet (C := fun w' => ∃ z : Gr w, w' = grw z) hm hB ⟨⟨w.drew, rfl, rfl, rfl, Nat.le_refl _, fun _ _ => rfl⟩, rfl⟩ (by
    have e : (fun a' => ∀ w', (∃ z : Gr w, w' = grw z) → Q .normal a' w') = (fun a' => ∀ z : Gr w, Q .normal a' (grw z)) := by
      funext a'
      exact propext ⟨fun h z => h _ ⟨z, rfl⟩, fun h w' ⟨z, e⟩ => e ▸ h z⟩
    simpa [e] using h)
theorem q17 {u0 : World} {z : Gr u0} {A A2 : Option Addr} {c c2 n : Nat} {xs : List UInt8} (hn : Hid (xs.length = n)) (hx : Hid (SlB u0 u0.heap.size A c xs)) (hy : Hid (SlB u0 u0.heap.size A2 c2 xs)) (hl : n ≤ maxLen) :
    Calls Try.prog 17 #[.slice A n c, .slice A2 n c2] (grw z) fun e w'' => e = .returned (.bool true) ∧ ∃ z' : Gr u0, w'' = grw z' :=
  gr_call (bytes_eq _ A A2 c c2 n xs hn.out (slb_up hx z.b) (slb_up hy z.b) hl)
theorem lnR_get {rs qs : List Rc} (he : lnR rs = lnR qs) {k : Nat} {r q : Rc} (hr : rs[k]? = some r) (hq : qs[k]? = some q) : q.bs = r.bs ∧ q.e = r.e := by
  have h1 : (lnR rs)[k]? = some r.ln := by simp [lnR, hr]
  have h2 : (lnR qs)[k]? = some q.ln := by simp [lnR, hq]
  rw [he, h2] at h1
  injection h1 with h1
  exact ⟨congrArg Prod.fst h1, congrArg Prod.snd h1⟩
set_option maxRecDepth 100000 in
set_option maxHeartbeats 2000000 in
theorem same_eq (w : World) (A A2 : Option Addr) (n n2 c c2 : Nat) (rs qs : List Rc) (hl : Hid (LnV w w.heap.size A c rs)) (hl2 : Hid (LnV w w.heap.size A2 c2 qs)) (he : Hid (lnR rs = lnR qs)) (hn : rs.length = n) (hn2 : qs.length = n2) :
    Calls Try.prog 15 #[.slice A n c, .slice A2 n2 c2] w fun e w' => e = .returned (.bool true) ∧ Hid (Below w.heap.size w w') := by
  obtain rfl : n = n2 := by have := congrArg List.length he.out; rw [lnR_len, lnR_len] at this; omega
  have hnm : n ≤ maxLen := by have h1 := hl.out.len; have h2 := hl.out.cap; omega
  have hnmi : (n : Int) ≤ 9223372036854775807 := by unfold maxLen at hnm; omega
  clear hnm
  go_enter Try.func15, Try.ntmps15
  go_wp2
  go_loopw [13] (fun i wr => ∃ k : Nat, k ≤ n ∧ i = .int .i64 k ∧ Hid (Below w.heap.size w wr)) (fun i _ => n - (intOf i).toNat)
  case atStart => exact ⟨0, Nat.zero_le _, rfl, hid (Below.refl _ _)⟩
  case round =>
    obtain ⟨k, hk, rfl, HB⟩ := hrel
    by_cases hlt : k < n
    · have HL := ln_up hl HB.out
      have HL2 := ln_up hl2 HB.out
      obtain ⟨b, o, r, hA, hr, d0, d1, hS⟩ := HL.out.at (k := k) (by rw [hn]; exact hlt)
      obtain ⟨b2, o2, q, hA2, hq, f0, f1, hS2⟩ := HL2.out.at (k := k) (by rw [hn2]; exact hlt)
      obtain ⟨e1, e2⟩ := lnR_get he.out hr hq
      rw [e1] at f0 hS2
      rw [e2] at f1
      subst hA hA2
      obtain ⟨x, hx⟩ : ∃ x, Hid (r.bs.length = x) := ⟨_, hid rfl⟩
      have hx2 : x ≤ maxLen := by have h1 := hS.1; have h2 := hS.2.1; rw [hx.out] at h1; omega
      rw [hx.out] at d0 f0
      obtain ⟨v, hv⟩ : ∃ v, r.e = v := ⟨_, rfl⟩
      rw [hv] at d1 f1
      have S1 := hid hS
      have S2 := hid hS2
      have g0 : ∀ z : Gr wr, (grw z).cell? ⟨b, o + k * 2, none⟩ = some (.slice r.A x r.c) := fun z => gr_cell z d0
      have g1 : ∀ z : Gr wr, (grw z).cell? ⟨b, o + k * 2 + 1, none⟩ = some (.bool v) := fun z => gr_cell z d1
      have g2 : ∀ z : Gr wr, (grw z).cell? ⟨b2, o2 + k * 2, none⟩ = some (.slice q.A x q.c) := fun z => gr_cell z f0
      have g3 : ∀ z : Gr wr, (grw z).cell? ⟨b2, o2 + k * 2 + 1, none⟩ = some (.bool v) := fun z => gr_cell z f1
      clear hS hS2 e1 e2 hr hq hv d0 d1 f0 f1
      have hkn : (k : Int) < (n : Int) := by omega
      cases v
      all_goals
        go_wp2
        refine wp_region_grown (by kernel_rfl) (by kernel_rfl) ?_
        repeat (go_big_quiet_step (first | (go_at_call 17; with_reducible exact q17 hx S1 S2 hx2)))
        refine wpQuiet_nil ?_
        intro z
        have B6 := bel_t HB z.b
        clear g0 g1 g2 g3
        go_wp2
        go_roundw
        case rel => exact ⟨k + 1, by omega, by go_num, B6⟩
        case measure => simp [intOf] <;> omega
    · go_wp2
      go_ret
      exact ⟨rfl, HB⟩
end Go.Proofs.Ytjncahcigbdbgab
