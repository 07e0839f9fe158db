import Derived.Test.YtjncahcigbdbgabLIB
import Derived.Lib.AppendZeros
namespace Go.Proofs.Ytjncahcigbdbgab
open Go.RowKit

/-! slices.Grow of nothing, slices.Concat: of lines. -/
theorem zerosL_size (n : Nat) : (Builtin.zeroCells (Value.agg #[.slice none 0 0, .bool false]).cells n).size = n * 2 := by
  simp [Builtin.zeroCells, Value.cells]
set_option maxHeartbeats 1000000 in
set_option maxRecDepth 100000 in
theorem growL_nil (w : World) (n : Nat) (hn : n ≤ 1000000) :
    Calls Try.prog 26 #[.slice none 0 0, .int .i64 n] w fun e w' => ∃ A c, e = .returned (.slice A 0 c) ∧ w'.ownsRow w.heap.size 30 2 (.slice A 0 c) 0 [] ∧ Below w.heap.size w w' := by
  obtain ⟨i0, hi0, hz0, hz1, hz2⟩ := info_parts Try.info30
  by_cases h0 : n = 0
  · subst h0
    go_enter Try.func26, Try.ntmps26
    go_wp2
    go_ret
    exact ⟨none, 0, rfl, World.ownsRow_nil _ _ _ _, Below.refl _ _⟩
  · have hpos : (0 : Int) < n := by omega
    have hneg : ¬ ((n : Int) < 0) := by omega
    have happ := Lib.run_append_nil_zeros (P := Try.prog) w 28 3 28 30 i0 (.agg #[.slice none 0 0, .bool false]) .i64 .i64 Try.underlying28 Try.underlying3 hi0 hz0 n (by omega) (by omega) (by omega) (by rw [hz2]; omega)
    have hgc : (0 : Int) ≤ grownCap w n 0 30 := by omega
    have hge := grownCap_ge w n 0 30
    have hle := grownCap_le_maxLen w n 0 30 (by unfold maxLen; omega)
    obtain ⟨cap, hcap⟩ : ∃ cap, grownCap w n 0 30 = cap := ⟨_, rfl⟩
    rw [hcap] at happ hge hle
    have HC := hid hcap
    clear hcap hgc
    have hgc : (0 : Int) ≤ cap := by omega
    obtain ⟨w1, hw1⟩ : ∃ w1, w.drew.alloc (.cells (Builtin.zeroCells (Value.agg #[.slice none 0 0, .bool false]).cells n ++ Builtin.zeroCells (Value.agg #[.slice none 0 0, .bool false]).cells (cap - n)) 30) = w1 := ⟨_, rfl⟩
    rw [hw1] at happ
    have HW := hid hw1
    have HA := hid happ
    have HLE := hid hle
    clear hw1 happ hle
    go_enter Try.func26, Try.ntmps26
    go_wp2_with (at_builtin; refine Lib.wpList_append_run _ rfl (.tmp 20) (.tmp 21) 28 3 rfl _ _ rfl rfl _ _ HA.out ?_)
    go_ret
    refine ⟨_, _, rfl, ?_, ?_⟩
    · rw [← HW.out]
      refine ⟨rfl, .inr ⟨w.heap.size, cap, _, rfl, Nat.le_refl _, heap_alloc_new w.drew _, Nat.zero_le _, HLE.out, ?_, rfl⟩⟩
      rw [Array.size_append, zerosL_size, zerosL_size]
      omega
    · rw [← HW.out]
      exact (bel_drewN (Below.refl _ _) 1).alloc (Nat.le_refl _) _
/-- A slice of lines, as one of several. -/
structure Sr where
  A : Option Addr
  c : Nat
  rs : List Rc
def Sr.v (s : Sr) : Value := .slice s.A s.rs.length s.c
def catR (ls : List Sr) : List Rc := (ls.map (·.rs)).flatten
theorem catR_snoc (ls : List Sr) (k : Nat) (h : k < ls.length) : catR (ls.take (k + 1)) = catR (ls.take k) ++ ls[k].rs := by
  unfold catR
  rw [take_snoc _ _ h, List.map_append, List.flatten_append]
  simp
theorem catR_le (ls : List Sr) (k : Nat) : (catR (ls.take k)).length ≤ (catR ls).length := by
  have e : catR ls = catR (ls.take k) ++ catR (ls.drop k) := by
    unfold catR
    conv => lhs; rw [← List.take_append_drop k ls, List.map_append, List.flatten_append]
  rw [e, List.length_append]
  omega
theorem catR_text {ls : List Sr} {w : World} {B : Nat} (ht : ∀ s ∈ ls, LnV w B s.A s.c s.rs) {k : Nat} : ∀ r ∈ catR (ls.take k), SlB w B r.A r.c r.bs := by
  intro r hr
  unfold catR at hr
  simp only [List.mem_flatten, List.mem_map] at hr
  obtain ⟨_, ⟨s, hs, rfl⟩, hr⟩ := hr
  exact (ht s (List.mem_of_mem_take hs)).text r hr
set_option maxHeartbeats 2000000 in
set_option maxRecDepth 100000 in
theorem concatL_any (w : World) (A : Option Addr) (q c : Nat) (ls : List Sr) (hl : Hid (Lies w w.heap.size A (ls.map Sr.v))) (ht : Hid (∀ s ∈ ls, LnV w w.heap.size s.A s.c s.rs)) (hq : ls.length = q) (hn : q ≤ 1000) (hT : (catR ls).length ≤ 1000000) :
    Calls Try.prog 22 #[.slice A q c] w fun e w' => ∃ A' n' c', e = .returned (.slice A' n' c') ∧ Hid (LnO w' w.heap.size 30 A' n' c' (catR ls)) ∧ Hid (Below w.heap.size w w') := by
  subst hq
  have HF : Hid (∀ k, (catR (ls.take k)).length ≤ (catR ls).length) := catR_le ls
  obtain ⟨T, HT⟩ : ∃ T, Hid ((catR ls).length = T) := ⟨_, hid rfl⟩
  rw [HT.out] at hT HF
  have HC : Hid (∀ k (h : k < ls.length), ∃ b o, A = some ⟨b, o, none⟩ ∧ w.cell? ⟨b, o + k, none⟩ = some (.slice ls[k].A ls[k].rs.length ls[k].c)) := hid (by
    intro k h
    obtain ⟨b, o, rfl, _, hc⟩ := hl.out (by intro e; have := congrArg List.length e; rw [List.length_map] at this; have h0 : ([] : List Value).length = 0 := rfl; omega)
    exact ⟨b, o, rfl, hc k _ (by rw [List.getElem?_map, List.getElem?_eq_getElem h]; rfl)⟩)
  go_enter Try.func22, Try.ntmps22
  go_wp2
  go_loop [11, 3] (fun i s => ∃ k : Nat, k ≤ ls.length ∧ i = .int .i64 k ∧ s = .int .i64 (catR (ls.take k)).length) (fun i _ => ls.length - (intOf i).toNat)
  case atStart => exact ⟨0, Nat.zero_le _, rfl, rfl⟩
  case round =>
    obtain ⟨k, hk, rfl, rfl⟩ := hrel
    by_cases hlt : k < ls.length
    · obtain ⟨b, o, rfl, hc⟩ := HC.out k hlt
      have HS := hid (catR_snoc ls k hlt)
      have hF1 := HF.out (k + 1)
      have hle : (catR (ls.take (k + 1))).length = (catR (ls.take k)).length + ls[k].rs.length := by rw [HS.out, List.length_append]
      rw [hle] at hF1
      obtain ⟨x, Hx⟩ : ∃ x, Hid ((catR (ls.take k)).length = x) := ⟨_, hid rfl⟩
      obtain ⟨y, Hy⟩ : ∃ y, Hid (ls[k].rs.length = y) := ⟨_, hid rfl⟩
      obtain ⟨z, Hz⟩ : ∃ z, Hid ((catR (ls.take (k + 1))).length = z) := ⟨_, hid rfl⟩
      rw [Hz.out, Hx.out, Hy.out] at hle
      rw [Hx.out, Hy.out] at hF1
      rw [Hy.out] at hc
      rw [Hx.out]
      have hneg : ¬ ((x : Int) + y < 0) := by omega
      go_wp2
      go_roundw
      case rel => exact ⟨k + 1, by omega, by go_num, by rw [Hz.out, hle]; go_num⟩
      case measure => simp [intOf]; omega
    · have hd : ls.take k = ls := List.take_of_length_le (by omega)
      rw [hd, HT.out]
      go_wp2_with (first
        | (go_at_call 26
           ((with_reducible refine (growL_nil _ T hT).mono ?_); rintro e w1 ⟨A1, c1, rfl, ho1, hb1⟩)
           have HO1 := hid ho1
           have HB1 := hid hb1
           have hz1w : w.heap.size ≤ w1.heap.size := hb1.size
           clear ho1 hb1))
      go_loopw [27, 6] (fun i s W2 => ∃ (k m : Nat) (A' : Option Addr) (c' : Nat), k ≤ ls.length ∧ i = .int .i64 k ∧ s = .slice A' m c' ∧ Hid ((catR (ls.take k)).length = m) ∧ Hid (W2.ownsRow w.heap.size 30 2 (.slice A' m c') m (rcV (catR (ls.take k)))) ∧ Hid (Below w.heap.size w W2)) (fun i _ _ => ls.length - (intOf i).toNat)
      case atStart => exact ⟨0, 0, A1, c1, Nat.zero_le _, rfl, rfl, hid rfl, HO1, HB1⟩
      case round =>
        obtain ⟨k2, m, A', c', hk2, rfl, rfl, Hm, HRO, HBW⟩ := hrel
        have hszr : w.heap.size ≤ wr.heap.size := HBW.out.size
        by_cases hlt2 : k2 < ls.length
        · obtain ⟨b, o, rfl, hc⟩ := HC.out k2 hlt2
          have hcc := (HBW.out.cell (p := ⟨b, o + k2, none⟩) (World.block_lt_of_cell? _ _ hc)).trans hc
          have HLs := ln_up (hid (ht.out ls[k2] (List.getElem_mem hlt2))) HBW.out
          have HS := hid (catR_snoc ls k2 hlt2)
          have hF1 := HF.out (k2 + 1)
          have hle : (catR (ls.take (k2 + 1))).length = (catR (ls.take k2)).length + ls[k2].rs.length := by rw [HS.out, List.length_append]
          rw [hle, Hm.out] at hF1
          rw [Hm.out] at hle
          have HLE := hid hle
          obtain ⟨p, Hp⟩ : ∃ p, Hid (ls[k2] = p) := ⟨_, hid rfl⟩
          rw [Hp.out] at hcc hF1 HLE HS HLs
          have HLi := hid HLs.out.lies
          obtain ⟨y, Hy⟩ : ∃ y, Hid (p.rs.length = y) := ⟨_, hid rfl⟩
          rw [Hy.out] at hcc hF1 HLE
          obtain ⟨xs, Hxs⟩ : ∃ xs, Hid (catR (ls.take k2) = xs) := ⟨_, hid rfl⟩
          rw [Hxs.out] at HRO HS
          clear hc hle HLs
          go_wp2_with (first
            | (at_builtin
               (refine app_rec 28 30 Try.underlying28 Try.info30 wr (by rfl) (.tmp 31) (.tmp 32) rfl w.heap.size m y c' A' xs p.rs rfl HRO hszr p.A p.c rfl HLi Hy.out (by omega) ?_)
               intro A3 c3 w3 o3 k3
               have B3 : Hid (Below w.heap.size w w3) := hid (HBW.out.trans (k3.out.below hszr))))
          go_roundw
          case rel => exact ⟨k2 + 1, m + y, A3, c3, by omega, by go_num, rfl, HLE, by rw [HS.out]; exact o3, B3⟩
          case measure => simp [intOf]; omega
        · have hd2 : ls.take k2 = ls := List.take_of_length_le (by omega)
          have HX : Hid (∀ r ∈ catR ls, SlB w w.heap.size r.A r.c r.bs) := hid (fun r hr => catR_text (k := k2) ht.out r (by rwa [hd2]))
          rw [hd2] at HRO Hm
          go_wp2
          go_ret
          exact ⟨A', m, c', rfl, hid ⟨Hm.out, HRO.out, fun r hr => ((HX.out r hr).below HBW.out).more hszr⟩, HBW⟩
end Go.Proofs.Ytjncahcigbdbgab
