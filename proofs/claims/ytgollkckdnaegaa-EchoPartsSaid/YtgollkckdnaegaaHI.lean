import Derived.Test.YtgollkckdnaegaaHC
import Derived.Laws.Bits64b
import Derived.Laws.Externs
import Derived.Lib.SlBuf
import Derived.Lib.MakeNoZero
import Derived.BigGuard
namespace Go.Proofs.Ytgollkckdnaegaa
open Go.RowKit

/-! bytes.Repeat of the three bytes. -/
theorem maskN (a : Nat) (ha : a < 18446744073709551616) : bits .and .u64 (a : Int) 4294967295 = ((a % 4294967296 : Nat) : Int) := by
  have h := bits_and_u64_nat a 4294967295 ha (by omega)
  have e : a &&& 4294967295 = a % 4294967296 := Nat.and_two_pow_sub_one_eq_mod a 32
  rw [e] at h
  exact h
set_option maxRecDepth 100000 in
theorem mul64_any (w : World) (n : Nat) (hn : n ≤ 1000000) :
    Calls Try.prog 44 #[.int .u64 3, .int .u64 (n : Int)] w fun e w' => e = .returned (.tuple #[.int .u64 0, .int .u64 (3 * (n : Int))]) ∧ w' = w := by
  have h3 : bits .and .u64 3 4294967295 = 3 := maskN 3 (by omega)
  have hy : bits .and .u64 (n : Int) 4294967295 = (n : Int) := by
    rw [maskN n (by omega), Nat.mod_eq_of_lt (by omega)]
  have hz : bits .and .u64 0 4294967295 = 0 := maskN 0 (by omega)
  have d1 : (n : Int) / 4294967296 = 0 := by omega
  have d2 : 3 * (n : Int) / 4294967296 = 0 := by omega
  go_enter Try.func44, Try.ntmps44
  go_wp2
  go_ret2
  exact ⟨rfl, rfl⟩
set_option maxRecDepth 100000 in
theorem mul_any (w : World) (n : Nat) (hn : n ≤ 1000000) :
    Calls Try.prog 40 #[.int .u64 3, .int .u64 (n : Int)] w fun e w' => e = .returned (.tuple #[.int .u64 0, .int .u64 (3 * (n : Int))]) ∧ w' = w := by
  go_enter Try.func40, Try.ntmps40
  go_wp2_with (first
    | (go_at_call 44
       (with_reducible refine (mul64_any _ n hn).mono ?_)
       rintro e u1 ⟨rfl, hu⟩
       rw [hu]))
  go_ret2
  exact ⟨rfl, rfl⟩
theorem Try.info5s : (Try.prog.info? 5).map (·.size) = some 1 := by kernel_rfl
theorem offB_take {j q : Nat} (h : q ≤ j) : (offB j).take (3 * q) = offB q := by
  obtain ⟨r, rfl⟩ : ∃ r, j = q + r := ⟨j - q, by omega⟩
  rw [offB_add, ← offB_len q, List.take_left]
theorem offB_more {j q : Nat} (h : q ≤ j) : offB j ++ (offB j).take (3 * q) = offB (j + q) := by rw [offB_take h, ← offB_add]
theorem buf_drew {w0 wr : World} {h N : Nat} {acc : List UInt8} (b : Lib.Buf w0 wr h N acc) : Lib.Buf w0 wr.drew h N acc := ⟨b.below.drew, b.there, b.free, b.holds, b.fits⟩
/-- 'copy(nb[bp:], nb[:m])': what is filled goes once more behind itself, as far as it fits. -/
theorem copy_self (w0 wr : World) (h N : Nat) (acc : List UInt8) (m k c : Nat) (hb : Lib.Buf w0 wr h N acc) (hm : m ≤ acc.length) (hk : k = Nat.min m (N - acc.length)) (hN : acc.length < N) :
    ∃ wr', (Builtin.copy_ #[27, 27] 3 #[Lib.tailV h N acc.length, .slice (some ⟨h, 0, none⟩) m c]).run Try.prog wr = .ok (.int .i64 (k : Int)) wr' ∧ Lib.Buf w0 wr' h N (acc ++ acc.take k) := by
  have hne : ¬ N = acc.length := by omega
  have hkm : k ≤ m := by rw [hk]; exact Nat.min_le_left _ _
  have hkN : k ≤ N - acc.length := by rw [hk]; exact Nat.min_le_right _ _
  obtain ⟨l, hl⟩ : ∃ l, acc.take k = l := ⟨_, rfl⟩
  have hll : l.length = k := by rw [← hl, List.length_take]; omega
  have hat : ∀ (j : Nat) x, l[j]? = some x → acc[j]? = some x := fun j x hj => by
    rw [← hl, List.getElem?_take] at hj
    split at hj
    · exact hj
    · cases hj
  have hr := run_copy_cells (P := Try.prog) wr 27 27 3 5 h acc.length (N - acc.length) (N - acc.length) ⟨h, 0, none⟩ m c (l.map fun x => Value.int .u8 (x.toNat : Int)) Try.underlying27 Try.info5s (by rw [List.length_map, hll]; exact hk)
    (fun j u hj => by
      rw [List.getElem?_map] at hj
      obtain ⟨x, hx, rfl⟩ := Option.map_eq_some_iff.1 hj
      have := hb.holds j x (hat j x hx)
      rw [Addr.add_lit, Nat.zero_add]
      exact this)
    (fun j hj => by rw [List.length_map] at hj; exact hb.there _ (by omega)) (fun j hj => by rw [List.length_map] at hj; exact hb.free _ (by omega))
    (fun u hu' => by obtain ⟨x, _, rfl⟩ := List.mem_map.1 hu'; rfl)
  rw [List.length_map, hll] at hr
  rw [hl]
  refine ⟨_, by unfold Lib.tailV; rw [if_neg hne]; exact hr, ?_⟩
  have hin := World.cell?_setCells_in h (l.map fun x => Value.int .u8 (x.toNat : Int)) acc.length wr (fun j hj => by rw [List.length_map] at hj; exact hb.there _ (by omega))
  have hout := World.cell?_setCells_out h (l.map fun x => Value.int .u8 (x.toNat : Int)) acc.length wr
  refine ⟨?_, ?_, ?_, ?_, by rw [List.length_append]; omega⟩
  · exact Lib.below_setCells h (Nat.le_refl _) _ _ hb.below
  · intro j hj
    by_cases h1 : acc.length ≤ j ∧ j < acc.length + l.length
    · obtain ⟨d, rfl⟩ : ∃ d, j = acc.length + d := ⟨j - acc.length, by omega⟩
      rw [hin d (by rw [List.length_map]; omega)]
      rfl
    · rw [hout ⟨h, j, none⟩ (fun _ _ => by rw [List.length_map]; show j < _ ∨ _ ≤ j; omega)]
      exact hb.there j hj
  · intro j hj
    rw [World.frozen?_setCells]
    exact hb.free j hj
  · intro j x hx
    by_cases h1 : j < acc.length
    · rw [List.getElem?_append_left h1] at hx
      rw [hout ⟨h, j, none⟩ (fun _ _ => Or.inl h1)]
      exact hb.holds j x hx
    · rw [List.getElem?_append_right (by omega)] at hx
      obtain ⟨d, rfl⟩ : ∃ d, j = acc.length + d := ⟨j - acc.length, by omega⟩
      rw [Nat.add_sub_cancel_left] at hx
      have hd : d < l.length := (List.getElem?_eq_some_iff.1 hx).1
      rw [hin d (by rw [List.length_map]; exact hd)]
      simp [List.getElem_map, (List.getElem?_eq_some_iff.1 hx).2]
/-- A buffer filled to the brim reads as its bytes. -/
theorem buf_slb {w0 wr : World} {h N : Nat} {acc : List UInt8} (hb : Lib.Buf w0 wr h N acc) (hN : acc.length = N) (hm : N ≤ maxLen) : SlB wr wr.heap.size (some ⟨h, 0, none⟩) N acc := by
  refine ⟨by omega, hm, (fun e => by cases e), fun hne => ?_⟩
  have hpos : 0 < N := by
    rw [← hN]
    refine List.length_pos_iff.2 ?_
    rintro rfl
    exact hne rfl
  have hlt : h < wr.heap.size := by
    obtain ⟨v, hv⟩ := Option.isSome_iff_exists.1 (hb.there 0 hpos)
    exact World.block_lt_of_cell? wr _ hv
  refine ⟨h, 0, rfl, hlt, fun j u hj => ?_⟩
  simp only [bv, List.getElem?_map] at hj
  obtain ⟨x, hx, rfl⟩ := Option.map_eq_some_iff.1 hj
  rw [Nat.zero_add]
  exact hb.holds j x hx
theorem slb_holds {w : World} {B : Nat} {p : Addr} {c : Nat} {bs : List UInt8} (h : SlB w B (some p) c bs) : Lib.HoldsBytes w (.slice (some p) bs.length c) bs := by
  refine ⟨some p, c, rfl, (fun e => by cases e), fun a ha i x hx => ?_⟩
  cases ha
  have hne : bv bs ≠ [] := by
    intro e
    have : bs = [] := by simpa [bv] using e
    rw [this] at hx
    simp at hx
  obtain ⟨b, o, he, _, hc⟩ := h.2.2.2 hne
  cases he
  rw [Addr.add_lit]
  exact hc i _ (by simp [bv, hx])
section
variable {P : Program}
theorem step_copy_run {ops : Array Oper} {o : Oper} {a : Act} {w : World} {K : Act → World → Prop} {Q : Exit → Act → World → Prop} {E : Prop} (hgd : o.guard = none) (d s : Operand) (t t' : TypeId)
    (ho : o.op = .call { callee := .builtin .copy, args := #[d, s], argTypes := #[t, t'] }) (v u : Value) (hd : a.eval d = v) (hs : a.eval s = u) {v' : Value} {w' : World}
    (hr : (Builtin.copy_ #[t, t'] o.type #[v, u]).run P w = .ok v' w') (h : K (a.put o.dst v') w') : if Region.wanted o (yielded ops a.tmps) = true then Oper.wp P o a w K Q else E := by
  have hw : Region.wanted o (yielded ops a.tmps) = true := by simp [Region.wanted, hgd]
  rw [if_pos hw]
  exact Lib.wp_copy_run w d s t t' ho v u hd hs hr h
end
end Go.Proofs.Ytgollkckdnaegaa
