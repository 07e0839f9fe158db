import Derived.Test.YtggcampdkgfmgaaJB
import Derived.Lib.SliceRun
import Derived.BigQuiet
import Derived.Deep.QuietTactic
import Derived.Laws.Bits64b
import Derived.Laws.Externs
import Derived.Lib.SlBuf
import Derived.Lib.MakeNoZero
import Derived.BigGuard
namespace Go.Proofs.Ytggcampdkgfmgaa.L11
open Go.RowKit

/-! How a byte is shown: the program's and the document's. -/
theorem hat_off (c : UInt8) : hatB false c = false := rfl
theorem hat_ctl {e : Bool} {c : UInt8} (h : ctlB c = false) : hatB e c = false := by
  simp only [ctlB, Bool.or_eq_false_iff, decide_eq_false_iff_not] at h
  simp [hatB, h.1, h.2]
theorem hat_on {c : UInt8} (h : ctlB c = true) (h9 : c.toNat ≠ 9) (h10 : c.toNat ≠ 10) (e : Bool) : hatB e c = e := by
  simp only [ctlB, Bool.or_eq_true, decide_eq_true_eq] at h
  cases e
  · rfl
  · simp [hatB, h9, h10]
    omega
end Go.Proofs.Ytggcampdkgfmgaa.L11
namespace Go.Proofs.Ytggcampdkgfmgaa.L11
open Go.RowKit

theorem xor_all : ∀ n : Nat, n < 256 → bits .xor .u8 (n : Int) 64 = (((UInt8.ofNat n) ^^^ 64).toNat : Int) := by decide +kernel
theorem xor_v (c : UInt8) : bits .xor .u8 (c.toNat : Int) 64 = ((c ^^^ 64).toNat : Int) := by
  have := xor_all c.toNat c.toNat_lt
  rwa [UInt8.ofNat_toNat] at this
/-! The document's. -/
theorem hat_cases {c : UInt8} {s : Bool} (h : hatB s c = true) : s = true ∧ (c.toNat < 32 ∨ c.toNat = 127) := by
  simp only [hatB, Bool.and_eq_true, Bool.or_eq_true, decide_eq_true_eq] at h
  exact ⟨h.1, by omega⟩
end Go.Proofs.Ytggcampdkgfmgaa.L11
namespace Go.Proofs.Ytggcampdkgfmgaa.L11
open Go.RowKit

theorem lineB_at {e : Bool} {l : List UInt8} {k : Nat} {y : UInt8} (h : l[k]? = some y) : lineB e (l.take (k + 1)) = lineB e (l.take k) ++ showB e y := by
  obtain ⟨hk, rfl⟩ := List.getElem?_eq_some_iff.1 h
  exact lineB_take e l k hk
end Go.Proofs.Ytggcampdkgfmgaa.L11
namespace Go.Proofs.Ytggcampdkgfmgaa.L11
open Go.RowKit

/-! The column behind a byte, and behind a line. -/
section
variable {e u : Bool} {N : Nat} {c : UInt8}
theorem stepN_9 (h : c.toNat = 9) : stepN e u N c = (N / 8 + 1) * 8 := by simp [stepN, h]
theorem stepN_hat (h9 : c.toNat ≠ 9) (h : hatB e c = true) : stepN e u N c = N + 2 := by simp [stepN, h9, h]
theorem stepN_ctl (h9 : c.toNat ≠ 9) (h : hatB e c = false) (hc : ctlB c = true) : stepN e u N c = N := by
  simp only [ctlB, Bool.or_eq_true, decide_eq_true_eq] at hc
  simp [stepN, h9, h, hc]
theorem ctl_no (hc : ctlB c = false) : ¬ (c.toNat < 32 ∨ c.toNat = 127) := by
  simp only [ctlB, Bool.or_eq_false_iff, decide_eq_false_iff_not] at hc
  omega
theorem stepN_cont (hc : ctlB c = false) (hk : contB c = true) : stepN e true N c = N := by
  have h := ctl_no hc
  simp only [contB, Bool.and_eq_true, decide_eq_true_eq] at hk
  have h9 : c.toNat ≠ 9 := by omega
  rw [stepN, if_neg h9, if_neg (by rw [hat_ctl hc]; decide), if_neg h, if_pos ⟨rfl, hk⟩]
theorem stepN_one (hc : ctlB c = false) (hk : (u && contB c) = false) : stepN e u N c = N + 1 := by
  have h := ctl_no hc
  have h9 : c.toNat ≠ 9 := by omega
  rw [stepN, if_neg h9, if_neg (by rw [hat_ctl hc]; decide), if_neg h, if_neg]
  rintro ⟨rfl, h1, h2⟩
  simp [contB, h1, h2] at hk
end
end Go.Proofs.Ytggcampdkgfmgaa.L11
namespace Go.Proofs.Ytggcampdkgfmgaa.L11
open Go.RowKit

section
variable {dst : Option Tmp} {x y : Operand} {ty r : TypeId} {pos : String} {after : Array Edge} {gd : Option (Nat × Bool)} {a : Act}
end
attribute [local go_sem ↓] wq_ld26
attribute [local go_sem] isP_v blkV_v aggV_v
end Go.Proofs.Ytggcampdkgfmgaa.L11
namespace Go.Proofs.Ytggcampdkgfmgaa.L11
open Go.RowKit

attribute [local go_sem ↓] wq_ld26
attribute [local go_sem] isP_v blkV_v aggV_v
end Go.Proofs.Ytggcampdkgfmgaa.L11
namespace Go.Proofs.Ytggcampdkgfmgaa.L11
open Go.RowKit

/-! The column behind a line: the program's and the document's. -/
theorem colsN_at {e u : Bool} {col : Nat} {l : List UInt8} {k : Nat} {y : UInt8} (h : l[k]? = some y) : colsN e u col (l.take (k + 1)) = stepN e u (colsN e u col (l.take k)) y := by
  obtain ⟨hk, rfl⟩ := List.getElem?_eq_some_iff.1 h
  exact colsN_take e u col l k hk
theorem colsN_tk {e u : Bool} {col : Nat} {l : List UInt8} {k : Nat} : colsN e u col (l.take k) ≤ col + 8 * k := by
  have h := (colsN_le e u (l.take k) col).2
  have := List.length_take_le k l
  omega
end Go.Proofs.Ytggcampdkgfmgaa.L11
namespace Go.Proofs.Ytggcampdkgfmgaa.L11
open Go.RowKit

/-! bytes.Repeat of the three bytes. -/
theorem maskN (a : Nat) (ha : a < 18446744073709551616) : bits .and .u64 (a : Int) 4294967295 = ((a % 4294967296 : Nat) : Int) := by
  have h := bits_and_u64_nat a 4294967295 ha (by omega)
  have e : a &&& 4294967295 = a % 4294967296 := Nat.and_two_pow_sub_one_eq_mod a 32
  rw [e] at h
  exact h
theorem Try.info5s : (Try.prog.info? 5).map (·.size) = some 1 := by kernel_rfl
theorem offB_take {j q : Nat} (h : q ≤ j) : (offB j).take (3 * q) = offB q := by
  obtain ⟨r, rfl⟩ : ∃ r, j = q + r := ⟨j - q, by omega⟩
  rw [offB_add, ← offB_len q, List.take_left]
theorem offB_more {j q : Nat} (h : q ≤ j) : offB j ++ (offB j).take (3 * q) = offB (j + q) := by rw [offB_take h, ← offB_add]
theorem buf_drew {w0 wr : World} {h N : Nat} {acc : List UInt8} (b : Lib.Buf w0 wr h N acc) : Lib.Buf w0 wr.drew h N acc := ⟨b.below.drew, b.there, b.free, b.holds, b.fits⟩
/-- 'copy(nb[bp:], nb[:m])': what is filled goes once more behind itself, as far as it fits. -/
theorem copy_self (w0 wr : World) (h N : Nat) (acc : List UInt8) (m k c : Nat) (hb : Lib.Buf w0 wr h N acc) (hm : m ≤ acc.length) (hk : k = Nat.min m (N - acc.length)) (hN : acc.length < N) :
    ∃ wr', (Builtin.copy_ #[27, 27] 3 #[Lib.tailV h N acc.length, .slice (some ⟨h, 0, none⟩) m c]).run Try.prog wr = .ok (.int .i64 (k : Int)) wr' ∧ Lib.Buf w0 wr' h N (acc ++ acc.take k) := by
  have hne : ¬ N = acc.length := by omega
  have hkm : k ≤ m := by rw [hk]; exact Nat.min_le_left _ _
  have hkN : k ≤ N - acc.length := by rw [hk]; exact Nat.min_le_right _ _
  obtain ⟨l, hl⟩ : ∃ l, acc.take k = l := ⟨_, rfl⟩
  have hll : l.length = k := by rw [← hl, List.length_take]; omega
  have hat : ∀ (j : Nat) x, l[j]? = some x → acc[j]? = some x := fun j x hj => by
    rw [← hl, List.getElem?_take] at hj
    split at hj
    · exact hj
    · cases hj
  have hr := run_copy_cells (P := Try.prog) wr 27 27 3 5 h acc.length (N - acc.length) (N - acc.length) ⟨h, 0, none⟩ m c (l.map fun x => Value.int .u8 (x.toNat : Int)) Try.underlying27 Try.info5s (by rw [List.length_map, hll]; exact hk)
    (fun j u hj => by
      rw [List.getElem?_map] at hj
      obtain ⟨x, hx, rfl⟩ := Option.map_eq_some_iff.1 hj
      have := hb.holds j x (hat j x hx)
      rw [Addr.add_lit, Nat.zero_add]
      exact this)
    (fun j hj => by rw [List.length_map] at hj; exact hb.there _ (by omega)) (fun j hj => by rw [List.length_map] at hj; exact hb.free _ (by omega))
    (fun u hu' => by obtain ⟨x, _, rfl⟩ := List.mem_map.1 hu'; rfl)
  rw [List.length_map, hll] at hr
  rw [hl]
  refine ⟨_, by unfold Lib.tailV; rw [if_neg hne]; exact hr, ?_⟩
  have hin := World.cell?_setCells_in h (l.map fun x => Value.int .u8 (x.toNat : Int)) acc.length wr (fun j hj => by rw [List.length_map] at hj; exact hb.there _ (by omega))
  have hout := World.cell?_setCells_out h (l.map fun x => Value.int .u8 (x.toNat : Int)) acc.length wr
  refine ⟨?_, ?_, ?_, ?_, by rw [List.length_append]; omega⟩
  · exact Lib.below_setCells h (Nat.le_refl _) _ _ hb.below
  · intro j hj
    by_cases h1 : acc.length ≤ j ∧ j < acc.length + l.length
    · obtain ⟨d, rfl⟩ : ∃ d, j = acc.length + d := ⟨j - acc.length, by omega⟩
      rw [hin d (by rw [List.length_map]; omega)]
      rfl
    · rw [hout ⟨h, j, none⟩ (fun _ _ => by rw [List.length_map]; show j < _ ∨ _ ≤ j; omega)]
      exact hb.there j hj
  · intro j hj
    rw [World.frozen?_setCells]
    exact hb.free j hj
  · intro j x hx
    by_cases h1 : j < acc.length
    · rw [List.getElem?_append_left h1] at hx
      rw [hout ⟨h, j, none⟩ (fun _ _ => Or.inl h1)]
      exact hb.holds j x hx
    · rw [List.getElem?_append_right (by omega)] at hx
      obtain ⟨d, rfl⟩ : ∃ d, j = acc.length + d := ⟨j - acc.length, by omega⟩
      rw [Nat.add_sub_cancel_left] at hx
      have hd : d < l.length := (List.getElem?_eq_some_iff.1 hx).1
      rw [hin d (by rw [List.length_map]; exact hd)]
      simp [List.getElem_map, (List.getElem?_eq_some_iff.1 hx).2]
/-- A buffer filled to the brim reads as its bytes. -/
theorem buf_slb {w0 wr : World} {h N : Nat} {acc : List UInt8} (hb : Lib.Buf w0 wr h N acc) (hN : acc.length = N) (hm : N ≤ maxLen) : SlB wr wr.heap.size (some ⟨h, 0, none⟩) N acc := by
  refine ⟨by omega, hm, (fun e => by cases e), fun hne => ?_⟩
  have hpos : 0 < N := by
    rw [← hN]
    refine List.length_pos_iff.2 ?_
    rintro rfl
    exact hne rfl
  have hlt : h < wr.heap.size := by
    obtain ⟨v, hv⟩ := Option.isSome_iff_exists.1 (hb.there 0 hpos)
    exact World.block_lt_of_cell? wr _ hv
  refine ⟨h, 0, rfl, hlt, fun j u hj => ?_⟩
  simp only [bv, List.getElem?_map] at hj
  obtain ⟨x, hx, rfl⟩ := Option.map_eq_some_iff.1 hj
  rw [Nat.zero_add]
  exact hb.holds j x hx
theorem slb_holds {w : World} {B : Nat} {p : Addr} {c : Nat} {bs : List UInt8} (h : SlB w B (some p) c bs) : Lib.HoldsBytes w (.slice (some p) bs.length c) bs := by
  refine ⟨some p, c, rfl, (fun e => by cases e), fun a ha i x hx => ?_⟩
  cases ha
  have hne : bv bs ≠ [] := by
    intro e
    have : bs = [] := by simpa [bv] using e
    rw [this] at hx
    simp at hx
  obtain ⟨b, o, he, _, hc⟩ := h.2.2.2 hne
  cases he
  rw [Addr.add_lit]
  exact hc i _ (by simp [bv, hx])
section
variable {P : Program}
theorem step_copy_run {ops : Array Oper} {o : Oper} {a : Act} {w : World} {K : Act → World → Prop} {Q : Exit → Act → World → Prop} {E : Prop} (hgd : o.guard = none) (d s : Operand) (t t' : TypeId)
    (ho : o.op = .call { callee := .builtin .copy, args := #[d, s], argTypes := #[t, t'] }) (v u : Value) (hd : a.eval d = v) (hs : a.eval s = u) {v' : Value} {w' : World}
    (hr : (Builtin.copy_ #[t, t'] o.type #[v, u]).run P w = .ok v' w') (h : K (a.put o.dst v') w') : if Region.wanted o (yielded ops a.tmps) = true then Oper.wp P o a w K Q else E := by
  have hw : Region.wanted o (yielded ops a.tmps) = true := by simp [Region.wanted, hgd]
  rw [if_pos hw]
  exact Lib.wp_copy_run w d s t t' ho v u hd hs hr h
end
end Go.Proofs.Ytggcampdkgfmgaa.L11
namespace Go.Proofs.Ytggcampdkgfmgaa.L11
open Go.RowKit

end Go.Proofs.Ytggcampdkgfmgaa.L11
namespace Go.Proofs.Ytggcampdkgfmgaa.L11
open Go.RowKit

/-! What takes characters off the screen: the program's. -/
theorem concat_grow (u W : World) (hW : Below u.heap.size u W) (g : Nat) (A A2 : Option Addr) (n n2 c c2 : Nat) (xs ys : List UInt8) (hg : Box W g 27 #[.slice A n c, .slice A2 n2 c2]) (hx : Hid (SlB u u.heap.size A c xs)) (hy : Hid (SlB u u.heap.size A2 c2 ys)) (hn : Hid (xs.length = n)) (hn2 : Hid (ys.length = n2)) (hm : n + n2 ≤ 1000000) :
    Calls Try.prog 26 #[.slice (some ⟨g, 0, none⟩) 2 2] W fun e w' => ∃ A3 c3, e = .returned (.slice A3 (n + n2) c3) ∧ Hid ((xs ++ ys).length = n + n2) ∧ Hid (SlB w' w'.heap.size A3 c3 (xs ++ ys)) ∧ Below u.heap.size u w' ∧ Below W.heap.size W w' := by
  obtain rfl := hn.out
  obtain rfl := hn2.out
  have hl : LisV W W.heap.size (some ⟨g, 0, none⟩) [xs, ys] := fun _ => by
    refine ⟨g, 0, rfl, hg.lt, fun k hk => ?_⟩
    match k, hk with
    | 0, _ => exact ⟨A, c, (hg.cell 0), (slb_up hx hW).out⟩
    | 1, _ => exact ⟨A2, c2, (hg.cell 1), (slb_up hy hW).out⟩
  have hf : [xs, ys].flatten = xs ++ ys := by simp
  refine (concat_any W W.heap.size (some ⟨g, 0, none⟩) 2 [xs, ys] hl (Nat.le_refl _) (by show 2 ≤ 1000; decide) (by rw [hf, List.length_append]; omega)).mono ?_
  rw [hf]
  rintro e w' ⟨A3, c3, rfl, ho, hb⟩
  refine ⟨A3, c3, by rw [List.length_append], hid List.length_append, hid (own_slb (_n := 0) ho), hW.trans (hb.mono hW.size), hb⟩
attribute [local go_sem ↓] ex_ld26
attribute [local go_sem] isP_v blkV_v aggV_v
end Go.Proofs.Ytggcampdkgfmgaa.L11
