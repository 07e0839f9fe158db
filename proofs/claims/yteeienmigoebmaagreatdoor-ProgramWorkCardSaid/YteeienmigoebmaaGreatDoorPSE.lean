import Derived.Test.YteeienmigoebmaaGreatDoorPSD
import Derived.Laws.IdiomStrings
import Derived.Laws.BytesString
namespace Go.Proofs.YteeienmigoebmaaGreatDoor
namespace L19
open Go.RowKit L18

/-! Layer 19: the document's digits and escaped. -/
def byC (l : List UInt8) : List Value := l.map fun c => .int .u8 (c.toNat : Int)
theorem byC_one (l : List UInt8) : ∀ u ∈ byC l, u.oneCell' = true := by
  intro u hu
  obtain ⟨c, _, rfl⟩ := List.mem_map.1 hu
  rfl
theorem str_of (w : World) (B : Nat) (A : Option Addr) (c : Nat) (l : List UInt8) (h : Lies w B A (byC l)) : (convert 66 9 (.slice A l.length c)).run Tryz.prog w = .ok (.string (bs l)) w := by
  by_cases hn : l = []
  · subst hn
    refine (run_convert_bytes_string w 66 9 5 A 0 c Tryz.underlying66 Tryz.underlying5 Tryz.underlying9).trans ?_
    cases A with
    | none => simp [Conv.bytesToString]; rfl
    | some a => simp [Conv.bytesToString, loadCells, loadCellsFrom]; rfl
  · obtain ⟨b, o, rfl, _, hc⟩ := h (by simpa [byC] using hn)
    exact run_convert_bytes_back w 66 9 5 ⟨b, o, none⟩ c l Tryz.underlying66 Tryz.underlying5 Tryz.underlying9 fun j hj => by
      rw [Addr.add_lit]
      exact hc j _ (by simp [byC, hj])
theorem bs_app (a b : List UInt8) : bs (a ++ b) = bs a ++ bs b := by
  apply ByteArray.ext
  simp [bs]
theorem cat_ok {a b : List UInt8} (h : a.length + b.length ≤ 140737488355328) : ¬ 9223372036854775807 < (bs a).size + (bs b).size := by
  rw [bs_size, bs_size]
  exact Nat.not_lt.2 (Nat.le_trans h (by decide))
theorem dig_i {d : Nat} (h : d ≤ 9) : (48 + (d : Int)) = ((dig d).toNat : Int) := by
  rw [dig_nat h]
  omega
theorem str_dig (w : World) {d : Nat} (h : d ≤ 9) : (convert 66 9 (.slice (some ⟨w.heap.size, 0, none⟩) 1 1)).run Tryz.prog (w.alloc (.cells #[.int .u8 (48 + (d : Int))] 5)) = .ok (.string (bs [dig d])) (w.alloc (.cells #[.int .u8 (48 + (d : Int))] 5)) := by
  rw [dig_i h]
  exact str_of _ _ _ 1 [dig d] (lies_row w 5 (byC [dig d]) #[.int .u8 ((dig d).toNat : Int)] w.heap.size rfl rfl)
section
variable {w : World}
set_option maxRecDepth 100000 in
set_option maxHeartbeats 4000000 in
theorem digitsr_any (w : World) {a : Nat} (ha : a ≤ 999999) {s : List UInt8} (hs : Hid (digits a = s)) :
    Calls Tryz.prog 25 #[.int .i64 a] w fun e w' => e = .returned (.string (bs s)) ∧ Hid (Below w.heap.size w w') := by
  go_enter Tryz.func25, Tryz.ntmps25
  go_wp2
  go_loopw [0, 3] (fun x y wr => ∃ (m : Nat) (r : List UInt8), x = .int .i64 m ∧ y = .string (bs r) ∧ m ≤ 999999 ∧ r.length ≤ 6 ∧ Hid (digits m ++ r = s) ∧ Hid (Below w.heap.size w wr)) (fun x _ _ => (intOf x).toNat)
  case atStart => exact ⟨a, [], rfl, rfl, ha, by simp, hid (by simpa using hs.out), hid (Below.refl _ _)⟩
  case round =>
    obtain ⟨m, r, rfl, rfl, hm, hr6, HR, HB⟩ := hrel
    obtain ⟨d, hd⟩ : ∃ d, m % 10 = d := ⟨_, rfl⟩
    obtain ⟨m2, hm2⟩ : ∃ z, m / 10 = z := ⟨_, rfl⟩
    by_cases h9 : 9 < m
    · have t1 : (m : Int) > 9 := by omega
      have r1 : Int.tmod (m : Int) 10 = (d : Int) := by rw [← hd]; exact (Int.ofNat_tmod m 10).symm
      have r2 : Int.tdiv (m : Int) 10 = (m2 : Int) := by rw [← hm2]; exact (Int.ofNat_tdiv m 10).symm
      have r3 : IntKind.i64.wrap (48 + (d : Int)) = 48 + (d : Int) := IntWalk.i64_in _ (by omega)
      have r4 : IntKind.u8.wrap (48 + (d : Int)) = 48 + (d : Int) := by
        simp [IntKind.wrap, IntKind.bits]
        omega
      have HR2 : Hid (digits m2 ++ ([dig d] ++ r) = s) := hid (by rw [← HR.out, digits_big h9, hd, hm2, List.append_assoc])
      have B8 := fun ob => bel_al (o := ob) HB
      have hmm : m2 < m := by omega
      have hm3 : m2 ≤ 999999 := by omega
      have cv := str_dig wr (d := d) (by omega)
      have ha2 : bs [dig d] ++ bs r = bs ([dig d] ++ r) := (bs_app _ _).symm
      have hsz := cat_ok (a := [dig d]) (b := r) (by simp; omega)
      have hr5 : r.length + 1 ≤ 6 := by
        have h1 := congrArg List.length HR.out
        rw [← hs.out, List.length_append] at h1
        have h2 := digits_len 5 a (by omega)
        have h3 : 2 ≤ (digits m).length := by
          rw [digits_big h9, List.length_append]
          have := digits_pos (m / 10)
          simp
          omega
        omega
      clear hd hm2
      go_wp2
      go_roundw
      case rel => exact ⟨m2, [dig d] ++ r, rfl, rfl, hm3, by simpa using hr5, HR2, B8 _⟩
      case measure => simp [intOf] <;> omega
    · have t1 : ¬ (m : Int) > 9 := by omega
      have r3 : IntKind.i64.wrap (48 + (m : Int)) = 48 + (m : Int) := IntWalk.i64_in _ (by omega)
      have r4 : IntKind.u8.wrap (48 + (m : Int)) = 48 + (m : Int) := by
        simp [IntKind.wrap, IntKind.bits]
        omega
      have cv := str_dig wr (d := m) (by omega)
      have hsz := cat_ok (a := [dig m]) (b := r) (by simp; omega)
      have ha2 : bs [dig m] ++ bs r = bs s := by rw [← bs_app, ← HR.out, digits_small (by omega)]
      have B8 := fun ob => bel_al (o := ob) HB
      clear hd hm2
      go_wp2
      go_ret
      exact ⟨rfl, B8 _⟩
end
end L19
end Go.Proofs.YteeienmigoebmaaGreatDoor
