import Derived.Test.YtidgbojgdllghaaRH
import Derived.Lib.SlBytesConst
import Derived.Laws.IdiomStrings
namespace Go.Proofs.Ytidgbojgdllghaa
open Go.RowKit

theorem str_back (w : World) (B : Nat) (A : Option Addr) (c : Nat) (tx : List UInt8) (h : Lies w B A (bv tx)) :
    (convert 32 9 (.slice A tx.length c)).run Try.prog w = .ok (.string ⟨tx.toArray⟩) w := by
  by_cases hn : tx = []
  · subst hn
    refine (run_convert_bytes_string w 32 9 5 A 0 c Try.underlying32 Try.underlying5 Try.underlying9).trans ?_
    cases A with
    | none => simp [Conv.bytesToString]; rfl
    | some a => simp [Conv.bytesToString, loadCells, loadCellsFrom]; rfl
  · obtain ⟨b, o, rfl, _, hc⟩ := h (by simpa [bv] using hn)
    exact run_convert_bytes_back w 32 9 5 ⟨b, o, none⟩ c tx Try.underlying32 Try.underlying5 Try.underlying9 fun j hj => by
      rw [Addr.add_lit]
      exact hc j _ (by simp [bv, hj])

set_option maxHeartbeats 1000000 in
theorem write_nil (w : World) (A : Option Addr) (c : Nat) : Calls Try.prog 18 #[.pointer none, .slice A 1 c] w fun e w' => e = .returned (.int .i64 0) ∧ w' = w := by
  go_enter Try.func18, Try.ntmps18
  go_wp2_with (first
    | (go_at_call 16
       ((with_reducible refine (room_nil _).mono ?_); rintro e w2 ⟨rfl, rfl⟩)))
  go_ret
  exact ⟨rfl, rfl⟩
theorem write_lit (W : World) {g h size : Nat} {q b q' : List UInt8} (gg n m : Nat) (C : Array Value) (fr : Nat × Nat) (hC : C.toList = bv b) (hn : Hid (b.length = n)) (hgg : W.heap.size = gg) (hm : m = min b.length (size - q.length)) (hq : q ++ b.take m = q') (hl : n ≤ 100) (hr : Hid (Rg W g h size q)) :
    Calls Try.prog 18 #[.pointer (some ⟨g, 0, none⟩), .slice (some ⟨gg, 0, none⟩) n n] (W.alloc (.cells C 5 fr)) fun e w' => e = .returned (.int .i64 m) ∧ Hid (Rg w' g h size q') ∧ Hid (But [g, h] W w') := by
  have hn0 := hn.out
  subst hn0
  subst hgg
  subst hq
  have hlt := hr.out.lt
  have hL := lit_lies W C 5 fr W.heap.size rfl
  rw [hC] at hL
  refine (write_any _ m hm (rg_al hr _) ⟨Nat.le_refl _, by unfold maxLen; omega, by simp, hL.more (by simp)⟩ (fun _ a e => by injection e with e; subst e; exact fun e => by have := hlt.2; simp at e; omega)).mono ?_
  rintro e w2 ⟨rfl, h1, h2⟩
  exact ⟨rfl, h1, ((But.refl _ _).alloc _).same h2.out⟩
theorem read_n (w : World) {g h size : Nat} {q t q' : List UInt8} (n : Int) (k : Nat) (hk : had n q.length = k) (ht : q.take k = t) (hq : q.drop k = q') (hr : Hid (Rg w g h size q)) :
    Calls Try.prog 19 #[.pointer (some ⟨g, 0, none⟩), .int .i64 n] w fun e w' => ∃ A c, e = .returned (.slice A k c) ∧ Hid (w'.ownsRow w.heap.size 5 1 (.slice A k c) k (bv t)) ∧ Hid (Rg w' g h size q') ∧ Hid (But [g] w w') := by
  subst hk; subst ht; subst hq
  exact read_any w n hr
theorem peek_n (w : World) {g h size : Nat} {q t : List UInt8} (n : Int) (k : Nat) (hk : had n q.length = k) (ht : q.take k = t) (hr : Hid (Rg w g h size q)) :
    Calls Try.prog 17 #[.pointer (some ⟨g, 0, none⟩), .int .i64 n] w fun e w' => ∃ A c, e = .returned (.slice A k c) ∧ Hid (w'.ownsRow w.heap.size 5 1 (.slice A k c) k (bv t)) ∧ Hid (Below w.heap.size w w') := by
  subst hk; subst ht
  exact peek_any w n hr
theorem len_n (w : World) {g h size : Nat} {q : List UInt8} (k : Nat) (hk : q.length = k) (hr : Hid (Rg w g h size q)) : Calls Try.prog 14 #[.pointer (some ⟨g, 0, none⟩)] w fun e w' => e = .returned (.int .i64 k) ∧ w' = w := by
  subst hk
  exact len_any w hr
theorem room_n (w : World) {g h size : Nat} {q : List UInt8} (k : Nat) (hk : size - q.length = k) (hr : Hid (Rg w g h size q)) : Calls Try.prog 16 #[.pointer (some ⟨g, 0, none⟩)] w fun e w' => e = .returned (.int .i64 k) ∧ w' = w := by
  subst hk
  exact room_any w hr
theorem new_n (w : World) (n : Int) (k : Nat) (hk : n = k) (h1 : 1 ≤ k) (h2 : k ≤ 65536) : Calls Try.prog 9 #[.int .i64 n] w fun e w' => ∃ g, e = .returned (.tuple #[.pointer (some ⟨g, 0, none⟩), .int .i64 0]) ∧ ∃ h, Hid (Rg w' g h k []) ∧ w.heap.size ≤ g ∧ w.heap.size ≤ h ∧ Hid (Below w.heap.size w w') := by
  subst hk
  exact new_any w k h1 h2

set_option maxHeartbeats 2000000 in
set_option maxRecDepth 100000 in
theorem alive_any (w : World) : Calls Try.prog 7 #[] w fun e w' => e = .returned (.bool true) ∧ Hid (Below w.heap.size w w') := by
  have hcv := fun (w : World) (C : Array Value) (n c : Nat) => Lib.run_convert_bytes_const (P := Try.prog) w 32 5 C n c Try.underlying32 Try.underlying5
  go_enter Try.func7, Try.ntmps7
  go_wp2_with (first
    | (go_at_call 9
       ((with_reducible refine (new_n _ 3 3 rfl (by omega) (by omega)).mono ?_); rintro e w1 ⟨g, rfl, h, HR1, hg1, hh1, HB1⟩))
    | (go_at_call 18
       ((with_reducible refine (write_lit _ _ 4 3 #[.int .u8 97, .int .u8 98, .int .u8 99, .int .u8 100] _ (b := [97, 98, 99, 100]) (q' := [97, 98, 99]) (by simp [bv]) (hid rfl) rfl (by decide) (by decide) (by omega) HR1).mono ?_); rintro e w2 ⟨rfl, HR2, HK2⟩))
    | (go_at_call 19
       ((with_reducible refine (read_n _ 2 2 (t := [97, 98]) (q' := [99]) (by decide) (by decide) (by decide) HR2).mono ?_); rintro e w3 ⟨A3, c3, rfl, HO3, HR3, HK3⟩)
       have hcs : (convert 32 9 (.slice A3 2 c3)).run Try.prog w3 = .ok (.string ⟨#[97, 98]⟩) w3 := str_back w3 _ A3 c3 [97, 98] (Lies.own HO3.out))
    | (go_at_call 18
       ((with_reducible refine (write_lit _ _ 2 2 #[.int .u8 101, .int .u8 102] _ (b := [101, 102]) (q' := [99, 101, 102]) (by simp [bv]) (hid rfl) rfl (by decide) (by decide) (by omega) HR3).mono ?_); rintro e w4 ⟨rfl, HR4, HK4⟩))
    | (go_at_call 17
       ((with_reducible refine (peek_n _ 9 3 (t := [99, 101, 102]) (by decide) (by decide) HR4).mono ?_); rintro e w5 ⟨A5, c5, rfl, HO5, HB5⟩)
       have hcs2 : (convert 32 9 (.slice A5 3 c5)).run Try.prog w5 = .ok (.string ⟨#[99, 101, 102]⟩) w5 := str_back w5 _ A5 c5 [99, 101, 102] (Lies.own HO5.out)
       have HR5 : Hid (Rg w5 g h 3 [99, 101, 102]) := HR4.out.keep (But.of_below HB5.out []) (by simp) (by simp))
    | (go_at_call 16
       ((with_reducible refine (room_n _ 0 (by decide) HR5).mono ?_); rintro e w6 ⟨rfl, rfl⟩))
    | (go_at_call 14
       ((with_reducible refine (len_n _ 3 (by decide) HR5).mono ?_); rintro e w6 ⟨rfl, rfl⟩))
    | (go_at_call 18
       ((with_reducible refine (write_nil _ _ _).mono ?_); rintro e w6 ⟨rfl, rfl⟩))
    | (go_at_call 14
       ((with_reducible refine (len_nil _).mono ?_); rintro e w6 ⟨rfl, rfl⟩)))
  go_ret
  have hk : But [g, h] w1 w6 := ((HK2.out.same (HK3.out.mono (by simp))).same HK4.out).same (But.of_below HB5.out _)
  have hb : Below w.heap.size w1 w6 := hk.below HB1.out.size (by simp; omega)
  exact ⟨rfl, (HB1.out.trans hb).alloc (HB1.out.trans hb).size _⟩
end Go.Proofs.Ytidgbojgdllghaa
