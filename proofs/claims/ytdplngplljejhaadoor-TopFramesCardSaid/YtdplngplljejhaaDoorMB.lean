import Derived.Test.YtdplngplljejhaaDoorMA
import Derived.Laws.IdiomStrings
namespace Go.Proofs.YtdplngplljejhaaDoor
open Go.RowKit

namespace Pl
def fld (m : Mg) : Pl → Fd
  | code => ⟨3, m.code, [], []⟩
  | text => ⟨4, 0, m.data, []⟩
  | lang => ⟨4, 0, m.lang.data.toList, []⟩
  | name => ⟨4, 0, m.name.data.toList, []⟩
  | want => ⟨2, if m.want then 1 else 0, [], []⟩
  | rest => ⟨6, 0, m.data, []⟩
  | sender => ⟨3, m.sender, [], []⟩
  | window => ⟨3, m.window, [], []⟩
  | packet => ⟨3, m.packet, [], []⟩
  | chan => ⟨3, m.chan, [], []⟩
def ok (m : Mg) : Pl → Bool
  | lang => wordOk 0 m.lang
  | name => wordOk 1 m.name
  | _ => true
end Pl

theorem wordByte_iff (c : UInt8) : wordByte c = true ↔ 33 ≤ c.toNat ∧ c.toNat ≤ 126 := by simp [wordByte]
theorem wordOk_bad (l : Nat) (s : ByteArray) (k : Nat) (h : k < s.size) (hb : wordByte s[k] = false) : wordOk l s = false := by
  have : s.data.toList.all wordByte = false := by
    rw [List.all_eq_false]
    exact ⟨s[k], by simp [ByteArray.getElem_eq_getElem_data], by simp [hb]⟩
  simp [wordOk, this]
theorem wordOk_len (l : Nat) (s : ByteArray) (h : ¬(l ≤ s.size ∧ s.size ≤ 64)) : wordOk l s = false := by
  simp only [wordOk, Bool.and_eq_false_iff, decide_eq_false_iff_not]
  omega
theorem wordOk_all (l : Nat) (s : ByteArray) (h1 : l ≤ s.size) (h2 : s.size ≤ 64) (h : s.data.toList.all wordByte = true) : wordOk l s = true := by
  simp [wordOk, h1, h2, h]
theorem wordOk_size {l : Nat} {s : ByteArray} (h : wordOk l s = true) : s.size ≤ 64 := by
  simp only [wordOk, Bool.and_eq_true, decide_eq_true_eq] at h
  omega

/-- Bytes that nothing turns: below a block, or in a block of bytes. -/
def TK (w : World) (base : Nat) (A : Option Addr) (c : Nat) (bs : List UInt8) : Prop :=
  bs.length ≤ c ∧ c ≤ maxLen ∧ (bs ≠ [] → ∃ b o, A = some ⟨b, o, none⟩ ∧ b < w.heap.size ∧ (b < base ∨ ∃ cur fr, w.heap[b]? = some (.cells cur 5 fr)) ∧ ∀ j u, (bv bs)[j]? = some u → w.cell? ⟨b, o + j, none⟩ = some u)
theorem TK.kept {w w' : World} {base c : Nat} {A : Option Addr} {bs : List UInt8} {T : List TypeId} (h : TK w base A c bs) (k : Kept base T w w') (h5 : 5 ∉ T) : TK w' base A c bs := by
  obtain ⟨h1, h2, h3⟩ := h
  refine ⟨h1, h2, fun hn => ?_⟩
  obtain ⟨b, o, rfl, hb, ho, hc⟩ := h3 hn
  have hh : w'.heap[b]? = w.heap[b]? := k.block b hb (ho.imp id (by
    rintro ⟨cur, fr, e⟩ cs t fr' e'
    rw [e] at e'
    injection e' with e'
    injection e' with _ e'
    subst e'
    exact h5))
  refine ⟨b, o, rfl, Nat.lt_of_lt_of_le hb k.size, ho.imp id (by rintro ⟨cur, fr, e⟩; exact ⟨cur, fr, hh.trans e⟩), fun j u hu => ?_⟩
  rw [World.cell?_of_block (w := w) hh]
  exact hc j u hu
theorem TK.below {w w' : World} {base c : Nat} {A : Option Addr} {bs : List UInt8} (h : TK w base A c bs) (k : Below w.heap.size w w') : TK w' base A c bs := h.kept (Kept.of_below k _ []) (by simp)
theorem TK.lies {w : World} {base c : Nat} {A : Option Addr} {bs : List UInt8} (h : TK w base A c bs) : Lies w w.heap.size A (bv bs) := fun hn => by
  obtain ⟨b, o, e, hb, _, hc⟩ := h.2.2 (by intro e; subst e; simp [bv] at hn)
  exact ⟨b, o, e, hb, hc⟩
theorem TK.of_low {w : World} {base c : Nat} {A : Option Addr} {bs : List UInt8} (h1 : bs.length ≤ c) (h2 : c ≤ maxLen) (h : Lies w base A (bv bs)) (hb : base ≤ w.heap.size) : TK w base A c bs := by
  refine ⟨h1, h2, fun hn => ?_⟩
  obtain ⟨b, o, e, hlt, hc⟩ := h (by simpa [bv] using hn)
  exact ⟨b, o, e, by omega, .inl hlt, hc⟩
theorem TK.nil_ (w : World) (base : Nat) : TK w base none 0 [] := ⟨Nat.le_refl _, Nat.zero_le _, fun h => absurd rfl h⟩

def Mg.cells (m : Mg) (A : Option Addr) (c : Nat) : Array Value :=
  #[.int .i64 m.kind, .int .u32 m.chan, .int .u32 m.sender, .int .u32 m.window, .int .u32 m.packet, .int .u32 m.code, .string m.name, .string m.lang, .bool m.want, .slice A m.data.length c]
/-- A letter's block. -/
def MsgB (w : World) (base g : Nat) (m : Mg) : Prop :=
  m.name.size ≤ maxLen ∧ m.lang.size ≤ maxLen ∧ ∃ A c, Box w g 89 (m.cells A c) ∧ TK w base A c m.data

set_option maxHeartbeats 800000 in
set_option maxRecDepth 100000 in
theorem right_any (a : Addr) (l : Nat) (s : ByteArray) (w : World) (hs : s.size ≤ maxLen) (hl : l ≤ 1) (hc : w.cell? a = some (.string s)) (ha : a.block < w.heap.size) :
    Calls Tryd.prog 126 #[.agg #[.pointer (some a), .int .i64 l]] w fun e w' => e = .returned (.bool (wordOk l s)) ∧ Below w.heap.size w w' := by
  unfold maxLen at hs
  have hb0 : ∀ o, Below w.heap.size w (w.alloc o) := fun o => (Below.refl _ _).alloc (Nat.le_refl _) o
  have hc1 : ∀ o, (w.alloc o).cell? a = some (.string s) := fun o => ((hb0 o).cell ha).trans hc
  by_cases h0 : l ≤ s.size ∧ s.size ≤ 64
  · obtain ⟨h1, h2⟩ := h0
    have hd1 : decide ((s.size : Int) < l) = false := by simp; omega
    have hd2 : decide (64 < (s.size : Int)) = false := by simp; omega
    go_enter Tryd.func126, Tryd.ntmps126
    go_wp2
    go_loop [21] (fun i => ∃ k : Nat, k ≤ s.size ∧ i = .int .i64 k ∧ Hid ((s.data.toList.take k).all wordByte = true)) (fun i => s.size - (intOf i).toNat)
    case atStart => exact ⟨0, Nat.zero_le _, rfl, hid rfl⟩
    case round =>
      obtain ⟨k, hk, rfl, HA⟩ := hrel
      by_cases hlt : k < s.size
      · by_cases hb : wordByte s[k] = true
        · have hbi := (wordByte_iff _).1 hb
          have hts := take_snoc s.data.toList k (by simpa using hlt)
          have hS : (s.data.toList.take (k + 1)).all wordByte = true := by
            rw [hts, List.all_append, HA.out]
            simp [← ByteArray.getElem_eq_getElem_data, hb]
          have HS := hid hS
          clear hts hb hS
          have ha : (33 : Int) ≤ s[k].toNat := by omega
          have hb : (s[k].toNat : Int) ≤ 126 := by omega
          clear hbi
          go_wp2
          go_round
          case rel => exact ⟨_, _, _, ⟨k + 1, by omega, by go_num, hid (by simpa using HS.out)⟩, rfl, rfl, rfl⟩
          case measure => simp [intOf]; omega
        · have HF := hid (wordOk_bad l s k hlt (by simpa using hb))
          have HB : Hid (¬ (33 ≤ s[k].toNat ∧ s[k].toNat ≤ 126)) := fun h => hb ((wordByte_iff _).2 h)
          clear hb
          go_wp2
          all_goals first
            | (go_ret; exact ⟨ret_bool HF.out.symm, hb0 _⟩)
            | (exfalso; have h1 := HB.out; simp at *; omega)
      · have hks : k = s.size := by omega
        have HK := hid hks
        clear hks
        go_wp2
        go_ret
        exact ⟨ret_bool (wordOk_all l s h1 h2 (by have h := HA.out; rw [HK.out, List.take_of_length_le (by simp)] at h; exact h)).symm, hb0 _⟩
  · have HF := hid (wordOk_len l s h0)
    rcases Nat.lt_or_ge s.size l with h1 | h1
    · have hd1 : (s.size : Int) < l := by omega
      clear h0 h1
      go_enter Tryd.func126, Tryd.ntmps126
      go_wp2
      go_ret
      exact ⟨ret_bool HF.out.symm, hb0 _⟩
    · have hd1 : decide ((s.size : Int) < l) = false := by simp; omega
      have hd2 : (64 : Int) < s.size := by omega
      clear h0 h1
      go_enter Tryd.func126, Tryd.ntmps126
      go_wp2
      go_ret
      exact ⟨ret_bool HF.out.symm, hb0 _⟩

set_option maxHeartbeats 800000 in
set_option maxRecDepth 100000 in
theorem get80 (a : Addr) (n : Nat) (w : World) (ha : a.block < w.heap.size) (hc : w.cell? a = some (.int .u32 n)) :
    Calls Tryd.prog 115 #[.agg #[.pointer (some a)]] w fun e w' => e = .returned (.tuple #[.agg #[.int .i64 0, .int .u32 n, .slice none 0 0, .slice none 0 0], .int .i64 0]) ∧ Below w.heap.size w w' := by
  have hc1 : ∀ o, (w.alloc o).cell? a = some (.int .u32 n) := fun o => (((Below.refl _ _).alloc (Nat.le_refl _) o : Below w.heap.size w (w.alloc o)).cell ha).trans hc
  have hc2 : ∀ o o', ((w.alloc o).alloc o').cell? a = some (.int .u32 n) := fun o o' => ((((Below.refl _ _).alloc (Nat.le_refl _) o).alloc (by simp) o' : Below w.heap.size w ((w.alloc o).alloc o')).cell ha).trans hc
  go_enter Tryd.func115, Tryd.ntmps115
  go_wp2
  refine bodyPost_ret (v := .tuple #[.agg #[.int .i64 0, .int .u32 n, .slice none 0 0, .slice none 0 0], .int .i64 0]) (by simp [results, Tryd.results115, go_sem]) rfl ⟨rfl, ?_⟩
  exact ((Below.refl _ _).alloc (Nat.le_refl _) _).alloc (by simp) _

set_option maxHeartbeats 800000 in
set_option maxRecDepth 100000 in
theorem get82 (a : Addr) (A : Option Addr) (n c : Nat) (w : World) (ha : a.block < w.heap.size) (hc : w.cell? a = some (.slice A n c)) :
    Calls Tryd.prog 117 #[.agg #[.pointer (some a)]] w fun e w' => e = .returned (.tuple #[.agg #[.int .i64 0, .int .u32 0, .slice A n c, .slice none 0 0], .int .i64 0]) ∧ Below w.heap.size w w' := by
  have hc1 : ∀ o, (w.alloc o).cell? a = some (.slice A n c) := fun o => (((Below.refl _ _).alloc (Nat.le_refl _) o : Below w.heap.size w (w.alloc o)).cell ha).trans hc
  have hc2 : ∀ o o', ((w.alloc o).alloc o').cell? a = some (.slice A n c) := fun o o' => ((((Below.refl _ _).alloc (Nat.le_refl _) o).alloc (by simp) o' : Below w.heap.size w ((w.alloc o).alloc o')).cell ha).trans hc
  go_enter Tryd.func117, Tryd.ntmps117
  go_wp2
  refine bodyPost_ret (v := .tuple #[.agg #[.int .i64 0, .int .u32 0, .slice A n c, .slice none 0 0], .int .i64 0]) (by simp [results, Tryd.results117, go_sem]) rfl ⟨rfl, ?_⟩
  exact ((Below.refl _ _).alloc (Nat.le_refl _) _).alloc (by simp) _

end Go.Proofs.YtdplngplljejhaaDoor
