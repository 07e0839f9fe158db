import Derived.Test.YtlmdbcmaophhnaaDoorMI
namespace Go.Proofs.YtlmdbcmaophhnaaDoor
open Go.RowKit

set_option maxHeartbeats 1000000 in
set_option maxRecDepth 100000 in
theorem rword_any (l : Nat) (s : ByteArray) (w : World) (hs : s.size ≤ maxLen) (hl : l ≤ 1) :
    Calls Tryd.prog 33 #[.string s, .int .i64 l] w fun e w' => e = .returned (.bool (wordOk l s)) ∧ w = w' := by
  unfold maxLen at hs
  by_cases h0 : l ≤ s.size ∧ s.size ≤ 64
  · obtain ⟨h1, h2⟩ := h0
    have hd1 : decide ((s.size : Int) < l) = false := by simp; omega
    have hd2 : decide (64 < (s.size : Int)) = false := by simp; omega
    go_enter Tryd.func33, Tryd.ntmps33
    go_wp2
    go_loop [5] (fun i => ∃ k : Nat, k ≤ s.size ∧ i = .int .i64 k ∧ (s.data.toList.take k).all wordByte = true) (fun i => s.size - (intOf i).toNat)
    case atStart => exact ⟨0, Nat.zero_le _, rfl, rfl⟩
    case round =>
      obtain ⟨k, hk, rfl, hal⟩ := hrel
      have HA := hid hal; clear hal
      by_cases hlt : k < s.size
      · by_cases hb : wordByte s[k] = true
        · have hbi := (wordByte_iff _).1 hb
          have hts := take_snoc s.data.toList k (by simpa using hlt)
          have hS : (s.data.toList.take (k + 1)).all wordByte = true := by
            rw [hts, List.all_append, HA.out]
            simp [← ByteArray.getElem_eq_getElem_data, hb]
          have HS := hid hS
          clear hts hb hS
          have ha : (33 : Int) ≤ s[k].toNat := by omega
          have hb : (s[k].toNat : Int) ≤ 126 := by omega
          clear hbi
          go_wp2
          go_round
          case rel => exact ⟨k + 1, by omega, by go_num, by simpa using HS.out⟩
          case measure => simp [intOf]; omega
        · have HF := hid (wordOk_bad l s k hlt (by simpa using hb))
          have HB : Hid (¬ (33 ≤ s[k].toNat ∧ s[k].toNat ≤ 126)) := fun h => hb ((wordByte_iff _).2 h)
          clear hb
          go_wp2
          all_goals first
            | (go_ret; exact ⟨ret_bool HF.out.symm, rfl⟩)
            | (exfalso; have h1 := HB.out; simp at *; omega)
      · have hks : k = s.size := by omega
        have HK := hid hks
        clear hks
        go_wp2
        go_ret
        exact ⟨ret_bool (wordOk_all l s h1 h2 (by have h := HA.out; rw [HK.out, List.take_of_length_le (by simp)] at h; exact h)).symm, rfl⟩
  · have HF := hid (wordOk_len l s h0)
    rcases Nat.lt_or_ge s.size l with h1 | h1
    · have hd1 : (s.size : Int) < l := by omega
      clear h0 h1
      go_enter Tryd.func33, Tryd.ntmps33
      go_wp2
      go_ret
      exact ⟨ret_bool HF.out.symm, rfl⟩
    · have hd1 : decide ((s.size : Int) < l) = false := by simp; omega
      have hd2 : (64 : Int) < s.size := by omega
      clear h0 h1
      go_enter Tryd.func33, Tryd.ntmps33
      go_wp2
      go_ret
      exact ⟨ret_bool HF.out.symm, rfl⟩

set_option maxHeartbeats 1000000 in
set_option maxRecDepth 100000 in
theorem made28 (n : Nat) (w : World) : Calls Tryd.prog 28 #[.int .u32 n] w fun e w' => e = .returned (.agg #[.int .i64 3, .int .u32 n, .slice none 0 0, .slice none 0 0]) ∧ Hid (Below w.heap.size w w') := by
  go_enter Tryd.func28, Tryd.ntmps28
  go_wp2
  refine bodyPost_ret (v := .agg #[.int .i64 3, .int .u32 n, .slice none 0 0, .slice none 0 0]) (by simp [results, Tryd.results28, go_sem]) rfl ?_
  exact ⟨rfl, bel1 _ _⟩
set_option maxHeartbeats 1000000 in
set_option maxRecDepth 100000 in
theorem made29 (l c : Nat) (A : Option Addr) (w : World) : Calls Tryd.prog 29 #[.slice A l c] w fun e w' => e = .returned (.agg #[.int .i64 4, .int .u32 0, .slice A l c, .slice none 0 0]) ∧ Hid (Below w.heap.size w w') := by
  go_enter Tryd.func29, Tryd.ntmps29
  go_wp2
  refine bodyPost_ret (v := .agg #[.int .i64 4, .int .u32 0, .slice A l c, .slice none 0 0]) (by simp [results, Tryd.results29, go_sem]) rfl ?_
  exact ⟨rfl, bel1 _ _⟩
set_option maxHeartbeats 1000000 in
set_option maxRecDepth 100000 in
theorem made32 (l c : Nat) (A : Option Addr) (w : World) : Calls Tryd.prog 32 #[.slice A l c] w fun e w' => e = .returned (.agg #[.int .i64 6, .int .u32 0, .slice A l c, .slice none 0 0]) ∧ Hid (Below w.heap.size w w') := by
  go_enter Tryd.func32, Tryd.ntmps32
  go_wp2
  refine bodyPost_ret (v := .agg #[.int .i64 6, .int .u32 0, .slice A l c, .slice none 0 0]) (by simp [results, Tryd.results32, go_sem]) rfl ?_
  exact ⟨rfl, bel1 _ _⟩
set_option maxHeartbeats 1000000 in
set_option maxRecDepth 100000 in
theorem made31 (b : Bool) (n : Nat) (hn : (if b then 1 else 0) = n) (w : World) : Calls Tryd.prog 31 #[.bool b] w fun e w' => e = .returned (.agg #[.int .i64 2, .int .u32 n, .slice none 0 0, .slice none 0 0]) ∧ Hid (Below w.heap.size w w') := by
  cases b with
  | true =>
    obtain rfl : 1 = n := hn
    go_enter Tryd.func31, Tryd.ntmps31
    go_wp2
    refine bodyPost_ret (v := .agg #[.int .i64 2, .int .u32 1, .slice none 0 0, .slice none 0 0]) (by simp [results, Tryd.results31, go_sem]) rfl ?_
    exact ⟨rfl, bel1 _ _⟩
  | false =>
    obtain rfl : 0 = n := hn
    go_enter Tryd.func31, Tryd.ntmps31
    go_wp2
    refine bodyPost_ret (v := .agg #[.int .i64 2, .int .u32 0, .slice none 0 0, .slice none 0 0]) (by simp [results, Tryd.results31, go_sem]) rfl ?_
    exact ⟨rfl, bel1 _ _⟩
set_option maxHeartbeats 1000000 in
set_option maxRecDepth 100000 in
theorem made30 (base n : Nat) (s : ByteArray) (w : World) (hn : s.data.toList.length = n) (hs : s.size ≤ maxLen) (hb : base ≤ w.heap.size) : Calls Tryd.prog 30 #[.string s] w fun e w' => ∃ tA tc, e = .returned (.agg #[.int .i64 4, .int .u32 0, .slice tA n tc, .slice none 0 0]) ∧ Hid (Below w.heap.size w w') ∧ Hid (TK w' base tA tc s.data.toList) := by
  rw [str_len] at hn
  subst hn
  have hcv := Lib.run_convert_string_bytes (P := Tryd.prog) (w.alloc (.cells #[.int .i64 0, .int .u32 0, .slice none 0 0, .slice none 0 0] 50)) 9 23 5 s Tryd.underlying9 Tryd.underlying23 Tryd.underlying5
  have htk := conv_tk (w.alloc (.cells #[.int .i64 0, .int .u32 0, .slice none 0 0, .slice none 0 0] 50)) base s hs
  have hbc := bel_conv (w.alloc (.cells #[.int .i64 0, .int .u32 0, .slice none 0 0, .slice none 0 0] 50)) s
  generalize Lib.bytesWorld (w.alloc (.cells #[.int .i64 0, .int .u32 0, .slice none 0 0, .slice none 0 0] 50)) 5 s = w2 at hcv htk hbc
  have hr1 : Box w2 w.heap.size 50 #[.int .i64 0, .int .u32 0, .slice none 0 0, .slice none 0 0] := (Box.new w 50 _).same (hbc.block _ (by simp))
  have d0 : w2.cell? ⟨w.heap.size, 0, none⟩ = some (.int .i64 0) := hr1.cell 0
  have d1 : w2.cell? ⟨w.heap.size, 1, none⟩ = some (.int .u32 0) := hr1.cell 1
  have d2 : w2.cell? ⟨w.heap.size, 2, none⟩ = some (.slice none 0 0) := hr1.cell 2
  have d3 : w2.cell? ⟨w.heap.size, 3, none⟩ = some (.slice none 0 0) := hr1.cell 3
  have f0 : w2.frozen? ⟨w.heap.size, 0, none⟩ = false := hr1.frozen 0
  have f1 : w2.frozen? ⟨w.heap.size, 1, none⟩ = false := hr1.frozen 1
  have f2 : w2.frozen? ⟨w.heap.size, 2, none⟩ = false := hr1.frozen 2
  have f3 : w2.frozen? ⟨w.heap.size, 3, none⟩ = false := hr1.frozen 3
  have HBW : Hid (Below w.heap.size w w2) := (bel1 w _).trans (hbc.mono (by simp))
  have HTK := hid htk
  have HR1 := hid hr1
  clear hr1 hbc htk
  go_enter Tryd.func30, Tryd.ntmps30
  go_wp2
  refine bodyPost_ret (v := .agg #[.int .i64 4, .int .u32 0, .slice (some ⟨(w.alloc (.cells #[.int .i64 0, .int .u32 0, .slice none 0 0, .slice none 0 0] 50)).heap.size, 0, none⟩) s.size (grownCap (w.alloc (.cells #[.int .i64 0, .int .u32 0, .slice none 0 0, .slice none 0 0] 50)) s.size 0 5), .slice none 0 0]) (by simp [results, Tryd.results30, go_sem, d0, d1, d2, d3]) rfl ?_
  refine ⟨_, _, rfl, (((HBW.out.setCell (by simp) _).setCell (by simp) _).setCell (by simp) _).setCell (by simp) _, ?_⟩
  exact HTK.out.kept (kept4 HR1.out hb _ _ _ _) (T := [50]) (by simp)

def wordsB (m : Mg) : Bool := match look m.kind tab with
  | none => true
  | some ps => ps.all (Pl.ok m)
set_option maxHeartbeats 1000000 in
set_option maxRecDepth 100000 in
theorem words21_1 (ch se wi pa co n c : Nat) (nm lg : ByteArray) (wt : Bool) (A : Option Addr) (w : World) (hs : lg.size ≤ maxLen) :
    Calls Tryd.prog 21 #[.agg #[.int .i64 1, .int .u32 ch, .int .u32 se, .int .u32 wi, .int .u32 pa, .int .u32 co, .string nm, .string lg, .bool wt, .slice A n c]] w fun e w' => e = .returned (.bool (wordOk 0 lg)) ∧ Below w.heap.size w w' := by
  go_enter Tryd.func21, Tryd.ntmps21
  go_wp2_with (go_at_call 33; refine (rword_any 0 lg _ hs (by omega)).mono ?_; rintro e w' ⟨rfl, rfl⟩)
  go_ret
  exact ⟨rfl, bel1 _ _⟩
set_option maxHeartbeats 1000000 in
set_option maxRecDepth 100000 in
theorem words21_80 (ch se wi pa co n c : Nat) (nm lg : ByteArray) (wt : Bool) (A : Option Addr) (w : World) (hs : nm.size ≤ maxLen) :
    Calls Tryd.prog 21 #[.agg #[.int .i64 80, .int .u32 ch, .int .u32 se, .int .u32 wi, .int .u32 pa, .int .u32 co, .string nm, .string lg, .bool wt, .slice A n c]] w fun e w' => e = .returned (.bool (wordOk 1 nm)) ∧ Below w.heap.size w w' := by
  go_enter Tryd.func21, Tryd.ntmps21
  go_wp2_with (go_at_call 33; refine (rword_any 1 nm _ hs (by omega)).mono ?_; rintro e w' ⟨rfl, rfl⟩)
  go_ret
  exact ⟨rfl, bel1 _ _⟩
set_option maxHeartbeats 1000000 in
set_option maxRecDepth 100000 in
theorem words21_81 (ch se wi pa co n c : Nat) (nm lg : ByteArray) (wt : Bool) (A : Option Addr) (w : World) :
    Calls Tryd.prog 21 #[.agg #[.int .i64 81, .int .u32 ch, .int .u32 se, .int .u32 wi, .int .u32 pa, .int .u32 co, .string nm, .string lg, .bool wt, .slice A n c]] w fun e w' => e = .returned (.bool true) ∧ Below w.heap.size w w' := by
  go_enter Tryd.func21, Tryd.ntmps21
  go_wp2
  go_ret
  exact ⟨rfl, bel1 _ _⟩
set_option maxHeartbeats 1000000 in
set_option maxRecDepth 100000 in
theorem words21_82 (ch se wi pa co n c : Nat) (nm lg : ByteArray) (wt : Bool) (A : Option Addr) (w : World) :
    Calls Tryd.prog 21 #[.agg #[.int .i64 82, .int .u32 ch, .int .u32 se, .int .u32 wi, .int .u32 pa, .int .u32 co, .string nm, .string lg, .bool wt, .slice A n c]] w fun e w' => e = .returned (.bool true) ∧ Below w.heap.size w w' := by
  go_enter Tryd.func21, Tryd.ntmps21
  go_wp2
  go_ret
  exact ⟨rfl, bel1 _ _⟩
set_option maxHeartbeats 1000000 in
set_option maxRecDepth 100000 in
theorem words21_90 (ch se wi pa co n c : Nat) (nm lg : ByteArray) (wt : Bool) (A : Option Addr) (w : World) (hs : nm.size ≤ maxLen) :
    Calls Tryd.prog 21 #[.agg #[.int .i64 90, .int .u32 ch, .int .u32 se, .int .u32 wi, .int .u32 pa, .int .u32 co, .string nm, .string lg, .bool wt, .slice A n c]] w fun e w' => e = .returned (.bool (wordOk 1 nm)) ∧ Below w.heap.size w w' := by
  go_enter Tryd.func21, Tryd.ntmps21
  go_wp2_with (go_at_call 33; refine (rword_any 1 nm _ hs (by omega)).mono ?_; rintro e w' ⟨rfl, rfl⟩)
  go_ret
  exact ⟨rfl, bel1 _ _⟩
set_option maxHeartbeats 1000000 in
set_option maxRecDepth 100000 in
theorem words21_91 (ch se wi pa co n c : Nat) (nm lg : ByteArray) (wt : Bool) (A : Option Addr) (w : World) :
    Calls Tryd.prog 21 #[.agg #[.int .i64 91, .int .u32 ch, .int .u32 se, .int .u32 wi, .int .u32 pa, .int .u32 co, .string nm, .string lg, .bool wt, .slice A n c]] w fun e w' => e = .returned (.bool true) ∧ Below w.heap.size w w' := by
  go_enter Tryd.func21, Tryd.ntmps21
  go_wp2
  go_ret
  exact ⟨rfl, bel1 _ _⟩
set_option maxHeartbeats 1000000 in
set_option maxRecDepth 100000 in
theorem words21_92 (ch se wi pa co n c : Nat) (nm lg : ByteArray) (wt : Bool) (A : Option Addr) (w : World) (hs : lg.size ≤ maxLen) :
    Calls Tryd.prog 21 #[.agg #[.int .i64 92, .int .u32 ch, .int .u32 se, .int .u32 wi, .int .u32 pa, .int .u32 co, .string nm, .string lg, .bool wt, .slice A n c]] w fun e w' => e = .returned (.bool (wordOk 0 lg)) ∧ Below w.heap.size w w' := by
  go_enter Tryd.func21, Tryd.ntmps21
  go_wp2_with (go_at_call 33; refine (rword_any 0 lg _ hs (by omega)).mono ?_; rintro e w' ⟨rfl, rfl⟩)
  go_ret
  exact ⟨rfl, bel1 _ _⟩
set_option maxHeartbeats 1000000 in
set_option maxRecDepth 100000 in
theorem words21_93 (ch se wi pa co n c : Nat) (nm lg : ByteArray) (wt : Bool) (A : Option Addr) (w : World) :
    Calls Tryd.prog 21 #[.agg #[.int .i64 93, .int .u32 ch, .int .u32 se, .int .u32 wi, .int .u32 pa, .int .u32 co, .string nm, .string lg, .bool wt, .slice A n c]] w fun e w' => e = .returned (.bool true) ∧ Below w.heap.size w w' := by
  go_enter Tryd.func21, Tryd.ntmps21
  go_wp2
  go_ret
  exact ⟨rfl, bel1 _ _⟩
set_option maxHeartbeats 1000000 in
set_option maxRecDepth 100000 in
theorem words21_94 (ch se wi pa co n c : Nat) (nm lg : ByteArray) (wt : Bool) (A : Option Addr) (w : World) :
    Calls Tryd.prog 21 #[.agg #[.int .i64 94, .int .u32 ch, .int .u32 se, .int .u32 wi, .int .u32 pa, .int .u32 co, .string nm, .string lg, .bool wt, .slice A n c]] w fun e w' => e = .returned (.bool true) ∧ Below w.heap.size w w' := by
  go_enter Tryd.func21, Tryd.ntmps21
  go_wp2
  go_ret
  exact ⟨rfl, bel1 _ _⟩
set_option maxHeartbeats 1000000 in
set_option maxRecDepth 100000 in
theorem words21_95 (ch se wi pa co n c : Nat) (nm lg : ByteArray) (wt : Bool) (A : Option Addr) (w : World) :
    Calls Tryd.prog 21 #[.agg #[.int .i64 95, .int .u32 ch, .int .u32 se, .int .u32 wi, .int .u32 pa, .int .u32 co, .string nm, .string lg, .bool wt, .slice A n c]] w fun e w' => e = .returned (.bool true) ∧ Below w.heap.size w w' := by
  go_enter Tryd.func21, Tryd.ntmps21
  go_wp2
  go_ret
  exact ⟨rfl, bel1 _ _⟩
set_option maxHeartbeats 1000000 in
set_option maxRecDepth 100000 in
theorem words21_96 (ch se wi pa co n c : Nat) (nm lg : ByteArray) (wt : Bool) (A : Option Addr) (w : World) :
    Calls Tryd.prog 21 #[.agg #[.int .i64 96, .int .u32 ch, .int .u32 se, .int .u32 wi, .int .u32 pa, .int .u32 co, .string nm, .string lg, .bool wt, .slice A n c]] w fun e w' => e = .returned (.bool true) ∧ Below w.heap.size w w' := by
  go_enter Tryd.func21, Tryd.ntmps21
  go_wp2
  go_ret
  exact ⟨rfl, bel1 _ _⟩
set_option maxHeartbeats 1000000 in
set_option maxRecDepth 100000 in
theorem words21_97 (ch se wi pa co n c : Nat) (nm lg : ByteArray) (wt : Bool) (A : Option Addr) (w : World) :
    Calls Tryd.prog 21 #[.agg #[.int .i64 97, .int .u32 ch, .int .u32 se, .int .u32 wi, .int .u32 pa, .int .u32 co, .string nm, .string lg, .bool wt, .slice A n c]] w fun e w' => e = .returned (.bool true) ∧ Below w.heap.size w w' := by
  go_enter Tryd.func21, Tryd.ntmps21
  go_wp2
  go_ret
  exact ⟨rfl, bel1 _ _⟩
set_option maxHeartbeats 1000000 in
set_option maxRecDepth 100000 in
theorem words21_98 (ch se wi pa co n c : Nat) (nm lg : ByteArray) (wt : Bool) (A : Option Addr) (w : World) (hs : nm.size ≤ maxLen) :
    Calls Tryd.prog 21 #[.agg #[.int .i64 98, .int .u32 ch, .int .u32 se, .int .u32 wi, .int .u32 pa, .int .u32 co, .string nm, .string lg, .bool wt, .slice A n c]] w fun e w' => e = .returned (.bool (wordOk 1 nm)) ∧ Below w.heap.size w w' := by
  go_enter Tryd.func21, Tryd.ntmps21
  go_wp2_with (go_at_call 33; refine (rword_any 1 nm _ hs (by omega)).mono ?_; rintro e w' ⟨rfl, rfl⟩)
  go_ret
  exact ⟨rfl, bel1 _ _⟩
set_option maxHeartbeats 1000000 in
set_option maxRecDepth 100000 in
theorem words21_99 (ch se wi pa co n c : Nat) (nm lg : ByteArray) (wt : Bool) (A : Option Addr) (w : World) :
    Calls Tryd.prog 21 #[.agg #[.int .i64 99, .int .u32 ch, .int .u32 se, .int .u32 wi, .int .u32 pa, .int .u32 co, .string nm, .string lg, .bool wt, .slice A n c]] w fun e w' => e = .returned (.bool true) ∧ Below w.heap.size w w' := by
  go_enter Tryd.func21, Tryd.ntmps21
  go_wp2
  go_ret
  exact ⟨rfl, bel1 _ _⟩
set_option maxHeartbeats 1000000 in
set_option maxRecDepth 100000 in
theorem words21_100 (ch se wi pa co n c : Nat) (nm lg : ByteArray) (wt : Bool) (A : Option Addr) (w : World) :
    Calls Tryd.prog 21 #[.agg #[.int .i64 100, .int .u32 ch, .int .u32 se, .int .u32 wi, .int .u32 pa, .int .u32 co, .string nm, .string lg, .bool wt, .slice A n c]] w fun e w' => e = .returned (.bool true) ∧ Below w.heap.size w w' := by
  go_enter Tryd.func21, Tryd.ntmps21
  go_wp2
  go_ret
  exact ⟨rfl, bel1 _ _⟩
theorem words_any (m : Mg) (A : Option Addr) (c l : Nat) (ps : List Pl) (w : World) (hl : m.data.length = l) (hx : look m.kind tab = some ps) (hm : m.Ok) :
    Calls Tryd.prog 21 #[.agg #[.int .i64 m.kind, .int .u32 m.chan, .int .u32 m.sender, .int .u32 m.window, .int .u32 m.packet, .int .u32 m.code, .string m.name, .string m.lang, .bool m.want, .slice A l c]] w fun e w' => e = .returned (.bool (ps.all (Pl.ok m))) ∧ Hid (Below w.heap.size w w') := by
  subst hl
  have hmem := look_mem hx
  have hnm := hm.name
  have hlg := hm.lang
  clear hx hm
  obtain ⟨kd, ch, se, wi, pa, co, nm, lg, wt, dt⟩ := m
  simp only at hmem hnm hlg
  simp only [tab, List.mem_cons, List.mem_nil_iff, or_false, Prod.mk.injEq] at hmem
  rcases hmem with ⟨rfl, rfl⟩ | ⟨rfl, rfl⟩ | ⟨rfl, rfl⟩ | ⟨rfl, rfl⟩ | ⟨rfl, rfl⟩ | ⟨rfl, rfl⟩ | ⟨rfl, rfl⟩ | ⟨rfl, rfl⟩ | ⟨rfl, rfl⟩ | ⟨rfl, rfl⟩ | ⟨rfl, rfl⟩ | ⟨rfl, rfl⟩ | ⟨rfl, rfl⟩ | ⟨rfl, rfl⟩ | ⟨rfl, rfl⟩
  · refine (words21_1 ch se wi pa co dt.length c nm lg wt A w hlg).mono ?_
    rintro e w' ⟨rfl, hb⟩
    exact ⟨ret_bool (by simp [Pl.ok]), hb⟩
  · refine (words21_80 ch se wi pa co dt.length c nm lg wt A w hnm).mono ?_
    rintro e w' ⟨rfl, hb⟩
    exact ⟨ret_bool (by simp [Pl.ok]), hb⟩
  · refine (words21_81 ch se wi pa co dt.length c nm lg wt A w).mono ?_
    rintro e w' ⟨rfl, hb⟩
    exact ⟨ret_bool (by simp [Pl.ok]), hb⟩
  · refine (words21_82 ch se wi pa co dt.length c nm lg wt A w).mono ?_
    rintro e w' ⟨rfl, hb⟩
    exact ⟨ret_bool (by simp [Pl.ok]), hb⟩
  · refine (words21_90 ch se wi pa co dt.length c nm lg wt A w hnm).mono ?_
    rintro e w' ⟨rfl, hb⟩
    exact ⟨ret_bool (by simp [Pl.ok]), hb⟩
  · refine (words21_91 ch se wi pa co dt.length c nm lg wt A w).mono ?_
    rintro e w' ⟨rfl, hb⟩
    exact ⟨ret_bool (by simp [Pl.ok]), hb⟩
  · refine (words21_92 ch se wi pa co dt.length c nm lg wt A w hlg).mono ?_
    rintro e w' ⟨rfl, hb⟩
    exact ⟨ret_bool (by simp [Pl.ok]), hb⟩
  · refine (words21_93 ch se wi pa co dt.length c nm lg wt A w).mono ?_
    rintro e w' ⟨rfl, hb⟩
    exact ⟨ret_bool (by simp [Pl.ok]), hb⟩
  · refine (words21_94 ch se wi pa co dt.length c nm lg wt A w).mono ?_
    rintro e w' ⟨rfl, hb⟩
    exact ⟨ret_bool (by simp [Pl.ok]), hb⟩
  · refine (words21_95 ch se wi pa co dt.length c nm lg wt A w).mono ?_
    rintro e w' ⟨rfl, hb⟩
    exact ⟨ret_bool (by simp [Pl.ok]), hb⟩
  · refine (words21_96 ch se wi pa co dt.length c nm lg wt A w).mono ?_
    rintro e w' ⟨rfl, hb⟩
    exact ⟨ret_bool (by simp [Pl.ok]), hb⟩
  · refine (words21_97 ch se wi pa co dt.length c nm lg wt A w).mono ?_
    rintro e w' ⟨rfl, hb⟩
    exact ⟨ret_bool (by simp [Pl.ok]), hb⟩
  · refine (words21_98 ch se wi pa co dt.length c nm lg wt A w hnm).mono ?_
    rintro e w' ⟨rfl, hb⟩
    exact ⟨ret_bool (by simp [Pl.ok]), hb⟩
  · refine (words21_99 ch se wi pa co dt.length c nm lg wt A w).mono ?_
    rintro e w' ⟨rfl, hb⟩
    exact ⟨ret_bool (by simp [Pl.ok]), hb⟩
  · refine (words21_100 ch se wi pa co dt.length c nm lg wt A w).mono ?_
    rintro e w' ⟨rfl, hb⟩
    exact ⟨ret_bool (by simp [Pl.ok]), hb⟩

end Go.Proofs.YtlmdbcmaophhnaaDoor
