import Derived.Test.YtfpkjocoifoigaaGreatDoorQP
import Derived.Deep.RegionHeld3
namespace Go.Proofs.YtfpkjocoifoigaaGreatDoor
open Go.RowKit

/-- The document's word. -/
def rwb (but : Nat) (c : UInt8) : Bool := wordByte c && !decide (c.toNat = but)
def rwordB (l but : Nat) (s : ByteArray) : Bool := decide (l ≤ s.size) && decide (s.size ≤ 64) && s.data.toList.all (rwb but)
theorem rwb_iff (but : Nat) (c : UInt8) : rwb but c = true ↔ 33 ≤ c.toNat ∧ c.toNat ≤ 126 ∧ c.toNat ≠ but := by simp [rwb, wordByte]; omega
theorem rwordB_bad (l but : Nat) (s : ByteArray) (k : Nat) (h : k < s.size) (hb : rwb but s[k] = false) : rwordB l but s = false := by
  have : s.data.toList.all (rwb but) = false := by
    rw [List.all_eq_false]
    exact ⟨s[k], by simp [ByteArray.getElem_eq_getElem_data], by simp [hb]⟩
  simp only [rwordB, this, Bool.and_false]
theorem rwordB_len (l but : Nat) (s : ByteArray) (h : ¬(l ≤ s.size ∧ s.size ≤ 64)) : rwordB l but s = false := by
  have : (decide (l ≤ s.size) && decide (s.size ≤ 64)) = false := by
    simp only [Bool.and_eq_false_iff, decide_eq_false_iff_not]
    omega
  simp only [rwordB, this, Bool.false_and]
theorem rwordB_all (l but : Nat) (s : ByteArray) (h1 : l ≤ s.size) (h2 : s.size ≤ 64) (h : s.data.toList.all (rwb but) = true) : rwordB l but s = true := by
  simp only [rwordB, h1, h2, h, decide_true, Bool.and_self]
theorem rwordB_0 (l : Nat) (s : ByteArray) : rwordB l 0 s = wordOk l s := by
  have : (rwb 0) = wordByte := by
    funext c
    simp only [rwb, wordByte]
    by_cases h : c.toNat = 0
    · simp [h]
    · simp [h]
  rw [rwordB, wordOk, this]
theorem rwordB_61 (l : Nat) (s : ByteArray) : rwordB l 61 s = (wordOk l s && !s.data.toList.contains 61) := by
  have h : s.data.toList.all (rwb 61) = (s.data.toList.all wordByte && !s.data.toList.contains 61) := by
    induction s.data.toList with
    | nil => rfl
    | cons a r ih =>
      rw [List.all_cons, List.all_cons, ih, List.contains_cons]
      have e : ((61 : UInt8) == a) = decide (a.toNat = 61) := by
        rw [Bool.eq_iff_iff, beq_iff_eq, decide_eq_true_eq]
        constructor
        · intro h; rw [← h]; rfl
        · intro h; exact (UInt8.toNat_inj.1 (by rw [h]; rfl)).symm
      rw [e]
      cases hw : wordByte a <;> cases hd : decide (a.toNat = 61) <;> simp [rwb, hw, hd]
  rw [rwordB, wordOk, h]
  cases decide (l ≤ s.size) <;> cases decide (s.size ≤ 64) <;> simp
def RwAll (but : Nat) (s : ByteArray) (k : Nat) : Prop := (s.data.toList.take k).all (rwb but) = true
set_option maxHeartbeats 1000000 in
set_option maxRecDepth 100000 in
theorem qword_any (s : ByteArray) (l but : Nat) (w : World) (hs : s.size ≤ maxLen) (_hl : l ≤ 1) (_hbut : but ≤ 255) :
    Calls Tryz.prog 37 #[.string s, .int .i64 l, .int .u8 but] w fun e w' => e = .returned (.bool (rwordB l but s)) ∧ w = w' := by
  unfold maxLen at hs
  by_cases h0 : l ≤ s.size ∧ s.size ≤ 64
  · obtain ⟨h1, h2⟩ := h0
    have hd1 : decide ((s.size : Int) < l) = false := by simp; omega
    have hd2 : decide (64 < (s.size : Int)) = false := by simp; omega
    go_enter Tryz.func37, Tryz.ntmps37
    go_wp2
    go_loop [7] (fun i => ∃ k : Nat, k ≤ s.size ∧ i = .int .i64 k ∧ Hid (RwAll but s k)) (fun i => s.size - (intOf i).toNat)
    case atStart => exact ⟨0, Nat.zero_le _, rfl, hid (by simp [RwAll])⟩
    case round =>
      obtain ⟨k, hk, rfl, HA⟩ := hrel
      by_cases hlt : k < s.size
      · by_cases hb : rwb but s[k] = true
        · have hbi := (rwb_iff _ _).1 hb
          have hts := take_snoc s.data.toList k (by simpa using hlt)
          have hS : RwAll but s (k + 1) := by
            have h0 : (s.data.toList.take k).all (rwb but) = true := HA.out
            rw [RwAll, hts, List.all_append, h0]
            simp [← ByteArray.getElem_eq_getElem_data, hb]
          have HS := hid hS
          clear hts hb hS
          have ha : (33 : Int) ≤ s[k].toNat := by omega
          have hb : (s[k].toNat : Int) ≤ 126 := by omega
          have hc : ((s[k].toNat : Int) == (but : Int)) = false := by simp; omega
          clear hbi
          go_wp2
          go_round
          case rel => first | exact ⟨k + 1, by omega, by go_num, HS⟩ | exact ⟨_, _, _, ⟨k + 1, by omega, by go_num, HS⟩, rfl, rfl, rfl⟩ | exact ⟨_, _, ⟨k + 1, by omega, by go_num, HS⟩, rfl, rfl⟩ | exact ⟨_, _, _, _, ⟨k + 1, by omega, by go_num, HS⟩, rfl, rfl, rfl, rfl⟩
          case measure => simp [intOf]; omega
        · have HF := hid (rwordB_bad l but s k hlt (by simpa using hb))
          have HB : Hid (¬ (33 ≤ s[k].toNat ∧ s[k].toNat ≤ 126 ∧ s[k].toNat ≠ but)) := fun h => hb ((rwb_iff _ _).2 h)
          clear hb
          go_wp2
          all_goals first
            | (go_ret; exact ⟨ret_bool HF.out.symm, rfl⟩)
            | (exfalso; have h1 := HB.out; simp at *; omega)
      · have hks : k = s.size := by omega
        have HK := hid hks
        clear hks
        go_wp2
        go_ret
        exact ⟨ret_bool (rwordB_all l but s h1 h2 (by have h : (s.data.toList.take k).all (rwb but) = true := HA.out; rw [HK.out, List.take_of_length_le (by simp)] at h; exact h)).symm, rfl⟩
  · have HF := hid (rwordB_len l but s h0)
    rcases Nat.lt_or_ge s.size l with h1 | h1
    · have hd1 : (s.size : Int) < l := by omega
      clear h0 h1
      go_enter Tryz.func37, Tryz.ntmps37
      go_wp2
      go_ret
      exact ⟨ret_bool HF.out.symm, rfl⟩
    · have hd1 : decide ((s.size : Int) < l) = false := by simp; omega
      have hd2 : (64 : Int) < s.size := by omega
      clear h0 h1
      go_enter Tryz.func37, Tryz.ntmps37
      go_wp2
      go_ret
      exact ⟨ret_bool HF.out.symm, rfl⟩
theorem qword_x (s : ByteArray) (l but : Nat) (lv bv : Int) (b : Bool) (w : World) (h1 : (l : Int) = lv) (h2 : (but : Int) = bv) (hX : Hid (rwordB l but s = b)) (hs : s.size ≤ maxLen) (_hl : l ≤ 1) (_hbut : but ≤ 255) :
    Calls Tryz.prog 37 #[.string s, .int .i64 lv, .int .u8 bv] w fun e w' => e = .returned (.bool b) ∧ w = w' := by
  subst h1; subst h2
  have h := qword_any s l but w hs _hl _hbut
  rw [hX.out] at h
  exact h

set_option maxHeartbeats 1000000 in
set_option maxRecDepth 100000 in
theorem rfq_pty_w0 (co ro wi he cd n c : Nat) (tx va la : ByteArray) (on : Bool) (A : Option Addr) (w : World) (_s1 : tx.size ≤ maxLen) (_s2 : va.size ≤ maxLen) (_s3 : la.size ≤ maxLen) (_s4 : n ≤ maxLen) (hw0 : rwordB 0 0 tx = false) :
    Calls Tryz.prog 23 #[.agg #[.int .i64 1, .string tx, .string va, .string la, .int .u32 co, .int .u32 ro, .int .u32 wi, .int .u32 he, .slice A n c, .bool on, .int .u32 cd]] w fun e w' => e = .returned (.int .i64 4) ∧ Below w.heap.size w w' := by
  have W0 := hid hw0
  clear hw0
  go_enter Tryz.func23, Tryz.ntmps23
  go_wp2_with (first
    | (go_at_call 37
       ((with_reducible refine (qword_x tx 0 0 0 0 false _ rfl rfl W0 (by first | assumption | (unfold maxLen; omega)) (by omega) (by omega)).mono ?_); rintro e w1 ⟨rfl, rfl⟩)))
  go_ret
  exact ⟨rfl, bel1 w _⟩
set_option maxHeartbeats 1000000 in
set_option maxRecDepth 100000 in
theorem rfq_pty_l (co ro wi he cd n c : Nat) (tx va la : ByteArray) (on : Bool) (A : Option Addr) (w : World) (_s1 : tx.size ≤ maxLen) (_s2 : va.size ≤ maxLen) (_s3 : la.size ≤ maxLen) (_s4 : n ≤ maxLen) (hw0 : rwordB 0 0 tx = true) (hn : 1024 < n) :
    Calls Tryz.prog 23 #[.agg #[.int .i64 1, .string tx, .string va, .string la, .int .u32 co, .int .u32 ro, .int .u32 wi, .int .u32 he, .slice A n c, .bool on, .int .u32 cd]] w fun e w' => e = .returned (.int .i64 6) ∧ Below w.heap.size w w' := by
  have W0 := hid hw0
  clear hw0
  unfold maxLen at _s1 _s2 _s4
  have d1 : (1024 : Int) < (n : Int) := by omega
  clear hn
  go_enter Tryz.func23, Tryz.ntmps23
  go_wp2_with (first
    | (go_at_call 37
       ((with_reducible refine (qword_x tx 0 0 0 0 true _ rfl rfl W0 (by first | assumption | (unfold maxLen; omega)) (by omega) (by omega)).mono ?_); rintro e w1 ⟨rfl, rfl⟩)))
  go_ret
  exact ⟨rfl, bel1 w _⟩
set_option maxHeartbeats 1000000 in
set_option maxRecDepth 100000 in
theorem rfq_pty_o (co ro wi he cd n c : Nat) (tx va la : ByteArray) (on : Bool) (A : Option Addr) (w : World) (_s1 : tx.size ≤ maxLen) (_s2 : va.size ≤ maxLen) (_s3 : la.size ≤ maxLen) (_s4 : n ≤ maxLen) (hw0 : rwordB 0 0 tx = true) (hn : n ≤ 1024) :
    Calls Tryz.prog 23 #[.agg #[.int .i64 1, .string tx, .string va, .string la, .int .u32 co, .int .u32 ro, .int .u32 wi, .int .u32 he, .slice A n c, .bool on, .int .u32 cd]] w fun e w' => e = .returned (.int .i64 0) ∧ Below w.heap.size w w' := by
  have W0 := hid hw0
  clear hw0
  unfold maxLen at _s1 _s2 _s4
  have d1 : decide ((1024 : Int) < (n : Int)) = false := by simp; omega
  clear hn
  go_enter Tryz.func23, Tryz.ntmps23
  go_wp2_with (first
    | (go_at_call 37
       ((with_reducible refine (qword_x tx 0 0 0 0 true _ rfl rfl W0 (by first | assumption | (unfold maxLen; omega)) (by omega) (by omega)).mono ?_); rintro e w1 ⟨rfl, rfl⟩)))
  go_ret
  exact ⟨rfl, bel1 w _⟩
set_option maxHeartbeats 1000000 in
set_option maxRecDepth 100000 in
theorem rfq_env_w0 (co ro wi he cd n c : Nat) (tx va la : ByteArray) (on : Bool) (A : Option Addr) (w : World) (_s1 : tx.size ≤ maxLen) (_s2 : va.size ≤ maxLen) (_s3 : la.size ≤ maxLen) (_s4 : n ≤ maxLen) (hw0 : rwordB 1 61 tx = false) :
    Calls Tryz.prog 23 #[.agg #[.int .i64 2, .string tx, .string va, .string la, .int .u32 co, .int .u32 ro, .int .u32 wi, .int .u32 he, .slice A n c, .bool on, .int .u32 cd]] w fun e w' => e = .returned (.int .i64 4) ∧ Below w.heap.size w w' := by
  have W0 := hid hw0
  clear hw0
  go_enter Tryz.func23, Tryz.ntmps23
  go_wp2_with (first
    | (go_at_call 37
       ((with_reducible refine (qword_x tx 1 61 1 61 false _ rfl rfl W0 (by first | assumption | (unfold maxLen; omega)) (by omega) (by omega)).mono ?_); rintro e w1 ⟨rfl, rfl⟩)))
  go_ret
  exact ⟨rfl, bel1 w _⟩
set_option maxHeartbeats 1000000 in
set_option maxRecDepth 100000 in
theorem rfq_env_l (co ro wi he cd n c : Nat) (tx va la : ByteArray) (on : Bool) (A : Option Addr) (w : World) (_s1 : tx.size ≤ maxLen) (_s2 : va.size ≤ maxLen) (_s3 : la.size ≤ maxLen) (_s4 : n ≤ maxLen) (hw0 : rwordB 1 61 tx = true) (hn : 1024 < va.size) :
    Calls Tryz.prog 23 #[.agg #[.int .i64 2, .string tx, .string va, .string la, .int .u32 co, .int .u32 ro, .int .u32 wi, .int .u32 he, .slice A n c, .bool on, .int .u32 cd]] w fun e w' => e = .returned (.int .i64 6) ∧ Below w.heap.size w w' := by
  have W0 := hid hw0
  clear hw0
  unfold maxLen at _s1 _s2 _s4
  have d1 : (1024 : Int) < (va.size : Int) := by omega
  clear hn
  go_enter Tryz.func23, Tryz.ntmps23
  go_wp2_with (first
    | (go_at_call 37
       ((with_reducible refine (qword_x tx 1 61 1 61 true _ rfl rfl W0 (by first | assumption | (unfold maxLen; omega)) (by omega) (by omega)).mono ?_); rintro e w1 ⟨rfl, rfl⟩)))
  go_ret
  exact ⟨rfl, bel1 w _⟩
set_option maxHeartbeats 1000000 in
set_option maxRecDepth 100000 in
theorem rfq_env_o (co ro wi he cd n c : Nat) (tx va la : ByteArray) (on : Bool) (A : Option Addr) (w : World) (_s1 : tx.size ≤ maxLen) (_s2 : va.size ≤ maxLen) (_s3 : la.size ≤ maxLen) (_s4 : n ≤ maxLen) (hw0 : rwordB 1 61 tx = true) (hn : va.size ≤ 1024) :
    Calls Tryz.prog 23 #[.agg #[.int .i64 2, .string tx, .string va, .string la, .int .u32 co, .int .u32 ro, .int .u32 wi, .int .u32 he, .slice A n c, .bool on, .int .u32 cd]] w fun e w' => e = .returned (.int .i64 0) ∧ Below w.heap.size w w' := by
  have W0 := hid hw0
  clear hw0
  unfold maxLen at _s1 _s2 _s4
  have d1 : decide ((1024 : Int) < (va.size : Int)) = false := by simp; omega
  clear hn
  go_enter Tryz.func23, Tryz.ntmps23
  go_wp2_with (first
    | (go_at_call 37
       ((with_reducible refine (qword_x tx 1 61 1 61 true _ rfl rfl W0 (by first | assumption | (unfold maxLen; omega)) (by omega) (by omega)).mono ?_); rintro e w1 ⟨rfl, rfl⟩)))
  go_ret
  exact ⟨rfl, bel1 w _⟩
set_option maxHeartbeats 1000000 in
set_option maxRecDepth 100000 in
theorem rfq_shell_o (co ro wi he cd n c : Nat) (tx va la : ByteArray) (on : Bool) (A : Option Addr) (w : World) (_s1 : tx.size ≤ maxLen) (_s2 : va.size ≤ maxLen) (_s3 : la.size ≤ maxLen) (_s4 : n ≤ maxLen) :
    Calls Tryz.prog 23 #[.agg #[.int .i64 3, .string tx, .string va, .string la, .int .u32 co, .int .u32 ro, .int .u32 wi, .int .u32 he, .slice A n c, .bool on, .int .u32 cd]] w fun e w' => e = .returned (.int .i64 0) ∧ Below w.heap.size w w' := by
  go_enter Tryz.func23, Tryz.ntmps23
  go_wp2
  go_ret
  exact ⟨rfl, bel1 w _⟩
set_option maxHeartbeats 1000000 in
set_option maxRecDepth 100000 in
theorem rfq_exec_l (co ro wi he cd n c : Nat) (tx va la : ByteArray) (on : Bool) (A : Option Addr) (w : World) (_s1 : tx.size ≤ maxLen) (_s2 : va.size ≤ maxLen) (_s3 : la.size ≤ maxLen) (_s4 : n ≤ maxLen) (hn : 1024 < tx.size) :
    Calls Tryz.prog 23 #[.agg #[.int .i64 4, .string tx, .string va, .string la, .int .u32 co, .int .u32 ro, .int .u32 wi, .int .u32 he, .slice A n c, .bool on, .int .u32 cd]] w fun e w' => e = .returned (.int .i64 6) ∧ Below w.heap.size w w' := by
  unfold maxLen at _s1 _s2 _s4
  have d1 : (1024 : Int) < (tx.size : Int) := by omega
  clear hn
  go_enter Tryz.func23, Tryz.ntmps23
  go_wp2
  go_ret
  exact ⟨rfl, bel1 w _⟩
set_option maxHeartbeats 1000000 in
set_option maxRecDepth 100000 in
theorem rfq_exec_o (co ro wi he cd n c : Nat) (tx va la : ByteArray) (on : Bool) (A : Option Addr) (w : World) (_s1 : tx.size ≤ maxLen) (_s2 : va.size ≤ maxLen) (_s3 : la.size ≤ maxLen) (_s4 : n ≤ maxLen) (hn : tx.size ≤ 1024) :
    Calls Tryz.prog 23 #[.agg #[.int .i64 4, .string tx, .string va, .string la, .int .u32 co, .int .u32 ro, .int .u32 wi, .int .u32 he, .slice A n c, .bool on, .int .u32 cd]] w fun e w' => e = .returned (.int .i64 0) ∧ Below w.heap.size w w' := by
  unfold maxLen at _s1 _s2 _s4
  have d1 : decide ((1024 : Int) < (tx.size : Int)) = false := by simp; omega
  clear hn
  go_enter Tryz.func23, Tryz.ntmps23
  go_wp2
  go_ret
  exact ⟨rfl, bel1 w _⟩
set_option maxHeartbeats 1000000 in
set_option maxRecDepth 100000 in
theorem rfq_subsystem_w0 (co ro wi he cd n c : Nat) (tx va la : ByteArray) (on : Bool) (A : Option Addr) (w : World) (_s1 : tx.size ≤ maxLen) (_s2 : va.size ≤ maxLen) (_s3 : la.size ≤ maxLen) (_s4 : n ≤ maxLen) (hw0 : rwordB 1 0 tx = false) :
    Calls Tryz.prog 23 #[.agg #[.int .i64 5, .string tx, .string va, .string la, .int .u32 co, .int .u32 ro, .int .u32 wi, .int .u32 he, .slice A n c, .bool on, .int .u32 cd]] w fun e w' => e = .returned (.int .i64 4) ∧ Below w.heap.size w w' := by
  have W0 := hid hw0
  clear hw0
  go_enter Tryz.func23, Tryz.ntmps23
  go_wp2_with (first
    | (go_at_call 37
       ((with_reducible refine (qword_x tx 1 0 1 0 false _ rfl rfl W0 (by first | assumption | (unfold maxLen; omega)) (by omega) (by omega)).mono ?_); rintro e w1 ⟨rfl, rfl⟩)))
  go_ret
  exact ⟨rfl, bel1 w _⟩
set_option maxHeartbeats 1000000 in
set_option maxRecDepth 100000 in
theorem rfq_subsystem_o (co ro wi he cd n c : Nat) (tx va la : ByteArray) (on : Bool) (A : Option Addr) (w : World) (_s1 : tx.size ≤ maxLen) (_s2 : va.size ≤ maxLen) (_s3 : la.size ≤ maxLen) (_s4 : n ≤ maxLen) (hw0 : rwordB 1 0 tx = true) :
    Calls Tryz.prog 23 #[.agg #[.int .i64 5, .string tx, .string va, .string la, .int .u32 co, .int .u32 ro, .int .u32 wi, .int .u32 he, .slice A n c, .bool on, .int .u32 cd]] w fun e w' => e = .returned (.int .i64 0) ∧ Below w.heap.size w w' := by
  have W0 := hid hw0
  clear hw0
  go_enter Tryz.func23, Tryz.ntmps23
  go_wp2_with (first
    | (go_at_call 37
       ((with_reducible refine (qword_x tx 1 0 1 0 true _ rfl rfl W0 (by first | assumption | (unfold maxLen; omega)) (by omega) (by omega)).mono ?_); rintro e w1 ⟨rfl, rfl⟩)))
  go_ret
  exact ⟨rfl, bel1 w _⟩
set_option maxHeartbeats 1000000 in
set_option maxRecDepth 100000 in
theorem rfq_change_o (co ro wi he cd n c : Nat) (tx va la : ByteArray) (on : Bool) (A : Option Addr) (w : World) (_s1 : tx.size ≤ maxLen) (_s2 : va.size ≤ maxLen) (_s3 : la.size ≤ maxLen) (_s4 : n ≤ maxLen) :
    Calls Tryz.prog 23 #[.agg #[.int .i64 6, .string tx, .string va, .string la, .int .u32 co, .int .u32 ro, .int .u32 wi, .int .u32 he, .slice A n c, .bool on, .int .u32 cd]] w fun e w' => e = .returned (.int .i64 0) ∧ Below w.heap.size w w' := by
  go_enter Tryz.func23, Tryz.ntmps23
  go_wp2
  go_ret
  exact ⟨rfl, bel1 w _⟩
set_option maxHeartbeats 1000000 in
set_option maxRecDepth 100000 in
theorem rfq_xon_o (co ro wi he cd n c : Nat) (tx va la : ByteArray) (on : Bool) (A : Option Addr) (w : World) (_s1 : tx.size ≤ maxLen) (_s2 : va.size ≤ maxLen) (_s3 : la.size ≤ maxLen) (_s4 : n ≤ maxLen) :
    Calls Tryz.prog 23 #[.agg #[.int .i64 7, .string tx, .string va, .string la, .int .u32 co, .int .u32 ro, .int .u32 wi, .int .u32 he, .slice A n c, .bool on, .int .u32 cd]] w fun e w' => e = .returned (.int .i64 0) ∧ Below w.heap.size w w' := by
  go_enter Tryz.func23, Tryz.ntmps23
  go_wp2
  go_ret
  exact ⟨rfl, bel1 w _⟩
set_option maxHeartbeats 1000000 in
set_option maxRecDepth 100000 in
theorem rfq_signal_w0 (co ro wi he cd n c : Nat) (tx va la : ByteArray) (on : Bool) (A : Option Addr) (w : World) (_s1 : tx.size ≤ maxLen) (_s2 : va.size ≤ maxLen) (_s3 : la.size ≤ maxLen) (_s4 : n ≤ maxLen) (hw0 : rwordB 1 0 tx = false) :
    Calls Tryz.prog 23 #[.agg #[.int .i64 8, .string tx, .string va, .string la, .int .u32 co, .int .u32 ro, .int .u32 wi, .int .u32 he, .slice A n c, .bool on, .int .u32 cd]] w fun e w' => e = .returned (.int .i64 4) ∧ Below w.heap.size w w' := by
  have W0 := hid hw0
  clear hw0
  go_enter Tryz.func23, Tryz.ntmps23
  go_wp2_with (first
    | (go_at_call 37
       ((with_reducible refine (qword_x tx 1 0 1 0 false _ rfl rfl W0 (by first | assumption | (unfold maxLen; omega)) (by omega) (by omega)).mono ?_); rintro e w1 ⟨rfl, rfl⟩)))
  go_ret
  exact ⟨rfl, bel1 w _⟩
set_option maxHeartbeats 1000000 in
set_option maxRecDepth 100000 in
theorem rfq_signal_o (co ro wi he cd n c : Nat) (tx va la : ByteArray) (on : Bool) (A : Option Addr) (w : World) (_s1 : tx.size ≤ maxLen) (_s2 : va.size ≤ maxLen) (_s3 : la.size ≤ maxLen) (_s4 : n ≤ maxLen) (hw0 : rwordB 1 0 tx = true) :
    Calls Tryz.prog 23 #[.agg #[.int .i64 8, .string tx, .string va, .string la, .int .u32 co, .int .u32 ro, .int .u32 wi, .int .u32 he, .slice A n c, .bool on, .int .u32 cd]] w fun e w' => e = .returned (.int .i64 0) ∧ Below w.heap.size w w' := by
  have W0 := hid hw0
  clear hw0
  go_enter Tryz.func23, Tryz.ntmps23
  go_wp2_with (first
    | (go_at_call 37
       ((with_reducible refine (qword_x tx 1 0 1 0 true _ rfl rfl W0 (by first | assumption | (unfold maxLen; omega)) (by omega) (by omega)).mono ?_); rintro e w1 ⟨rfl, rfl⟩)))
  go_ret
  exact ⟨rfl, bel1 w _⟩
set_option maxHeartbeats 1000000 in
set_option maxRecDepth 100000 in
theorem rfq_status_o (co ro wi he cd n c : Nat) (tx va la : ByteArray) (on : Bool) (A : Option Addr) (w : World) (_s1 : tx.size ≤ maxLen) (_s2 : va.size ≤ maxLen) (_s3 : la.size ≤ maxLen) (_s4 : n ≤ maxLen) :
    Calls Tryz.prog 23 #[.agg #[.int .i64 9, .string tx, .string va, .string la, .int .u32 co, .int .u32 ro, .int .u32 wi, .int .u32 he, .slice A n c, .bool on, .int .u32 cd]] w fun e w' => e = .returned (.int .i64 0) ∧ Below w.heap.size w w' := by
  go_enter Tryz.func23, Tryz.ntmps23
  go_wp2
  go_ret
  exact ⟨rfl, bel1 w _⟩
set_option maxHeartbeats 1000000 in
set_option maxRecDepth 100000 in
theorem rfq_ends_w0 (co ro wi he cd n c : Nat) (tx va la : ByteArray) (on : Bool) (A : Option Addr) (w : World) (_s1 : tx.size ≤ maxLen) (_s2 : va.size ≤ maxLen) (_s3 : la.size ≤ maxLen) (_s4 : n ≤ maxLen) (hw0 : rwordB 1 0 tx = false) :
    Calls Tryz.prog 23 #[.agg #[.int .i64 10, .string tx, .string va, .string la, .int .u32 co, .int .u32 ro, .int .u32 wi, .int .u32 he, .slice A n c, .bool on, .int .u32 cd]] w fun e w' => e = .returned (.int .i64 4) ∧ Below w.heap.size w w' := by
  have W0 := hid hw0
  clear hw0
  go_enter Tryz.func23, Tryz.ntmps23
  go_wp2_with (first
    | (go_at_call 37
       ((with_reducible refine (qword_x tx 1 0 1 0 false _ rfl rfl W0 (by first | assumption | (unfold maxLen; omega)) (by omega) (by omega)).mono ?_); rintro e w1 ⟨rfl, rfl⟩)))
  go_ret
  exact ⟨rfl, bel1 w _⟩
set_option maxHeartbeats 1000000 in
set_option maxRecDepth 100000 in
theorem rfq_ends_w1 (co ro wi he cd n c : Nat) (tx va la : ByteArray) (on : Bool) (A : Option Addr) (w : World) (_s1 : tx.size ≤ maxLen) (_s2 : va.size ≤ maxLen) (_s3 : la.size ≤ maxLen) (_s4 : n ≤ maxLen) (hw0 : rwordB 1 0 tx = true) (hw1 : rwordB 0 0 la = false) :
    Calls Tryz.prog 23 #[.agg #[.int .i64 10, .string tx, .string va, .string la, .int .u32 co, .int .u32 ro, .int .u32 wi, .int .u32 he, .slice A n c, .bool on, .int .u32 cd]] w fun e w' => e = .returned (.int .i64 4) ∧ Below w.heap.size w w' := by
  have W0 := hid hw0
  clear hw0
  have W1 := hid hw1
  clear hw1
  go_enter Tryz.func23, Tryz.ntmps23
  go_wp2_with (first
    | (go_at_call 37
       ((with_reducible refine (qword_x tx 1 0 1 0 true _ rfl rfl W0 (by first | assumption | (unfold maxLen; omega)) (by omega) (by omega)).mono ?_); rintro e w1 ⟨rfl, rfl⟩))
    | (go_at_call 37
       ((with_reducible refine (qword_x la 0 0 0 0 false _ rfl rfl W1 (by first | assumption | (unfold maxLen; omega)) (by omega) (by omega)).mono ?_); rintro e w1 ⟨rfl, rfl⟩)))
  go_ret
  exact ⟨rfl, bel1 w _⟩
set_option maxHeartbeats 1000000 in
set_option maxRecDepth 100000 in
theorem rfq_ends_l (co ro wi he cd n c : Nat) (tx va la : ByteArray) (on : Bool) (A : Option Addr) (w : World) (_s1 : tx.size ≤ maxLen) (_s2 : va.size ≤ maxLen) (_s3 : la.size ≤ maxLen) (_s4 : n ≤ maxLen) (hw0 : rwordB 1 0 tx = true) (hw1 : rwordB 0 0 la = true) (hn : 1024 < va.size) :
    Calls Tryz.prog 23 #[.agg #[.int .i64 10, .string tx, .string va, .string la, .int .u32 co, .int .u32 ro, .int .u32 wi, .int .u32 he, .slice A n c, .bool on, .int .u32 cd]] w fun e w' => e = .returned (.int .i64 6) ∧ Below w.heap.size w w' := by
  have W0 := hid hw0
  clear hw0
  have W1 := hid hw1
  clear hw1
  unfold maxLen at _s1 _s2 _s4
  have d1 : (1024 : Int) < (va.size : Int) := by omega
  clear hn
  go_enter Tryz.func23, Tryz.ntmps23
  go_wp2_with (first
    | (go_at_call 37
       ((with_reducible refine (qword_x tx 1 0 1 0 true _ rfl rfl W0 (by first | assumption | (unfold maxLen; omega)) (by omega) (by omega)).mono ?_); rintro e w1 ⟨rfl, rfl⟩))
    | (go_at_call 37
       ((with_reducible refine (qword_x la 0 0 0 0 true _ rfl rfl W1 (by first | assumption | (unfold maxLen; omega)) (by omega) (by omega)).mono ?_); rintro e w1 ⟨rfl, rfl⟩)))
  go_ret
  exact ⟨rfl, bel1 w _⟩
set_option maxHeartbeats 1000000 in
set_option maxRecDepth 100000 in
theorem rfq_ends_o (co ro wi he cd n c : Nat) (tx va la : ByteArray) (on : Bool) (A : Option Addr) (w : World) (_s1 : tx.size ≤ maxLen) (_s2 : va.size ≤ maxLen) (_s3 : la.size ≤ maxLen) (_s4 : n ≤ maxLen) (hw0 : rwordB 1 0 tx = true) (hw1 : rwordB 0 0 la = true) (hn : va.size ≤ 1024) :
    Calls Tryz.prog 23 #[.agg #[.int .i64 10, .string tx, .string va, .string la, .int .u32 co, .int .u32 ro, .int .u32 wi, .int .u32 he, .slice A n c, .bool on, .int .u32 cd]] w fun e w' => e = .returned (.int .i64 0) ∧ Below w.heap.size w w' := by
  have W0 := hid hw0
  clear hw0
  have W1 := hid hw1
  clear hw1
  unfold maxLen at _s1 _s2 _s4
  have d1 : decide ((1024 : Int) < (va.size : Int)) = false := by simp; omega
  clear hn
  go_enter Tryz.func23, Tryz.ntmps23
  go_wp2_with (first
    | (go_at_call 37
       ((with_reducible refine (qword_x tx 1 0 1 0 true _ rfl rfl W0 (by first | assumption | (unfold maxLen; omega)) (by omega) (by omega)).mono ?_); rintro e w1 ⟨rfl, rfl⟩))
    | (go_at_call 37
       ((with_reducible refine (qword_x la 0 0 0 0 true _ rfl rfl W1 (by first | assumption | (unfold maxLen; omega)) (by omega) (by omega)).mono ?_); rintro e w1 ⟨rfl, rfl⟩)))
  go_ret
  exact ⟨rfl, bel1 w _⟩
theorem qf_pty (r : Rq) : (Rw.put r .zero .pty).fault = if (!wordOk 0 r.text) = true then 4 else if decide (1024 < r.modes.length) = true then 6 else 0 := rfl
theorem qf_env (r : Rq) : (Rw.put r .zero .env).fault = if (!wordOk 1 r.text || r.text.data.toList.contains 61) = true then 4 else if decide (1024 < r.value.data.toList.length) = true then 6 else 0 := rfl
theorem qf_exec (r : Rq) : (Rw.put r .zero .exec).fault = if decide (1024 < r.text.data.toList.length) = true then 6 else 0 := rfl
theorem qf_subsystem (r : Rq) : (Rw.put r .zero .subsystem).fault = if (!wordOk 1 r.text) = true then 4 else 0 := rfl
theorem qf_signal (r : Rq) : (Rw.put r .zero .signal).fault = if (!wordOk 1 r.text) = true then 4 else 0 := rfl
theorem qf_ends (r : Rq) : (Rw.put r .zero .ends).fault = if (!wordOk 1 r.text || !wordOk 0 r.lang) = true then 4 else if decide (1024 < r.value.data.toList.length) = true then 6 else 0 := rfl
/-- The document's fault of a request of a known kind. -/
theorem qfault_any (k : Rw) (r : Rq) (A : Option Addr) (c n : Nat) (kd : Int) (w : World) (hk : kd = k.kind) (hn : r.modes.length = n) (s1 : r.text.size ≤ maxLen) (s2 : r.value.size ≤ maxLen) (s3 : r.lang.size ≤ maxLen) (s4 : n ≤ maxLen) :
    Calls Tryz.prog 23 #[.agg #[.int .i64 kd, .string r.text, .string r.value, .string r.lang, .int .u32 r.cols, .int .u32 r.rows, .int .u32 r.width, .int .u32 r.height, .slice A n c, .bool r.on, .int .u32 r.code]] w fun e w' => e = .returned (.int .i64 (k.put r .zero).fault) ∧ Below w.heap.size w w' := by
  subst hk
  cases k
  · cases q0 : rwordB 0 0 r.text with
    | false =>
      have p0 := q0
      rw [rwordB_0] at p0
      rw [show (Rw.put r .zero .pty).fault = 4 from by rw [qf_pty, p0]; rfl]
      exact rfq_pty_w0 r.cols r.rows r.width r.height r.code n c r.text r.value r.lang r.on A w s1 s2 s3 s4 q0
    | true =>
      have p0 := q0
      rw [rwordB_0] at p0
      by_cases hl : 1024 < r.modes.length
      · rw [show (Rw.put r .zero .pty).fault = 6 from by rw [qf_pty, p0, decide_eq_true hl]; rfl]
        exact rfq_pty_l r.cols r.rows r.width r.height r.code n c r.text r.value r.lang r.on A w s1 s2 s3 s4 q0 (by rw [← hn]; exact hl)
      · have hl : r.modes.length ≤ 1024 := by omega
        have hl2 : ¬ 1024 < r.modes.length := by omega
        rw [show (Rw.put r .zero .pty).fault = 0 from by rw [qf_pty, p0, decide_eq_false hl2]; rfl]
        exact rfq_pty_o r.cols r.rows r.width r.height r.code n c r.text r.value r.lang r.on A w s1 s2 s3 s4 q0 (by rw [← hn]; exact hl)
  · cases q0 : rwordB 1 61 r.text with
    | false =>
      have p0 := q0
      rw [rwordB_61] at p0
      have hf : (Rw.put r .zero .env).fault = 4 := by
        rw [qf_env]
        rw [Bool.and_eq_false_iff] at p0
        rcases p0 with h | h
        · rw [h]; rfl
        · rw [Bool.not_eq_false'] at h; rw [h, Bool.or_true]; rfl
      rw [hf]
      exact rfq_env_w0 r.cols r.rows r.width r.height r.code n c r.text r.value r.lang r.on A w s1 s2 s3 s4 q0
    | true =>
      have p0 := q0
      rw [rwordB_61] at p0
      rw [Bool.and_eq_true] at p0
      obtain ⟨p0a, p0b⟩ := p0
      rw [Bool.not_eq_true'] at p0b
      by_cases hl : 1024 < r.value.data.toList.length
      · rw [show (Rw.put r .zero .env).fault = 6 from by rw [qf_env, p0a, p0b, decide_eq_true hl]; rfl]
        exact rfq_env_l r.cols r.rows r.width r.height r.code n c r.text r.value r.lang r.on A w s1 s2 s3 s4 q0 (by have h := hl; rw [str_len] at h; exact h)
      · have hl : r.value.data.toList.length ≤ 1024 := by omega
        have hl2 : ¬ 1024 < r.value.data.toList.length := by omega
        rw [show (Rw.put r .zero .env).fault = 0 from by rw [qf_env, p0a, p0b, decide_eq_false hl2]; rfl]
        exact rfq_env_o r.cols r.rows r.width r.height r.code n c r.text r.value r.lang r.on A w s1 s2 s3 s4 q0 (by have h := hl; rw [str_len] at h; exact h)
  · rw [show (Rw.put r .zero .shell).fault = 0 from by rfl]
    exact rfq_shell_o r.cols r.rows r.width r.height r.code n c r.text r.value r.lang r.on A w s1 s2 s3 s4
  · by_cases hl : 1024 < r.text.data.toList.length
    · rw [show (Rw.put r .zero .exec).fault = 6 from by rw [qf_exec, decide_eq_true hl]; rfl]
      exact rfq_exec_l r.cols r.rows r.width r.height r.code n c r.text r.value r.lang r.on A w s1 s2 s3 s4 (by have h := hl; rw [str_len] at h; exact h)
    · have hl : r.text.data.toList.length ≤ 1024 := by omega
      have hl2 : ¬ 1024 < r.text.data.toList.length := by omega
      rw [show (Rw.put r .zero .exec).fault = 0 from by rw [qf_exec, decide_eq_false hl2]; rfl]
      exact rfq_exec_o r.cols r.rows r.width r.height r.code n c r.text r.value r.lang r.on A w s1 s2 s3 s4 (by have h := hl; rw [str_len] at h; exact h)
  · cases q0 : rwordB 1 0 r.text with
    | false =>
      have p0 := q0
      rw [rwordB_0] at p0
      rw [show (Rw.put r .zero .subsystem).fault = 4 from by rw [qf_subsystem, p0]; rfl]
      exact rfq_subsystem_w0 r.cols r.rows r.width r.height r.code n c r.text r.value r.lang r.on A w s1 s2 s3 s4 q0
    | true =>
      have p0 := q0
      rw [rwordB_0] at p0
      rw [show (Rw.put r .zero .subsystem).fault = 0 from by rw [qf_subsystem, p0]; rfl]
      exact rfq_subsystem_o r.cols r.rows r.width r.height r.code n c r.text r.value r.lang r.on A w s1 s2 s3 s4 q0
  · rw [show (Rw.put r .zero .change).fault = 0 from by rfl]
    exact rfq_change_o r.cols r.rows r.width r.height r.code n c r.text r.value r.lang r.on A w s1 s2 s3 s4
  · rw [show (Rw.put r .zero .xon).fault = 0 from by rfl]
    exact rfq_xon_o r.cols r.rows r.width r.height r.code n c r.text r.value r.lang r.on A w s1 s2 s3 s4
  · cases q0 : rwordB 1 0 r.text with
    | false =>
      have p0 := q0
      rw [rwordB_0] at p0
      rw [show (Rw.put r .zero .signal).fault = 4 from by rw [qf_signal, p0]; rfl]
      exact rfq_signal_w0 r.cols r.rows r.width r.height r.code n c r.text r.value r.lang r.on A w s1 s2 s3 s4 q0
    | true =>
      have p0 := q0
      rw [rwordB_0] at p0
      rw [show (Rw.put r .zero .signal).fault = 0 from by rw [qf_signal, p0]; rfl]
      exact rfq_signal_o r.cols r.rows r.width r.height r.code n c r.text r.value r.lang r.on A w s1 s2 s3 s4 q0
  · rw [show (Rw.put r .zero .status).fault = 0 from by rfl]
    exact rfq_status_o r.cols r.rows r.width r.height r.code n c r.text r.value r.lang r.on A w s1 s2 s3 s4
  · cases q0 : rwordB 1 0 r.text with
    | false =>
      have p0 := q0
      rw [rwordB_0] at p0
      rw [show (Rw.put r .zero .ends).fault = 4 from by rw [qf_ends, p0]; rfl]
      exact rfq_ends_w0 r.cols r.rows r.width r.height r.code n c r.text r.value r.lang r.on A w s1 s2 s3 s4 q0
    | true =>
      have p0 := q0
      rw [rwordB_0] at p0
      cases q1 : rwordB 0 0 r.lang with
      | false =>
        have p1 := q1
        rw [rwordB_0] at p1
        rw [show (Rw.put r .zero .ends).fault = 4 from by rw [qf_ends, p0, p1]; rfl]
        exact rfq_ends_w1 r.cols r.rows r.width r.height r.code n c r.text r.value r.lang r.on A w s1 s2 s3 s4 q0 q1
      | true =>
        have p1 := q1
        rw [rwordB_0] at p1
        by_cases hl : 1024 < r.value.data.toList.length
        · rw [show (Rw.put r .zero .ends).fault = 6 from by rw [qf_ends, p0, p1, decide_eq_true hl]; rfl]
          exact rfq_ends_l r.cols r.rows r.width r.height r.code n c r.text r.value r.lang r.on A w s1 s2 s3 s4 q0 q1 (by have h := hl; rw [str_len] at h; exact h)
        · have hl : r.value.data.toList.length ≤ 1024 := by omega
          have hl2 : ¬ 1024 < r.value.data.toList.length := by omega
          rw [show (Rw.put r .zero .ends).fault = 0 from by rw [qf_ends, p0, p1, decide_eq_false hl2]; rfl]
          exact rfq_ends_o r.cols r.rows r.width r.height r.code n c r.text r.value r.lang r.on A w s1 s2 s3 s4 q0 q1 (by have h := hl; rw [str_len] at h; exact h)

theorem qm_box_p {w w' : World} {g : Nat} {t : TypeId} {cs : Array Value} (h : Hid (Box w g t cs)) (hb : Hid (Below w.heap.size w w')) : Hid (Box w' g t cs) := box_below h.out hb.out
theorem qm_box_a {w : World} {g : Nat} {t : TypeId} {cs : Array Value} (h : Hid (Box w g t cs)) (o : Obj) : Hid (Box (w.alloc o) g t cs) := box_below h.out (bel1 w o)
theorem qm_tk_alloc {w : World} {base c : Nat} {A : Option Addr} {bs : List UInt8} (h : TK w base A c bs) (o : Obj) : TK (w.alloc o) base A c bs := h.below (bel1 w o)
set_option maxHeartbeats 1000000 in
set_option maxRecDepth 100000 in
theorem qmade_num (n : Nat) (w : World) : Calls Tryz.prog 44 #[.int .u32 n] w fun e w' => e = .returned (.agg #[.int .i64 3, .int .u32 n, .slice none 0 0, .slice none 0 0]) ∧ Hid (Below w.heap.size w w') := by
  go_enter Tryz.func44, Tryz.ntmps44
  go_wp2
  refine bodyPost_ret (v := .agg #[.int .i64 3, .int .u32 n, .slice none 0 0, .slice none 0 0]) (by simp [results, Tryz.results44, go_sem]) rfl ?_
  exact ⟨rfl, bel1 _ _⟩
set_option maxHeartbeats 1000000 in
set_option maxRecDepth 100000 in
theorem qmade_flag (b : Bool) (n : Nat) (hn : (if b then 1 else 0) = n) (w : World) : Calls Tryz.prog 43 #[.bool b] w fun e w' => e = .returned (.agg #[.int .i64 2, .int .u32 n, .slice none 0 0, .slice none 0 0]) ∧ Hid (Below w.heap.size w w') := by
  cases b with
  | true =>
    obtain rfl : 1 = n := hn
    go_enter Tryz.func43, Tryz.ntmps43
    go_wp2
    refine bodyPost_ret (v := .agg #[.int .i64 2, .int .u32 1, .slice none 0 0, .slice none 0 0]) (by simp [results, Tryz.results43, go_sem]) rfl ?_
    exact ⟨rfl, bel1 _ _⟩
  | false =>
    obtain rfl : 0 = n := hn
    go_enter Tryz.func43, Tryz.ntmps43
    go_wp2
    refine bodyPost_ret (v := .agg #[.int .i64 2, .int .u32 0, .slice none 0 0, .slice none 0 0]) (by simp [results, Tryz.results43, go_sem]) rfl ?_
    exact ⟨rfl, bel1 _ _⟩
set_option maxHeartbeats 1000000 in
set_option maxRecDepth 100000 in
theorem qmade_text (base n : Nat) (s : ByteArray) (w : World) (hn : s.data.toList.length = n) (hs : s.size ≤ maxLen) (hb : base ≤ w.heap.size) : Calls Tryz.prog 41 #[.string s] w fun e w' => ∃ tA tc, e = .returned (.agg #[.int .i64 4, .int .u32 0, .slice tA n tc, .slice none 0 0]) ∧ Hid (Below w.heap.size w w') ∧ Hid (TK w' base tA tc s.data.toList) := by
  rw [str_len] at hn
  subst hn
  have hcv := Lib.run_convert_string_bytes (P := Tryz.prog) (w.alloc (.cells #[.int .i64 0, .int .u32 0, .slice none 0 0, .slice none 0 0] 74)) 9 25 5 s Tryz.underlying9 Tryz.underlying25 Tryz.underlying5
  have htk := conv_tk (w.alloc (.cells #[.int .i64 0, .int .u32 0, .slice none 0 0, .slice none 0 0] 74)) base s hs
  have hbc := bel_conv (w.alloc (.cells #[.int .i64 0, .int .u32 0, .slice none 0 0, .slice none 0 0] 74)) s
  generalize Lib.bytesWorld (w.alloc (.cells #[.int .i64 0, .int .u32 0, .slice none 0 0, .slice none 0 0] 74)) 5 s = w2 at hcv htk hbc
  have hr1 : Box w2 w.heap.size 74 #[.int .i64 0, .int .u32 0, .slice none 0 0, .slice none 0 0] := (Box.new w 74 _).same (hbc.block _ (by simp))
  have d0 : w2.cell? ⟨w.heap.size, 0, none⟩ = some (.int .i64 0) := hr1.cell 0
  have d1 : w2.cell? ⟨w.heap.size, 1, none⟩ = some (.int .u32 0) := hr1.cell 1
  have d2 : w2.cell? ⟨w.heap.size, 2, none⟩ = some (.slice none 0 0) := hr1.cell 2
  have d3 : w2.cell? ⟨w.heap.size, 3, none⟩ = some (.slice none 0 0) := hr1.cell 3
  have f0 : w2.frozen? ⟨w.heap.size, 0, none⟩ = false := hr1.frozen 0
  have f1 : w2.frozen? ⟨w.heap.size, 1, none⟩ = false := hr1.frozen 1
  have f2 : w2.frozen? ⟨w.heap.size, 2, none⟩ = false := hr1.frozen 2
  have f3 : w2.frozen? ⟨w.heap.size, 3, none⟩ = false := hr1.frozen 3
  have HBW : Hid (Below w.heap.size w w2) := (bel1 w _).trans (hbc.mono (by simp))
  have HTK := hid htk
  have HR1 := hid hr1
  clear hr1 hbc htk
  go_enter Tryz.func41, Tryz.ntmps41
  go_wp2
  refine bodyPost_ret (v := .agg #[.int .i64 4, .int .u32 0, .slice (some ⟨(w.alloc (.cells #[.int .i64 0, .int .u32 0, .slice none 0 0, .slice none 0 0] 74)).heap.size, 0, none⟩) s.size (grownCap (w.alloc (.cells #[.int .i64 0, .int .u32 0, .slice none 0 0, .slice none 0 0] 74)) s.size 0 5), .slice none 0 0]) (by simp [results, Tryz.results41, go_sem, d0, d1, d2, d3]) rfl ?_
  refine ⟨_, _, rfl, (((HBW.out.setCell (by simp) _).setCell (by simp) _).setCell (by simp) _).setCell (by simp) _, ?_⟩
  exact HTK.out.kept (kept4 HR1.out hb _ _ _ _) (T := [74]) (by simp)
set_option maxHeartbeats 4000000 in
set_option maxRecDepth 100000 in
theorem qsize_any (base co ro wi he : Nat) (w : World) (hb : base ≤ w.heap.size) :
    Calls Tryz.prog 42 #[.agg #[.int .u32 co, .int .u32 ro, .int .u32 wi, .int .u32 he]] w fun e w' => Hid (Below w.heap.size w w') ∧ ∃ A', e = .returned (.slice A' 4 4) ∧ Hid (∃ cs, Lies w' w'.heap.size A' cs ∧ FlatK w' base [⟨3, co, [], []⟩, ⟨3, ro, [], []⟩, ⟨3, wi, [], []⟩, ⟨3, he, [], []⟩] cs) := by
  have HX0 : Hid (Box (w.alloc (.cells #[.int .u32 co, .int .u32 ro, .int .u32 wi, .int .u32 he] 24)) w.heap.size 24 #[.int .u32 co, .int .u32 ro, .int .u32 wi, .int .u32 he]) := hid (Box.new w 24 _)
  have HB0 : Hid (Below w.heap.size w (w.alloc (.cells #[.int .u32 co, .int .u32 ro, .int .u32 wi, .int .u32 he] 24))) := bel1 w _
  have HZ0 : (w.alloc (.cells #[.int .u32 co, .int .u32 ro, .int .u32 wi, .int .u32 he] 24)).heap.size = w.heap.size + 1 := by simp
  have HBASE0 : base ≤ (w.alloc (.cells #[.int .u32 co, .int .u32 ro, .int .u32 wi, .int .u32 he] 24)).drew.heap.size := by show base ≤ (w.alloc (.cells #[.int .u32 co, .int .u32 ro, .int .u32 wi, .int .u32 he] 24)).heap.size; omega
  go_enter Tryz.func42, Tryz.ntmps42
  go_wp2
  generalize hW : w.alloc _ = u0 at HX0 HB0 HZ0 HBASE0
  have HW := hid hW
  clear hW
  have HS0 : u0.cell? ⟨w.heap.size, 0, none⟩ = some (.int .u32 co) ∧ u0.cell? ⟨w.heap.size, 1, none⟩ = some (.int .u32 ro) ∧ u0.cell? ⟨w.heap.size, 2, none⟩ = some (.int .u32 wi) ∧ u0.cell? ⟨w.heap.size, 3, none⟩ = some (.int .u32 he) := ⟨HX0.out.cell 0, HX0.out.cell 1, HX0.out.cell 2, HX0.out.cell 3⟩
  go_region_held3 (fun u => u.cell? ⟨w.heap.size, 0, none⟩ = some (.int .u32 co) ∧ u.cell? ⟨w.heap.size, 1, none⟩ = some (.int .u32 ro) ∧ u.cell? ⟨w.heap.size, 2, none⟩ = some (.int .u32 wi) ∧ u.cell? ⟨w.heap.size, 3, none⟩ = some (.int .u32 he)) (first | exact HS0 | exact HS1 | exact HS2 | exact HS3 | exact HS4 | exact HSA _) ((first
    | (go_at_call 44
       ((with_reducible refine (qmade_num co u0.drew).mono ?_); rintro e u1 ⟨rfl, HB1'⟩)
       have HB1 : Hid (Below u0.heap.size u0 u1) := hid ⟨HB1'.out.os, HB1'.out.tape, HB1'.out.output, HB1'.out.size, HB1'.out.block⟩
       have HX1 := qm_box_p HX0 HB1
       have HBASE1 : base ≤ u1.heap.size := by have := HB1.out.size; omega
       have HS1 : u1.cell? ⟨w.heap.size, 0, none⟩ = some (.int .u32 co) ∧ u1.cell? ⟨w.heap.size, 1, none⟩ = some (.int .u32 ro) ∧ u1.cell? ⟨w.heap.size, 2, none⟩ = some (.int .u32 wi) ∧ u1.cell? ⟨w.heap.size, 3, none⟩ = some (.int .u32 he) := ⟨HX1.out.cell 0, HX1.out.cell 1, HX1.out.cell 2, HX1.out.cell 3⟩)
    | (go_at_call 44
       ((with_reducible refine (qmade_num ro u1).mono ?_); rintro e u2 ⟨rfl, HB2'⟩)
       have HB2 := bel_trans HB1 HB2'
       have HX2 := qm_box_p HX0 HB2
       have HBASE2 : base ≤ u2.heap.size := by have := HB2.out.size; omega
       have HS2 : u2.cell? ⟨w.heap.size, 0, none⟩ = some (.int .u32 co) ∧ u2.cell? ⟨w.heap.size, 1, none⟩ = some (.int .u32 ro) ∧ u2.cell? ⟨w.heap.size, 2, none⟩ = some (.int .u32 wi) ∧ u2.cell? ⟨w.heap.size, 3, none⟩ = some (.int .u32 he) := ⟨HX2.out.cell 0, HX2.out.cell 1, HX2.out.cell 2, HX2.out.cell 3⟩)
    | (go_at_call 44
       ((with_reducible refine (qmade_num wi u2).mono ?_); rintro e u3 ⟨rfl, HB3'⟩)
       have HB3 := bel_trans HB2 HB3'
       have HX3 := qm_box_p HX0 HB3
       have HBASE3 : base ≤ u3.heap.size := by have := HB3.out.size; omega
       have HS3 : u3.cell? ⟨w.heap.size, 0, none⟩ = some (.int .u32 co) ∧ u3.cell? ⟨w.heap.size, 1, none⟩ = some (.int .u32 ro) ∧ u3.cell? ⟨w.heap.size, 2, none⟩ = some (.int .u32 wi) ∧ u3.cell? ⟨w.heap.size, 3, none⟩ = some (.int .u32 he) := ⟨HX3.out.cell 0, HX3.out.cell 1, HX3.out.cell 2, HX3.out.cell 3⟩)
    | (go_at_call 44
       ((with_reducible refine (qmade_num he u3).mono ?_); rintro e u4 ⟨rfl, HB4'⟩)
       have HB4 := bel_trans HB3 HB4'
       have HX4 := qm_box_p HX0 HB4
       have HBASE4 : base ≤ u4.heap.size := by have := HB4.out.size; omega
       have HS4 : u4.cell? ⟨w.heap.size, 0, none⟩ = some (.int .u32 co) ∧ u4.cell? ⟨w.heap.size, 1, none⟩ = some (.int .u32 ro) ∧ u4.cell? ⟨w.heap.size, 2, none⟩ = some (.int .u32 wi) ∧ u4.cell? ⟨w.heap.size, 3, none⟩ = some (.int .u32 he) := ⟨HX4.out.cell 0, HX4.out.cell 1, HX4.out.cell 2, HX4.out.cell 3⟩
       have HSA : ∀ o, (u4.alloc o).cell? ⟨w.heap.size, 0, none⟩ = some (.int .u32 co) ∧ (u4.alloc o).cell? ⟨w.heap.size, 1, none⟩ = some (.int .u32 ro) ∧ (u4.alloc o).cell? ⟨w.heap.size, 2, none⟩ = some (.int .u32 wi) ∧ (u4.alloc o).cell? ⟨w.heap.size, 3, none⟩ = some (.int .u32 he) := fun o => ⟨(qm_box_a HX4 o).out.cell 0, (qm_box_a HX4 o).out.cell 1, (qm_box_a HX4 o).out.cell 2, (qm_box_a HX4 o).out.cell 3⟩)))
  all_goals
    go_wp2
    go_ret
    have hl := lit_lies u4 #[.int .i64 3, .int .u32 co, .slice none 0 0, .slice none 0 0, .int .i64 3, .int .u32 ro, .slice none 0 0, .slice none 0 0, .int .i64 3, .int .u32 wi, .slice none 0 0, .slice none 0 0, .int .i64 3, .int .u32 he, .slice none 0 0, .slice none 0 0] 74 (0, 0) u4.heap.size rfl
    exact ⟨HB0.out.trans ((HB4.out.mono (by omega)).trans ((bel1 u4 _).mono (by have := HB4.out.size; omega))), _, rfl, _, hl.more (by simp), ⟨none, 0, _, rfl, rfl, TK.nil_ _ _, ⟨none, 0, _, rfl, rfl, TK.nil_ _ _, ⟨none, 0, _, rfl, rfl, TK.nil_ _ _, ⟨none, 0, _, rfl, rfl, TK.nil_ _ _, rfl⟩⟩⟩⟩⟩
set_option maxHeartbeats 4000000 in
set_option maxRecDepth 100000 in
theorem qfields_env (base co ro wi he cd n c n_tx n_va n_la nb : Nat) (tx va la : ByteArray) (on : Bool) (A : Option Addr) (w : World) (hb : base ≤ w.heap.size) (hn_tx : tx.data.toList.length = n_tx) (hn_va : va.data.toList.length = n_va) (_hn_la : la.data.toList.length = n_la) (_hnb : (if on then 1 else 0) = nb) (hs_tx : tx.size ≤ maxLen) (hs_va : va.size ≤ maxLen) (_hs_la : la.size ≤ maxLen) :
    Calls Tryz.prog 25 #[.agg #[.int .i64 2, .string tx, .string va, .string la, .int .u32 co, .int .u32 ro, .int .u32 wi, .int .u32 he, .slice A n c, .bool on, .int .u32 cd]] w fun e w' => Hid (Below w.heap.size w w') ∧ ∃ A', e = .returned (.slice A' 2 2) ∧ Hid (∃ cs, Lies w' w'.heap.size A' cs ∧ FlatK w' base [⟨4, 0, tx.data.toList, []⟩, ⟨4, 0, va.data.toList, []⟩] cs) := by
  have HX0 : Hid (Box (w.alloc (.cells #[.int .i64 2, .string tx, .string va, .string la, .int .u32 co, .int .u32 ro, .int .u32 wi, .int .u32 he, .slice A n c, .bool on, .int .u32 cd] 27)) w.heap.size 27 #[.int .i64 2, .string tx, .string va, .string la, .int .u32 co, .int .u32 ro, .int .u32 wi, .int .u32 he, .slice A n c, .bool on, .int .u32 cd]) := hid (Box.new w 27 _)
  have HB0 : Hid (Below w.heap.size w (w.alloc (.cells #[.int .i64 2, .string tx, .string va, .string la, .int .u32 co, .int .u32 ro, .int .u32 wi, .int .u32 he, .slice A n c, .bool on, .int .u32 cd] 27))) := bel1 w _
  have HZ0 : (w.alloc (.cells #[.int .i64 2, .string tx, .string va, .string la, .int .u32 co, .int .u32 ro, .int .u32 wi, .int .u32 he, .slice A n c, .bool on, .int .u32 cd] 27)).heap.size = w.heap.size + 1 := by simp
  have HBASE0 : base ≤ (w.alloc (.cells #[.int .i64 2, .string tx, .string va, .string la, .int .u32 co, .int .u32 ro, .int .u32 wi, .int .u32 he, .slice A n c, .bool on, .int .u32 cd] 27)).drew.heap.size := by show base ≤ (w.alloc (.cells #[.int .i64 2, .string tx, .string va, .string la, .int .u32 co, .int .u32 ro, .int .u32 wi, .int .u32 he, .slice A n c, .bool on, .int .u32 cd] 27)).heap.size; omega
  go_enter Tryz.func25, Tryz.ntmps25
  go_wp2
  generalize hW : w.alloc _ = u0 at HX0 HB0 HZ0 HBASE0
  have HW := hid hW
  clear hW
  have HS0 : u0.cell? ⟨w.heap.size, 0, none⟩ = some (.int .i64 2) ∧ u0.cell? ⟨w.heap.size, 1, none⟩ = some (.string tx) ∧ u0.cell? ⟨w.heap.size, 2, none⟩ = some (.string va) ∧ u0.cell? ⟨w.heap.size, 3, none⟩ = some (.string la) ∧ u0.cell? ⟨w.heap.size, 4, none⟩ = some (.int .u32 co) ∧ u0.cell? ⟨w.heap.size, 5, none⟩ = some (.int .u32 ro) ∧ u0.cell? ⟨w.heap.size, 6, none⟩ = some (.int .u32 wi) ∧ u0.cell? ⟨w.heap.size, 7, none⟩ = some (.int .u32 he) ∧ u0.cell? ⟨w.heap.size, 8, none⟩ = some (.slice A n c) ∧ u0.cell? ⟨w.heap.size, 9, none⟩ = some (.bool on) ∧ u0.cell? ⟨w.heap.size, 10, none⟩ = some (.int .u32 cd) := ⟨HX0.out.cell 0, HX0.out.cell 1, HX0.out.cell 2, HX0.out.cell 3, HX0.out.cell 4, HX0.out.cell 5, HX0.out.cell 6, HX0.out.cell 7, HX0.out.cell 8, HX0.out.cell 9, HX0.out.cell 10⟩
  go_region_held3 (fun u => u.cell? ⟨w.heap.size, 0, none⟩ = some (.int .i64 2) ∧ u.cell? ⟨w.heap.size, 1, none⟩ = some (.string tx) ∧ u.cell? ⟨w.heap.size, 2, none⟩ = some (.string va) ∧ u.cell? ⟨w.heap.size, 3, none⟩ = some (.string la) ∧ u.cell? ⟨w.heap.size, 4, none⟩ = some (.int .u32 co) ∧ u.cell? ⟨w.heap.size, 5, none⟩ = some (.int .u32 ro) ∧ u.cell? ⟨w.heap.size, 6, none⟩ = some (.int .u32 wi) ∧ u.cell? ⟨w.heap.size, 7, none⟩ = some (.int .u32 he) ∧ u.cell? ⟨w.heap.size, 8, none⟩ = some (.slice A n c) ∧ u.cell? ⟨w.heap.size, 9, none⟩ = some (.bool on) ∧ u.cell? ⟨w.heap.size, 10, none⟩ = some (.int .u32 cd)) (first | exact HS0 | exact HS1 | exact HS2 | exact HSA _) ((first
    | (go_at_call 41
       ((with_reducible refine (qmade_text base n_tx tx u0.drew hn_tx hs_tx HBASE0).mono ?_); rintro e u1 ⟨tA1, tc1, rfl, HB1', HT1⟩)
       have HB1 : Hid (Below u0.heap.size u0 u1) := hid ⟨HB1'.out.os, HB1'.out.tape, HB1'.out.output, HB1'.out.size, HB1'.out.block⟩
       have HX1 := qm_box_p HX0 HB1
       have HBASE1 : base ≤ u1.heap.size := by have := HB1.out.size; omega
       have HS1 : u1.cell? ⟨w.heap.size, 0, none⟩ = some (.int .i64 2) ∧ u1.cell? ⟨w.heap.size, 1, none⟩ = some (.string tx) ∧ u1.cell? ⟨w.heap.size, 2, none⟩ = some (.string va) ∧ u1.cell? ⟨w.heap.size, 3, none⟩ = some (.string la) ∧ u1.cell? ⟨w.heap.size, 4, none⟩ = some (.int .u32 co) ∧ u1.cell? ⟨w.heap.size, 5, none⟩ = some (.int .u32 ro) ∧ u1.cell? ⟨w.heap.size, 6, none⟩ = some (.int .u32 wi) ∧ u1.cell? ⟨w.heap.size, 7, none⟩ = some (.int .u32 he) ∧ u1.cell? ⟨w.heap.size, 8, none⟩ = some (.slice A n c) ∧ u1.cell? ⟨w.heap.size, 9, none⟩ = some (.bool on) ∧ u1.cell? ⟨w.heap.size, 10, none⟩ = some (.int .u32 cd) := ⟨HX1.out.cell 0, HX1.out.cell 1, HX1.out.cell 2, HX1.out.cell 3, HX1.out.cell 4, HX1.out.cell 5, HX1.out.cell 6, HX1.out.cell 7, HX1.out.cell 8, HX1.out.cell 9, HX1.out.cell 10⟩)
    | (go_at_call 41
       ((with_reducible refine (qmade_text base n_va va u1 hn_va hs_va HBASE1).mono ?_); rintro e u2 ⟨tA2, tc2, rfl, HB2', HT2⟩)
       have HB2 := bel_trans HB1 HB2'
       have HX2 := qm_box_p HX0 HB2
       have HBASE2 : base ≤ u2.heap.size := by have := HB2.out.size; omega
       have HS2 : u2.cell? ⟨w.heap.size, 0, none⟩ = some (.int .i64 2) ∧ u2.cell? ⟨w.heap.size, 1, none⟩ = some (.string tx) ∧ u2.cell? ⟨w.heap.size, 2, none⟩ = some (.string va) ∧ u2.cell? ⟨w.heap.size, 3, none⟩ = some (.string la) ∧ u2.cell? ⟨w.heap.size, 4, none⟩ = some (.int .u32 co) ∧ u2.cell? ⟨w.heap.size, 5, none⟩ = some (.int .u32 ro) ∧ u2.cell? ⟨w.heap.size, 6, none⟩ = some (.int .u32 wi) ∧ u2.cell? ⟨w.heap.size, 7, none⟩ = some (.int .u32 he) ∧ u2.cell? ⟨w.heap.size, 8, none⟩ = some (.slice A n c) ∧ u2.cell? ⟨w.heap.size, 9, none⟩ = some (.bool on) ∧ u2.cell? ⟨w.heap.size, 10, none⟩ = some (.int .u32 cd) := ⟨HX2.out.cell 0, HX2.out.cell 1, HX2.out.cell 2, HX2.out.cell 3, HX2.out.cell 4, HX2.out.cell 5, HX2.out.cell 6, HX2.out.cell 7, HX2.out.cell 8, HX2.out.cell 9, HX2.out.cell 10⟩
       have HSA : ∀ o, (u2.alloc o).cell? ⟨w.heap.size, 0, none⟩ = some (.int .i64 2) ∧ (u2.alloc o).cell? ⟨w.heap.size, 1, none⟩ = some (.string tx) ∧ (u2.alloc o).cell? ⟨w.heap.size, 2, none⟩ = some (.string va) ∧ (u2.alloc o).cell? ⟨w.heap.size, 3, none⟩ = some (.string la) ∧ (u2.alloc o).cell? ⟨w.heap.size, 4, none⟩ = some (.int .u32 co) ∧ (u2.alloc o).cell? ⟨w.heap.size, 5, none⟩ = some (.int .u32 ro) ∧ (u2.alloc o).cell? ⟨w.heap.size, 6, none⟩ = some (.int .u32 wi) ∧ (u2.alloc o).cell? ⟨w.heap.size, 7, none⟩ = some (.int .u32 he) ∧ (u2.alloc o).cell? ⟨w.heap.size, 8, none⟩ = some (.slice A n c) ∧ (u2.alloc o).cell? ⟨w.heap.size, 9, none⟩ = some (.bool on) ∧ (u2.alloc o).cell? ⟨w.heap.size, 10, none⟩ = some (.int .u32 cd) := fun o => ⟨(qm_box_a HX2 o).out.cell 0, (qm_box_a HX2 o).out.cell 1, (qm_box_a HX2 o).out.cell 2, (qm_box_a HX2 o).out.cell 3, (qm_box_a HX2 o).out.cell 4, (qm_box_a HX2 o).out.cell 5, (qm_box_a HX2 o).out.cell 6, (qm_box_a HX2 o).out.cell 7, (qm_box_a HX2 o).out.cell 8, (qm_box_a HX2 o).out.cell 9, (qm_box_a HX2 o).out.cell 10⟩)))
  all_goals
    go_wp2
    go_ret
    have HTN2 := HT2.out
    have HTN1 := (HT1.out.below HB2'.out)
    have hl := lit_lies u2 #[.int .i64 4, .int .u32 0, .slice tA1 n_tx tc1, .slice none 0 0, .int .i64 4, .int .u32 0, .slice tA2 n_va tc2, .slice none 0 0] 74 (0, 0) u2.heap.size rfl
    subst hn_tx
    subst hn_va
    exact ⟨HB0.out.trans ((HB2.out.mono (by omega)).trans ((bel1 u2 _).mono (by have := HB2.out.size; omega))), _, rfl, _, hl.more (by simp), ⟨tA1, tc1, _, rfl, rfl, qm_tk_alloc HTN1 _, ⟨tA2, tc2, _, rfl, rfl, qm_tk_alloc HTN2 _, rfl⟩⟩⟩
set_option maxHeartbeats 4000000 in
set_option maxRecDepth 100000 in
theorem qfields_ends_true (base co ro wi he cd n c n_tx n_va n_la : Nat) (tx va la : ByteArray) (A : Option Addr) (w : World) (hb : base ≤ w.heap.size) (hn_tx : tx.data.toList.length = n_tx) (hn_va : va.data.toList.length = n_va) (hn_la : la.data.toList.length = n_la) (hs_tx : tx.size ≤ maxLen) (hs_va : va.size ≤ maxLen) (hs_la : la.size ≤ maxLen) :
    Calls Tryz.prog 25 #[.agg #[.int .i64 10, .string tx, .string va, .string la, .int .u32 co, .int .u32 ro, .int .u32 wi, .int .u32 he, .slice A n c, .bool true, .int .u32 cd]] w fun e w' => Hid (Below w.heap.size w w') ∧ ∃ A', e = .returned (.slice A' 4 4) ∧ Hid (∃ cs, Lies w' w'.heap.size A' cs ∧ FlatK w' base [⟨4, 0, tx.data.toList, []⟩, ⟨2, 1, [], []⟩, ⟨4, 0, va.data.toList, []⟩, ⟨4, 0, la.data.toList, []⟩] cs) := by
  have HX0 : Hid (Box (w.alloc (.cells #[.int .i64 10, .string tx, .string va, .string la, .int .u32 co, .int .u32 ro, .int .u32 wi, .int .u32 he, .slice A n c, .bool true, .int .u32 cd] 27)) w.heap.size 27 #[.int .i64 10, .string tx, .string va, .string la, .int .u32 co, .int .u32 ro, .int .u32 wi, .int .u32 he, .slice A n c, .bool true, .int .u32 cd]) := hid (Box.new w 27 _)
  have HB0 : Hid (Below w.heap.size w (w.alloc (.cells #[.int .i64 10, .string tx, .string va, .string la, .int .u32 co, .int .u32 ro, .int .u32 wi, .int .u32 he, .slice A n c, .bool true, .int .u32 cd] 27))) := bel1 w _
  have HZ0 : (w.alloc (.cells #[.int .i64 10, .string tx, .string va, .string la, .int .u32 co, .int .u32 ro, .int .u32 wi, .int .u32 he, .slice A n c, .bool true, .int .u32 cd] 27)).heap.size = w.heap.size + 1 := by simp
  have HBASE0 : base ≤ (w.alloc (.cells #[.int .i64 10, .string tx, .string va, .string la, .int .u32 co, .int .u32 ro, .int .u32 wi, .int .u32 he, .slice A n c, .bool true, .int .u32 cd] 27)).drew.heap.size := by show base ≤ (w.alloc (.cells #[.int .i64 10, .string tx, .string va, .string la, .int .u32 co, .int .u32 ro, .int .u32 wi, .int .u32 he, .slice A n c, .bool true, .int .u32 cd] 27)).heap.size; omega
  go_enter Tryz.func25, Tryz.ntmps25
  go_wp2
  generalize hW : w.alloc _ = u0 at HX0 HB0 HZ0 HBASE0
  have HW := hid hW
  clear hW
  have HS0 : u0.cell? ⟨w.heap.size, 0, none⟩ = some (.int .i64 10) ∧ u0.cell? ⟨w.heap.size, 1, none⟩ = some (.string tx) ∧ u0.cell? ⟨w.heap.size, 2, none⟩ = some (.string va) ∧ u0.cell? ⟨w.heap.size, 3, none⟩ = some (.string la) ∧ u0.cell? ⟨w.heap.size, 4, none⟩ = some (.int .u32 co) ∧ u0.cell? ⟨w.heap.size, 5, none⟩ = some (.int .u32 ro) ∧ u0.cell? ⟨w.heap.size, 6, none⟩ = some (.int .u32 wi) ∧ u0.cell? ⟨w.heap.size, 7, none⟩ = some (.int .u32 he) ∧ u0.cell? ⟨w.heap.size, 8, none⟩ = some (.slice A n c) ∧ u0.cell? ⟨w.heap.size, 9, none⟩ = some (.bool true) ∧ u0.cell? ⟨w.heap.size, 10, none⟩ = some (.int .u32 cd) := ⟨HX0.out.cell 0, HX0.out.cell 1, HX0.out.cell 2, HX0.out.cell 3, HX0.out.cell 4, HX0.out.cell 5, HX0.out.cell 6, HX0.out.cell 7, HX0.out.cell 8, HX0.out.cell 9, HX0.out.cell 10⟩
  go_region_held3 (fun u => u.cell? ⟨w.heap.size, 0, none⟩ = some (.int .i64 10) ∧ u.cell? ⟨w.heap.size, 1, none⟩ = some (.string tx) ∧ u.cell? ⟨w.heap.size, 2, none⟩ = some (.string va) ∧ u.cell? ⟨w.heap.size, 3, none⟩ = some (.string la) ∧ u.cell? ⟨w.heap.size, 4, none⟩ = some (.int .u32 co) ∧ u.cell? ⟨w.heap.size, 5, none⟩ = some (.int .u32 ro) ∧ u.cell? ⟨w.heap.size, 6, none⟩ = some (.int .u32 wi) ∧ u.cell? ⟨w.heap.size, 7, none⟩ = some (.int .u32 he) ∧ u.cell? ⟨w.heap.size, 8, none⟩ = some (.slice A n c) ∧ u.cell? ⟨w.heap.size, 9, none⟩ = some (.bool true) ∧ u.cell? ⟨w.heap.size, 10, none⟩ = some (.int .u32 cd)) (first | exact HS0 | exact HS1 | exact HS2 | exact HS3 | exact HS4 | exact HSA _) ((first
    | (go_at_call 41
       ((with_reducible refine (qmade_text base n_tx tx u0.drew hn_tx hs_tx HBASE0).mono ?_); rintro e u1 ⟨tA1, tc1, rfl, HB1', HT1⟩)
       have HB1 : Hid (Below u0.heap.size u0 u1) := hid ⟨HB1'.out.os, HB1'.out.tape, HB1'.out.output, HB1'.out.size, HB1'.out.block⟩
       have HX1 := qm_box_p HX0 HB1
       have HBASE1 : base ≤ u1.heap.size := by have := HB1.out.size; omega
       have HS1 : u1.cell? ⟨w.heap.size, 0, none⟩ = some (.int .i64 10) ∧ u1.cell? ⟨w.heap.size, 1, none⟩ = some (.string tx) ∧ u1.cell? ⟨w.heap.size, 2, none⟩ = some (.string va) ∧ u1.cell? ⟨w.heap.size, 3, none⟩ = some (.string la) ∧ u1.cell? ⟨w.heap.size, 4, none⟩ = some (.int .u32 co) ∧ u1.cell? ⟨w.heap.size, 5, none⟩ = some (.int .u32 ro) ∧ u1.cell? ⟨w.heap.size, 6, none⟩ = some (.int .u32 wi) ∧ u1.cell? ⟨w.heap.size, 7, none⟩ = some (.int .u32 he) ∧ u1.cell? ⟨w.heap.size, 8, none⟩ = some (.slice A n c) ∧ u1.cell? ⟨w.heap.size, 9, none⟩ = some (.bool true) ∧ u1.cell? ⟨w.heap.size, 10, none⟩ = some (.int .u32 cd) := ⟨HX1.out.cell 0, HX1.out.cell 1, HX1.out.cell 2, HX1.out.cell 3, HX1.out.cell 4, HX1.out.cell 5, HX1.out.cell 6, HX1.out.cell 7, HX1.out.cell 8, HX1.out.cell 9, HX1.out.cell 10⟩)
    | (go_at_call 43
       ((with_reducible refine (qmade_flag true 1 rfl u1).mono ?_); rintro e u2 ⟨rfl, HB2'⟩)
       have HB2 := bel_trans HB1 HB2'
       have HX2 := qm_box_p HX0 HB2
       have HBASE2 : base ≤ u2.heap.size := by have := HB2.out.size; omega
       have HS2 : u2.cell? ⟨w.heap.size, 0, none⟩ = some (.int .i64 10) ∧ u2.cell? ⟨w.heap.size, 1, none⟩ = some (.string tx) ∧ u2.cell? ⟨w.heap.size, 2, none⟩ = some (.string va) ∧ u2.cell? ⟨w.heap.size, 3, none⟩ = some (.string la) ∧ u2.cell? ⟨w.heap.size, 4, none⟩ = some (.int .u32 co) ∧ u2.cell? ⟨w.heap.size, 5, none⟩ = some (.int .u32 ro) ∧ u2.cell? ⟨w.heap.size, 6, none⟩ = some (.int .u32 wi) ∧ u2.cell? ⟨w.heap.size, 7, none⟩ = some (.int .u32 he) ∧ u2.cell? ⟨w.heap.size, 8, none⟩ = some (.slice A n c) ∧ u2.cell? ⟨w.heap.size, 9, none⟩ = some (.bool true) ∧ u2.cell? ⟨w.heap.size, 10, none⟩ = some (.int .u32 cd) := ⟨HX2.out.cell 0, HX2.out.cell 1, HX2.out.cell 2, HX2.out.cell 3, HX2.out.cell 4, HX2.out.cell 5, HX2.out.cell 6, HX2.out.cell 7, HX2.out.cell 8, HX2.out.cell 9, HX2.out.cell 10⟩)
    | (go_at_call 41
       ((with_reducible refine (qmade_text base n_va va u2 hn_va hs_va HBASE2).mono ?_); rintro e u3 ⟨tA3, tc3, rfl, HB3', HT3⟩)
       have HB3 := bel_trans HB2 HB3'
       have HX3 := qm_box_p HX0 HB3
       have HBASE3 : base ≤ u3.heap.size := by have := HB3.out.size; omega
       have HS3 : u3.cell? ⟨w.heap.size, 0, none⟩ = some (.int .i64 10) ∧ u3.cell? ⟨w.heap.size, 1, none⟩ = some (.string tx) ∧ u3.cell? ⟨w.heap.size, 2, none⟩ = some (.string va) ∧ u3.cell? ⟨w.heap.size, 3, none⟩ = some (.string la) ∧ u3.cell? ⟨w.heap.size, 4, none⟩ = some (.int .u32 co) ∧ u3.cell? ⟨w.heap.size, 5, none⟩ = some (.int .u32 ro) ∧ u3.cell? ⟨w.heap.size, 6, none⟩ = some (.int .u32 wi) ∧ u3.cell? ⟨w.heap.size, 7, none⟩ = some (.int .u32 he) ∧ u3.cell? ⟨w.heap.size, 8, none⟩ = some (.slice A n c) ∧ u3.cell? ⟨w.heap.size, 9, none⟩ = some (.bool true) ∧ u3.cell? ⟨w.heap.size, 10, none⟩ = some (.int .u32 cd) := ⟨HX3.out.cell 0, HX3.out.cell 1, HX3.out.cell 2, HX3.out.cell 3, HX3.out.cell 4, HX3.out.cell 5, HX3.out.cell 6, HX3.out.cell 7, HX3.out.cell 8, HX3.out.cell 9, HX3.out.cell 10⟩)
    | (go_at_call 41
       ((with_reducible refine (qmade_text base n_la la u3 hn_la hs_la HBASE3).mono ?_); rintro e u4 ⟨tA4, tc4, rfl, HB4', HT4⟩)
       have HB4 := bel_trans HB3 HB4'
       have HX4 := qm_box_p HX0 HB4
       have HBASE4 : base ≤ u4.heap.size := by have := HB4.out.size; omega
       have HS4 : u4.cell? ⟨w.heap.size, 0, none⟩ = some (.int .i64 10) ∧ u4.cell? ⟨w.heap.size, 1, none⟩ = some (.string tx) ∧ u4.cell? ⟨w.heap.size, 2, none⟩ = some (.string va) ∧ u4.cell? ⟨w.heap.size, 3, none⟩ = some (.string la) ∧ u4.cell? ⟨w.heap.size, 4, none⟩ = some (.int .u32 co) ∧ u4.cell? ⟨w.heap.size, 5, none⟩ = some (.int .u32 ro) ∧ u4.cell? ⟨w.heap.size, 6, none⟩ = some (.int .u32 wi) ∧ u4.cell? ⟨w.heap.size, 7, none⟩ = some (.int .u32 he) ∧ u4.cell? ⟨w.heap.size, 8, none⟩ = some (.slice A n c) ∧ u4.cell? ⟨w.heap.size, 9, none⟩ = some (.bool true) ∧ u4.cell? ⟨w.heap.size, 10, none⟩ = some (.int .u32 cd) := ⟨HX4.out.cell 0, HX4.out.cell 1, HX4.out.cell 2, HX4.out.cell 3, HX4.out.cell 4, HX4.out.cell 5, HX4.out.cell 6, HX4.out.cell 7, HX4.out.cell 8, HX4.out.cell 9, HX4.out.cell 10⟩
       have HSA : ∀ o, (u4.alloc o).cell? ⟨w.heap.size, 0, none⟩ = some (.int .i64 10) ∧ (u4.alloc o).cell? ⟨w.heap.size, 1, none⟩ = some (.string tx) ∧ (u4.alloc o).cell? ⟨w.heap.size, 2, none⟩ = some (.string va) ∧ (u4.alloc o).cell? ⟨w.heap.size, 3, none⟩ = some (.string la) ∧ (u4.alloc o).cell? ⟨w.heap.size, 4, none⟩ = some (.int .u32 co) ∧ (u4.alloc o).cell? ⟨w.heap.size, 5, none⟩ = some (.int .u32 ro) ∧ (u4.alloc o).cell? ⟨w.heap.size, 6, none⟩ = some (.int .u32 wi) ∧ (u4.alloc o).cell? ⟨w.heap.size, 7, none⟩ = some (.int .u32 he) ∧ (u4.alloc o).cell? ⟨w.heap.size, 8, none⟩ = some (.slice A n c) ∧ (u4.alloc o).cell? ⟨w.heap.size, 9, none⟩ = some (.bool true) ∧ (u4.alloc o).cell? ⟨w.heap.size, 10, none⟩ = some (.int .u32 cd) := fun o => ⟨(qm_box_a HX4 o).out.cell 0, (qm_box_a HX4 o).out.cell 1, (qm_box_a HX4 o).out.cell 2, (qm_box_a HX4 o).out.cell 3, (qm_box_a HX4 o).out.cell 4, (qm_box_a HX4 o).out.cell 5, (qm_box_a HX4 o).out.cell 6, (qm_box_a HX4 o).out.cell 7, (qm_box_a HX4 o).out.cell 8, (qm_box_a HX4 o).out.cell 9, (qm_box_a HX4 o).out.cell 10⟩)))
  all_goals
    go_wp2
    go_ret
    have HTN4 := HT4.out
    have HTN3 := (HT3.out.below HB4'.out)
    have HTN1 := (((HT1.out.below HB2'.out).below HB3'.out).below HB4'.out)
    have hl := lit_lies u4 #[.int .i64 4, .int .u32 0, .slice tA1 n_tx tc1, .slice none 0 0, .int .i64 2, .int .u32 1, .slice none 0 0, .slice none 0 0, .int .i64 4, .int .u32 0, .slice tA3 n_va tc3, .slice none 0 0, .int .i64 4, .int .u32 0, .slice tA4 n_la tc4, .slice none 0 0] 74 (0, 0) u4.heap.size rfl
    subst hn_tx
    subst hn_va
    subst hn_la
    exact ⟨HB0.out.trans ((HB4.out.mono (by omega)).trans ((bel1 u4 _).mono (by have := HB4.out.size; omega))), _, rfl, _, hl.more (by simp), ⟨tA1, tc1, _, rfl, rfl, qm_tk_alloc HTN1 _, ⟨none, 0, _, rfl, rfl, TK.nil_ _ _, ⟨tA3, tc3, _, rfl, rfl, qm_tk_alloc HTN3 _, ⟨tA4, tc4, _, rfl, rfl, qm_tk_alloc HTN4 _, rfl⟩⟩⟩⟩⟩
set_option maxHeartbeats 4000000 in
set_option maxRecDepth 100000 in
theorem qfields_ends_false (base co ro wi he cd n c n_tx n_va n_la : Nat) (tx va la : ByteArray) (A : Option Addr) (w : World) (hb : base ≤ w.heap.size) (hn_tx : tx.data.toList.length = n_tx) (hn_va : va.data.toList.length = n_va) (hn_la : la.data.toList.length = n_la) (hs_tx : tx.size ≤ maxLen) (hs_va : va.size ≤ maxLen) (hs_la : la.size ≤ maxLen) :
    Calls Tryz.prog 25 #[.agg #[.int .i64 10, .string tx, .string va, .string la, .int .u32 co, .int .u32 ro, .int .u32 wi, .int .u32 he, .slice A n c, .bool false, .int .u32 cd]] w fun e w' => Hid (Below w.heap.size w w') ∧ ∃ A', e = .returned (.slice A' 4 4) ∧ Hid (∃ cs, Lies w' w'.heap.size A' cs ∧ FlatK w' base [⟨4, 0, tx.data.toList, []⟩, ⟨2, 0, [], []⟩, ⟨4, 0, va.data.toList, []⟩, ⟨4, 0, la.data.toList, []⟩] cs) := by
  have HX0 : Hid (Box (w.alloc (.cells #[.int .i64 10, .string tx, .string va, .string la, .int .u32 co, .int .u32 ro, .int .u32 wi, .int .u32 he, .slice A n c, .bool false, .int .u32 cd] 27)) w.heap.size 27 #[.int .i64 10, .string tx, .string va, .string la, .int .u32 co, .int .u32 ro, .int .u32 wi, .int .u32 he, .slice A n c, .bool false, .int .u32 cd]) := hid (Box.new w 27 _)
  have HB0 : Hid (Below w.heap.size w (w.alloc (.cells #[.int .i64 10, .string tx, .string va, .string la, .int .u32 co, .int .u32 ro, .int .u32 wi, .int .u32 he, .slice A n c, .bool false, .int .u32 cd] 27))) := bel1 w _
  have HZ0 : (w.alloc (.cells #[.int .i64 10, .string tx, .string va, .string la, .int .u32 co, .int .u32 ro, .int .u32 wi, .int .u32 he, .slice A n c, .bool false, .int .u32 cd] 27)).heap.size = w.heap.size + 1 := by simp
  have HBASE0 : base ≤ (w.alloc (.cells #[.int .i64 10, .string tx, .string va, .string la, .int .u32 co, .int .u32 ro, .int .u32 wi, .int .u32 he, .slice A n c, .bool false, .int .u32 cd] 27)).drew.heap.size := by show base ≤ (w.alloc (.cells #[.int .i64 10, .string tx, .string va, .string la, .int .u32 co, .int .u32 ro, .int .u32 wi, .int .u32 he, .slice A n c, .bool false, .int .u32 cd] 27)).heap.size; omega
  go_enter Tryz.func25, Tryz.ntmps25
  go_wp2
  generalize hW : w.alloc _ = u0 at HX0 HB0 HZ0 HBASE0
  have HW := hid hW
  clear hW
  have HS0 : u0.cell? ⟨w.heap.size, 0, none⟩ = some (.int .i64 10) ∧ u0.cell? ⟨w.heap.size, 1, none⟩ = some (.string tx) ∧ u0.cell? ⟨w.heap.size, 2, none⟩ = some (.string va) ∧ u0.cell? ⟨w.heap.size, 3, none⟩ = some (.string la) ∧ u0.cell? ⟨w.heap.size, 4, none⟩ = some (.int .u32 co) ∧ u0.cell? ⟨w.heap.size, 5, none⟩ = some (.int .u32 ro) ∧ u0.cell? ⟨w.heap.size, 6, none⟩ = some (.int .u32 wi) ∧ u0.cell? ⟨w.heap.size, 7, none⟩ = some (.int .u32 he) ∧ u0.cell? ⟨w.heap.size, 8, none⟩ = some (.slice A n c) ∧ u0.cell? ⟨w.heap.size, 9, none⟩ = some (.bool false) ∧ u0.cell? ⟨w.heap.size, 10, none⟩ = some (.int .u32 cd) := ⟨HX0.out.cell 0, HX0.out.cell 1, HX0.out.cell 2, HX0.out.cell 3, HX0.out.cell 4, HX0.out.cell 5, HX0.out.cell 6, HX0.out.cell 7, HX0.out.cell 8, HX0.out.cell 9, HX0.out.cell 10⟩
  go_region_held3 (fun u => u.cell? ⟨w.heap.size, 0, none⟩ = some (.int .i64 10) ∧ u.cell? ⟨w.heap.size, 1, none⟩ = some (.string tx) ∧ u.cell? ⟨w.heap.size, 2, none⟩ = some (.string va) ∧ u.cell? ⟨w.heap.size, 3, none⟩ = some (.string la) ∧ u.cell? ⟨w.heap.size, 4, none⟩ = some (.int .u32 co) ∧ u.cell? ⟨w.heap.size, 5, none⟩ = some (.int .u32 ro) ∧ u.cell? ⟨w.heap.size, 6, none⟩ = some (.int .u32 wi) ∧ u.cell? ⟨w.heap.size, 7, none⟩ = some (.int .u32 he) ∧ u.cell? ⟨w.heap.size, 8, none⟩ = some (.slice A n c) ∧ u.cell? ⟨w.heap.size, 9, none⟩ = some (.bool false) ∧ u.cell? ⟨w.heap.size, 10, none⟩ = some (.int .u32 cd)) (first | exact HS0 | exact HS1 | exact HS2 | exact HS3 | exact HS4 | exact HSA _) ((first
    | (go_at_call 41
       ((with_reducible refine (qmade_text base n_tx tx u0.drew hn_tx hs_tx HBASE0).mono ?_); rintro e u1 ⟨tA1, tc1, rfl, HB1', HT1⟩)
       have HB1 : Hid (Below u0.heap.size u0 u1) := hid ⟨HB1'.out.os, HB1'.out.tape, HB1'.out.output, HB1'.out.size, HB1'.out.block⟩
       have HX1 := qm_box_p HX0 HB1
       have HBASE1 : base ≤ u1.heap.size := by have := HB1.out.size; omega
       have HS1 : u1.cell? ⟨w.heap.size, 0, none⟩ = some (.int .i64 10) ∧ u1.cell? ⟨w.heap.size, 1, none⟩ = some (.string tx) ∧ u1.cell? ⟨w.heap.size, 2, none⟩ = some (.string va) ∧ u1.cell? ⟨w.heap.size, 3, none⟩ = some (.string la) ∧ u1.cell? ⟨w.heap.size, 4, none⟩ = some (.int .u32 co) ∧ u1.cell? ⟨w.heap.size, 5, none⟩ = some (.int .u32 ro) ∧ u1.cell? ⟨w.heap.size, 6, none⟩ = some (.int .u32 wi) ∧ u1.cell? ⟨w.heap.size, 7, none⟩ = some (.int .u32 he) ∧ u1.cell? ⟨w.heap.size, 8, none⟩ = some (.slice A n c) ∧ u1.cell? ⟨w.heap.size, 9, none⟩ = some (.bool false) ∧ u1.cell? ⟨w.heap.size, 10, none⟩ = some (.int .u32 cd) := ⟨HX1.out.cell 0, HX1.out.cell 1, HX1.out.cell 2, HX1.out.cell 3, HX1.out.cell 4, HX1.out.cell 5, HX1.out.cell 6, HX1.out.cell 7, HX1.out.cell 8, HX1.out.cell 9, HX1.out.cell 10⟩)
    | (go_at_call 43
       ((with_reducible refine (qmade_flag false 0 rfl u1).mono ?_); rintro e u2 ⟨rfl, HB2'⟩)
       have HB2 := bel_trans HB1 HB2'
       have HX2 := qm_box_p HX0 HB2
       have HBASE2 : base ≤ u2.heap.size := by have := HB2.out.size; omega
       have HS2 : u2.cell? ⟨w.heap.size, 0, none⟩ = some (.int .i64 10) ∧ u2.cell? ⟨w.heap.size, 1, none⟩ = some (.string tx) ∧ u2.cell? ⟨w.heap.size, 2, none⟩ = some (.string va) ∧ u2.cell? ⟨w.heap.size, 3, none⟩ = some (.string la) ∧ u2.cell? ⟨w.heap.size, 4, none⟩ = some (.int .u32 co) ∧ u2.cell? ⟨w.heap.size, 5, none⟩ = some (.int .u32 ro) ∧ u2.cell? ⟨w.heap.size, 6, none⟩ = some (.int .u32 wi) ∧ u2.cell? ⟨w.heap.size, 7, none⟩ = some (.int .u32 he) ∧ u2.cell? ⟨w.heap.size, 8, none⟩ = some (.slice A n c) ∧ u2.cell? ⟨w.heap.size, 9, none⟩ = some (.bool false) ∧ u2.cell? ⟨w.heap.size, 10, none⟩ = some (.int .u32 cd) := ⟨HX2.out.cell 0, HX2.out.cell 1, HX2.out.cell 2, HX2.out.cell 3, HX2.out.cell 4, HX2.out.cell 5, HX2.out.cell 6, HX2.out.cell 7, HX2.out.cell 8, HX2.out.cell 9, HX2.out.cell 10⟩)
    | (go_at_call 41
       ((with_reducible refine (qmade_text base n_va va u2 hn_va hs_va HBASE2).mono ?_); rintro e u3 ⟨tA3, tc3, rfl, HB3', HT3⟩)
       have HB3 := bel_trans HB2 HB3'
       have HX3 := qm_box_p HX0 HB3
       have HBASE3 : base ≤ u3.heap.size := by have := HB3.out.size; omega
       have HS3 : u3.cell? ⟨w.heap.size, 0, none⟩ = some (.int .i64 10) ∧ u3.cell? ⟨w.heap.size, 1, none⟩ = some (.string tx) ∧ u3.cell? ⟨w.heap.size, 2, none⟩ = some (.string va) ∧ u3.cell? ⟨w.heap.size, 3, none⟩ = some (.string la) ∧ u3.cell? ⟨w.heap.size, 4, none⟩ = some (.int .u32 co) ∧ u3.cell? ⟨w.heap.size, 5, none⟩ = some (.int .u32 ro) ∧ u3.cell? ⟨w.heap.size, 6, none⟩ = some (.int .u32 wi) ∧ u3.cell? ⟨w.heap.size, 7, none⟩ = some (.int .u32 he) ∧ u3.cell? ⟨w.heap.size, 8, none⟩ = some (.slice A n c) ∧ u3.cell? ⟨w.heap.size, 9, none⟩ = some (.bool false) ∧ u3.cell? ⟨w.heap.size, 10, none⟩ = some (.int .u32 cd) := ⟨HX3.out.cell 0, HX3.out.cell 1, HX3.out.cell 2, HX3.out.cell 3, HX3.out.cell 4, HX3.out.cell 5, HX3.out.cell 6, HX3.out.cell 7, HX3.out.cell 8, HX3.out.cell 9, HX3.out.cell 10⟩)
    | (go_at_call 41
       ((with_reducible refine (qmade_text base n_la la u3 hn_la hs_la HBASE3).mono ?_); rintro e u4 ⟨tA4, tc4, rfl, HB4', HT4⟩)
       have HB4 := bel_trans HB3 HB4'
       have HX4 := qm_box_p HX0 HB4
       have HBASE4 : base ≤ u4.heap.size := by have := HB4.out.size; omega
       have HS4 : u4.cell? ⟨w.heap.size, 0, none⟩ = some (.int .i64 10) ∧ u4.cell? ⟨w.heap.size, 1, none⟩ = some (.string tx) ∧ u4.cell? ⟨w.heap.size, 2, none⟩ = some (.string va) ∧ u4.cell? ⟨w.heap.size, 3, none⟩ = some (.string la) ∧ u4.cell? ⟨w.heap.size, 4, none⟩ = some (.int .u32 co) ∧ u4.cell? ⟨w.heap.size, 5, none⟩ = some (.int .u32 ro) ∧ u4.cell? ⟨w.heap.size, 6, none⟩ = some (.int .u32 wi) ∧ u4.cell? ⟨w.heap.size, 7, none⟩ = some (.int .u32 he) ∧ u4.cell? ⟨w.heap.size, 8, none⟩ = some (.slice A n c) ∧ u4.cell? ⟨w.heap.size, 9, none⟩ = some (.bool false) ∧ u4.cell? ⟨w.heap.size, 10, none⟩ = some (.int .u32 cd) := ⟨HX4.out.cell 0, HX4.out.cell 1, HX4.out.cell 2, HX4.out.cell 3, HX4.out.cell 4, HX4.out.cell 5, HX4.out.cell 6, HX4.out.cell 7, HX4.out.cell 8, HX4.out.cell 9, HX4.out.cell 10⟩
       have HSA : ∀ o, (u4.alloc o).cell? ⟨w.heap.size, 0, none⟩ = some (.int .i64 10) ∧ (u4.alloc o).cell? ⟨w.heap.size, 1, none⟩ = some (.string tx) ∧ (u4.alloc o).cell? ⟨w.heap.size, 2, none⟩ = some (.string va) ∧ (u4.alloc o).cell? ⟨w.heap.size, 3, none⟩ = some (.string la) ∧ (u4.alloc o).cell? ⟨w.heap.size, 4, none⟩ = some (.int .u32 co) ∧ (u4.alloc o).cell? ⟨w.heap.size, 5, none⟩ = some (.int .u32 ro) ∧ (u4.alloc o).cell? ⟨w.heap.size, 6, none⟩ = some (.int .u32 wi) ∧ (u4.alloc o).cell? ⟨w.heap.size, 7, none⟩ = some (.int .u32 he) ∧ (u4.alloc o).cell? ⟨w.heap.size, 8, none⟩ = some (.slice A n c) ∧ (u4.alloc o).cell? ⟨w.heap.size, 9, none⟩ = some (.bool false) ∧ (u4.alloc o).cell? ⟨w.heap.size, 10, none⟩ = some (.int .u32 cd) := fun o => ⟨(qm_box_a HX4 o).out.cell 0, (qm_box_a HX4 o).out.cell 1, (qm_box_a HX4 o).out.cell 2, (qm_box_a HX4 o).out.cell 3, (qm_box_a HX4 o).out.cell 4, (qm_box_a HX4 o).out.cell 5, (qm_box_a HX4 o).out.cell 6, (qm_box_a HX4 o).out.cell 7, (qm_box_a HX4 o).out.cell 8, (qm_box_a HX4 o).out.cell 9, (qm_box_a HX4 o).out.cell 10⟩)))
  all_goals
    go_wp2
    go_ret
    have HTN4 := HT4.out
    have HTN3 := (HT3.out.below HB4'.out)
    have HTN1 := (((HT1.out.below HB2'.out).below HB3'.out).below HB4'.out)
    have hl := lit_lies u4 #[.int .i64 4, .int .u32 0, .slice tA1 n_tx tc1, .slice none 0 0, .int .i64 2, .int .u32 0, .slice none 0 0, .slice none 0 0, .int .i64 4, .int .u32 0, .slice tA3 n_va tc3, .slice none 0 0, .int .i64 4, .int .u32 0, .slice tA4 n_la tc4, .slice none 0 0] 74 (0, 0) u4.heap.size rfl
    subst hn_tx
    subst hn_va
    subst hn_la
    exact ⟨HB0.out.trans ((HB4.out.mono (by omega)).trans ((bel1 u4 _).mono (by have := HB4.out.size; omega))), _, rfl, _, hl.more (by simp), ⟨tA1, tc1, _, rfl, rfl, qm_tk_alloc HTN1 _, ⟨none, 0, _, rfl, rfl, TK.nil_ _ _, ⟨tA3, tc3, _, rfl, rfl, qm_tk_alloc HTN3 _, ⟨tA4, tc4, _, rfl, rfl, qm_tk_alloc HTN4 _, rfl⟩⟩⟩⟩⟩
set_option maxHeartbeats 2000000 in
set_option maxRecDepth 100000 in
theorem qfields_exec (base co ro wi he cd n c : Nat) (tx va la : ByteArray) (on : Bool) (A : Option Addr) (w : World) (hb : base ≤ w.heap.size) (hs : tx.size ≤ maxLen) :
    Calls Tryz.prog 25 #[.agg #[.int .i64 4, .string tx, .string va, .string la, .int .u32 co, .int .u32 ro, .int .u32 wi, .int .u32 he, .slice A n c, .bool on, .int .u32 cd]] w fun e w' => Hid (Below w.heap.size w w') ∧ ∃ A', e = .returned (.slice A' 1 1) ∧ Hid (∃ cs, Lies w' w'.heap.size A' cs ∧ FlatK w' base [⟨4, 0, tx.data.toList, []⟩] cs) := by
  obtain ⟨tl, HTL⟩ : ∃ n, Hid (tx.data.toList.length = n) := ⟨_, hid rfl⟩
  go_enter Tryz.func25, Tryz.ntmps25
  go_wp2_with (
    go_at_call 41
    ((with_reducible refine (qmade_text base tl tx _ HTL.out hs (by simp; omega)).mono ?_); rintro e u1 ⟨tA1, tc1, rfl, HB1', HT1⟩)
    have HB1 : Hid (Below w.heap.size w u1) := hid ((bel1 w _).trans (HB1'.out.mono (by simp))))
  go_ret
  have hl := lit_lies u1 #[.int .i64 4, .int .u32 0, .slice tA1 tl tc1, .slice none 0 0] 74 (0, 0) u1.heap.size rfl
  exact ⟨HB1.out.trans ((bel1 u1 _).mono HB1.out.size), _, rfl, _, hl.more (by simp), ⟨tA1, tc1, _, by rw [HTL.out]; rfl, rfl, qm_tk_alloc HT1.out _, rfl⟩⟩
set_option maxHeartbeats 2000000 in
set_option maxRecDepth 100000 in
theorem qfields_subsystem (base co ro wi he cd n c : Nat) (tx va la : ByteArray) (on : Bool) (A : Option Addr) (w : World) (hb : base ≤ w.heap.size) (hs : tx.size ≤ maxLen) :
    Calls Tryz.prog 25 #[.agg #[.int .i64 5, .string tx, .string va, .string la, .int .u32 co, .int .u32 ro, .int .u32 wi, .int .u32 he, .slice A n c, .bool on, .int .u32 cd]] w fun e w' => Hid (Below w.heap.size w w') ∧ ∃ A', e = .returned (.slice A' 1 1) ∧ Hid (∃ cs, Lies w' w'.heap.size A' cs ∧ FlatK w' base [⟨4, 0, tx.data.toList, []⟩] cs) := by
  obtain ⟨tl, HTL⟩ : ∃ n, Hid (tx.data.toList.length = n) := ⟨_, hid rfl⟩
  go_enter Tryz.func25, Tryz.ntmps25
  go_wp2_with (
    go_at_call 41
    ((with_reducible refine (qmade_text base tl tx _ HTL.out hs (by simp; omega)).mono ?_); rintro e u1 ⟨tA1, tc1, rfl, HB1', HT1⟩)
    have HB1 : Hid (Below w.heap.size w u1) := hid ((bel1 w _).trans (HB1'.out.mono (by simp))))
  go_ret
  have hl := lit_lies u1 #[.int .i64 4, .int .u32 0, .slice tA1 tl tc1, .slice none 0 0] 74 (0, 0) u1.heap.size rfl
  exact ⟨HB1.out.trans ((bel1 u1 _).mono HB1.out.size), _, rfl, _, hl.more (by simp), ⟨tA1, tc1, _, by rw [HTL.out]; rfl, rfl, qm_tk_alloc HT1.out _, rfl⟩⟩
set_option maxHeartbeats 2000000 in
set_option maxRecDepth 100000 in
theorem qfields_signal (base co ro wi he cd n c : Nat) (tx va la : ByteArray) (on : Bool) (A : Option Addr) (w : World) (hb : base ≤ w.heap.size) (hs : tx.size ≤ maxLen) :
    Calls Tryz.prog 25 #[.agg #[.int .i64 8, .string tx, .string va, .string la, .int .u32 co, .int .u32 ro, .int .u32 wi, .int .u32 he, .slice A n c, .bool on, .int .u32 cd]] w fun e w' => Hid (Below w.heap.size w w') ∧ ∃ A', e = .returned (.slice A' 1 1) ∧ Hid (∃ cs, Lies w' w'.heap.size A' cs ∧ FlatK w' base [⟨4, 0, tx.data.toList, []⟩] cs) := by
  obtain ⟨tl, HTL⟩ : ∃ n, Hid (tx.data.toList.length = n) := ⟨_, hid rfl⟩
  go_enter Tryz.func25, Tryz.ntmps25
  go_wp2_with (
    go_at_call 41
    ((with_reducible refine (qmade_text base tl tx _ HTL.out hs (by simp; omega)).mono ?_); rintro e u1 ⟨tA1, tc1, rfl, HB1', HT1⟩)
    have HB1 : Hid (Below w.heap.size w u1) := hid ((bel1 w _).trans (HB1'.out.mono (by simp))))
  go_ret
  have hl := lit_lies u1 #[.int .i64 4, .int .u32 0, .slice tA1 tl tc1, .slice none 0 0] 74 (0, 0) u1.heap.size rfl
  exact ⟨HB1.out.trans ((bel1 u1 _).mono HB1.out.size), _, rfl, _, hl.more (by simp), ⟨tA1, tc1, _, by rw [HTL.out]; rfl, rfl, qm_tk_alloc HT1.out _, rfl⟩⟩
set_option maxHeartbeats 2000000 in
set_option maxRecDepth 100000 in
theorem qfields_xon_true (base co ro wi he cd n c : Nat) (tx va la : ByteArray) (A : Option Addr) (w : World) (_hb : base ≤ w.heap.size) (_hs : tx.size ≤ maxLen) :
    Calls Tryz.prog 25 #[.agg #[.int .i64 7, .string tx, .string va, .string la, .int .u32 co, .int .u32 ro, .int .u32 wi, .int .u32 he, .slice A n c, .bool true, .int .u32 cd]] w fun e w' => Hid (Below w.heap.size w w') ∧ ∃ A', e = .returned (.slice A' 1 1) ∧ Hid (∃ cs, Lies w' w'.heap.size A' cs ∧ FlatK w' base [⟨2, 1, [], []⟩] cs) := by
  go_enter Tryz.func25, Tryz.ntmps25
  go_wp2_with (
    go_at_call 43
    ((with_reducible refine (qmade_flag true 1 rfl _).mono ?_); rintro e u1 ⟨rfl, HB1'⟩)
    have HB1 : Hid (Below w.heap.size w u1) := hid ((bel1 w _).trans (HB1'.out.mono (by simp))))
  go_ret
  have hl := lit_lies u1 #[.int .i64 2, .int .u32 1, .slice none 0 0, .slice none 0 0] 74 (0, 0) u1.heap.size rfl
  exact ⟨HB1.out.trans ((bel1 u1 _).mono HB1.out.size), _, rfl, _, hl.more (by simp), ⟨none, 0, _, rfl, rfl, TK.nil_ _ _, rfl⟩⟩
set_option maxHeartbeats 2000000 in
set_option maxRecDepth 100000 in
theorem qfields_xon_false (base co ro wi he cd n c : Nat) (tx va la : ByteArray) (A : Option Addr) (w : World) (_hb : base ≤ w.heap.size) (_hs : tx.size ≤ maxLen) :
    Calls Tryz.prog 25 #[.agg #[.int .i64 7, .string tx, .string va, .string la, .int .u32 co, .int .u32 ro, .int .u32 wi, .int .u32 he, .slice A n c, .bool false, .int .u32 cd]] w fun e w' => Hid (Below w.heap.size w w') ∧ ∃ A', e = .returned (.slice A' 1 1) ∧ Hid (∃ cs, Lies w' w'.heap.size A' cs ∧ FlatK w' base [⟨2, 0, [], []⟩] cs) := by
  go_enter Tryz.func25, Tryz.ntmps25
  go_wp2_with (
    go_at_call 43
    ((with_reducible refine (qmade_flag false 0 rfl _).mono ?_); rintro e u1 ⟨rfl, HB1'⟩)
    have HB1 : Hid (Below w.heap.size w u1) := hid ((bel1 w _).trans (HB1'.out.mono (by simp))))
  go_ret
  have hl := lit_lies u1 #[.int .i64 2, .int .u32 0, .slice none 0 0, .slice none 0 0] 74 (0, 0) u1.heap.size rfl
  exact ⟨HB1.out.trans ((bel1 u1 _).mono HB1.out.size), _, rfl, _, hl.more (by simp), ⟨none, 0, _, rfl, rfl, TK.nil_ _ _, rfl⟩⟩
set_option maxHeartbeats 2000000 in
set_option maxRecDepth 100000 in
theorem qfields_status (base co ro wi he cd n c : Nat) (tx va la : ByteArray) (on : Bool) (A : Option Addr) (w : World) (_hb : base ≤ w.heap.size) (_hs : tx.size ≤ maxLen) :
    Calls Tryz.prog 25 #[.agg #[.int .i64 9, .string tx, .string va, .string la, .int .u32 co, .int .u32 ro, .int .u32 wi, .int .u32 he, .slice A n c, .bool on, .int .u32 cd]] w fun e w' => Hid (Below w.heap.size w w') ∧ ∃ A', e = .returned (.slice A' 1 1) ∧ Hid (∃ cs, Lies w' w'.heap.size A' cs ∧ FlatK w' base [⟨3, cd, [], []⟩] cs) := by
  go_enter Tryz.func25, Tryz.ntmps25
  go_wp2_with (
    go_at_call 44
    ((with_reducible refine (qmade_num cd _).mono ?_); rintro e u1 ⟨rfl, HB1'⟩)
    have HB1 : Hid (Below w.heap.size w u1) := hid ((bel1 w _).trans (HB1'.out.mono (by simp))))
  go_ret
  have hl := lit_lies u1 #[.int .i64 3, .int .u32 cd, .slice none 0 0, .slice none 0 0] 74 (0, 0) u1.heap.size rfl
  exact ⟨HB1.out.trans ((bel1 u1 _).mono HB1.out.size), _, rfl, _, hl.more (by simp), ⟨none, 0, _, rfl, rfl, TK.nil_ _ _, rfl⟩⟩
set_option maxHeartbeats 2000000 in
set_option maxRecDepth 100000 in
theorem qfields_change (base co ro wi he cd n c : Nat) (tx va la : ByteArray) (on : Bool) (A : Option Addr) (w : World) (hb : base ≤ w.heap.size) (_hs : tx.size ≤ maxLen) :
    Calls Tryz.prog 25 #[.agg #[.int .i64 6, .string tx, .string va, .string la, .int .u32 co, .int .u32 ro, .int .u32 wi, .int .u32 he, .slice A n c, .bool on, .int .u32 cd]] w fun e w' => Hid (Below w.heap.size w w') ∧ ∃ A', e = .returned (.slice A' 4 4) ∧ Hid (∃ cs, Lies w' w'.heap.size A' cs ∧ FlatK w' base [⟨3, co, [], []⟩, ⟨3, ro, [], []⟩, ⟨3, wi, [], []⟩, ⟨3, he, [], []⟩] cs) := by
  go_enter Tryz.func25, Tryz.ntmps25
  go_wp2_with (
    go_at_call 42
    ((with_reducible refine (qsize_any base co ro wi he _ (by simp; omega)).mono ?_); rintro e u1 ⟨HB1', A1, rfl, HC1⟩)
    have HB1 : Hid (Below w.heap.size w u1) := hid ((bel1 w _).trans (HB1'.out.mono (by simp))))
  go_ret
  exact ⟨HB1.out, _, rfl, HC1.out⟩
set_option maxHeartbeats 2000000 in
set_option maxRecDepth 100000 in
theorem qfields_shell (base co ro wi he cd n c : Nat) (tx va la : ByteArray) (on : Bool) (A : Option Addr) (w : World) (_hb : base ≤ w.heap.size) (_hs : tx.size ≤ maxLen) :
    Calls Tryz.prog 25 #[.agg #[.int .i64 3, .string tx, .string va, .string la, .int .u32 co, .int .u32 ro, .int .u32 wi, .int .u32 he, .slice A n c, .bool on, .int .u32 cd]] w fun e w' => Hid (Below w.heap.size w w') ∧ e = .returned (.slice none 0 0) := by
  go_enter Tryz.func25, Tryz.ntmps25
  go_wp2
  go_ret
  exact ⟨bel1 w _, rfl⟩

end Go.Proofs.YtfpkjocoifoigaaGreatDoor
