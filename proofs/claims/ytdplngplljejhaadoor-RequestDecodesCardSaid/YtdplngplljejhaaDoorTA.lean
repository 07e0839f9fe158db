import Derived.Test.YtdplngplljejhaaDoorQP
namespace Go.Proofs.YtdplngplljejhaaDoor
open Go.RowKit

/-- The document's word. -/
def rwb (but : Nat) (c : UInt8) : Bool := wordByte c && !decide (c.toNat = but)
def rwordB (l but : Nat) (s : ByteArray) : Bool := decide (l ≤ s.size) && decide (s.size ≤ 64) && s.data.toList.all (rwb but)
theorem rwb_iff (but : Nat) (c : UInt8) : rwb but c = true ↔ 33 ≤ c.toNat ∧ c.toNat ≤ 126 ∧ c.toNat ≠ but := by simp [rwb, wordByte]; omega
theorem rwordB_bad (l but : Nat) (s : ByteArray) (k : Nat) (h : k < s.size) (hb : rwb but s[k] = false) : rwordB l but s = false := by
  have : s.data.toList.all (rwb but) = false := by
    rw [List.all_eq_false]
    exact ⟨s[k], by simp [ByteArray.getElem_eq_getElem_data], by simp [hb]⟩
  simp only [rwordB, this, Bool.and_false]
theorem rwordB_len (l but : Nat) (s : ByteArray) (h : ¬(l ≤ s.size ∧ s.size ≤ 64)) : rwordB l but s = false := by
  have : (decide (l ≤ s.size) && decide (s.size ≤ 64)) = false := by
    simp only [Bool.and_eq_false_iff, decide_eq_false_iff_not]
    omega
  simp only [rwordB, this, Bool.false_and]
theorem rwordB_all (l but : Nat) (s : ByteArray) (h1 : l ≤ s.size) (h2 : s.size ≤ 64) (h : s.data.toList.all (rwb but) = true) : rwordB l but s = true := by
  simp only [rwordB, h1, h2, h, decide_true, Bool.and_self]
theorem rwordB_0 (l : Nat) (s : ByteArray) : rwordB l 0 s = wordOk l s := by
  have : (rwb 0) = wordByte := by
    funext c
    simp only [rwb, wordByte]
    by_cases h : c.toNat = 0
    · simp [h]
    · simp [h]
  rw [rwordB, wordOk, this]
theorem rwordB_61 (l : Nat) (s : ByteArray) : rwordB l 61 s = (wordOk l s && !s.data.toList.contains 61) := by
  have h : s.data.toList.all (rwb 61) = (s.data.toList.all wordByte && !s.data.toList.contains 61) := by
    induction s.data.toList with
    | nil => rfl
    | cons a r ih =>
      rw [List.all_cons, List.all_cons, ih, List.contains_cons]
      have e : ((61 : UInt8) == a) = decide (a.toNat = 61) := by
        rw [Bool.eq_iff_iff, beq_iff_eq, decide_eq_true_eq]
        constructor
        · intro h; rw [← h]; rfl
        · intro h; exact (UInt8.toNat_inj.1 (by rw [h]; rfl)).symm
      rw [e]
      cases hw : wordByte a <;> cases hd : decide (a.toNat = 61) <;> simp [rwb, hw, hd]
  rw [rwordB, wordOk, h]
  cases decide (l ≤ s.size) <;> cases decide (s.size ≤ 64) <;> simp
def RwAll (but : Nat) (s : ByteArray) (k : Nat) : Prop := (s.data.toList.take k).all (rwb but) = true
set_option maxHeartbeats 1000000 in
set_option maxRecDepth 100000 in
theorem qword_any (s : ByteArray) (l but : Nat) (w : World) (hs : s.size ≤ maxLen) (_hl : l ≤ 1) (_hbut : but ≤ 255) :
    Calls Tryd.prog 43 #[.string s, .int .i64 l, .int .u8 but] w fun e w' => e = .returned (.bool (rwordB l but s)) ∧ w = w' := by
  unfold maxLen at hs
  by_cases h0 : l ≤ s.size ∧ s.size ≤ 64
  · obtain ⟨h1, h2⟩ := h0
    have hd1 : decide ((s.size : Int) < l) = false := by simp; omega
    have hd2 : decide (64 < (s.size : Int)) = false := by simp; omega
    go_enter Tryd.func43, Tryd.ntmps43
    go_wp2
    go_loop [7] (fun i => ∃ k : Nat, k ≤ s.size ∧ i = .int .i64 k ∧ Hid (RwAll but s k)) (fun i => s.size - (intOf i).toNat)
    case atStart => exact ⟨0, Nat.zero_le _, rfl, hid (by simp [RwAll])⟩
    case round =>
      obtain ⟨k, hk, rfl, HA⟩ := hrel
      by_cases hlt : k < s.size
      · by_cases hb : rwb but s[k] = true
        · have hbi := (rwb_iff _ _).1 hb
          have hts := take_snoc s.data.toList k (by simpa using hlt)
          have hS : RwAll but s (k + 1) := by
            have h0 : (s.data.toList.take k).all (rwb but) = true := HA.out
            rw [RwAll, hts, List.all_append, h0]
            simp [← ByteArray.getElem_eq_getElem_data, hb]
          have HS := hid hS
          clear hts hb hS
          have ha : (33 : Int) ≤ s[k].toNat := by omega
          have hb : (s[k].toNat : Int) ≤ 126 := by omega
          have hc : ((s[k].toNat : Int) == (but : Int)) = false := by simp; omega
          clear hbi
          go_wp2
          go_round
          case rel => first | exact ⟨k + 1, by omega, by go_num, HS⟩ | exact ⟨_, _, _, ⟨k + 1, by omega, by go_num, HS⟩, rfl, rfl, rfl⟩ | exact ⟨_, _, ⟨k + 1, by omega, by go_num, HS⟩, rfl, rfl⟩ | exact ⟨_, _, _, _, ⟨k + 1, by omega, by go_num, HS⟩, rfl, rfl, rfl, rfl⟩
          case measure => simp [intOf]; omega
        · have HF := hid (rwordB_bad l but s k hlt (by simpa using hb))
          have HB : Hid (¬ (33 ≤ s[k].toNat ∧ s[k].toNat ≤ 126 ∧ s[k].toNat ≠ but)) := fun h => hb ((rwb_iff _ _).2 h)
          clear hb
          go_wp2
          all_goals first
            | (go_ret; exact ⟨ret_bool HF.out.symm, rfl⟩)
            | (exfalso; have h1 := HB.out; simp at *; omega)
      · have hks : k = s.size := by omega
        have HK := hid hks
        clear hks
        go_wp2
        go_ret
        exact ⟨ret_bool (rwordB_all l but s h1 h2 (by have h : (s.data.toList.take k).all (rwb but) = true := HA.out; rw [HK.out, List.take_of_length_le (by simp)] at h; exact h)).symm, rfl⟩
  · have HF := hid (rwordB_len l but s h0)
    rcases Nat.lt_or_ge s.size l with h1 | h1
    · have hd1 : (s.size : Int) < l := by omega
      clear h0 h1
      go_enter Tryd.func43, Tryd.ntmps43
      go_wp2
      go_ret
      exact ⟨ret_bool HF.out.symm, rfl⟩
    · have hd1 : decide ((s.size : Int) < l) = false := by simp; omega
      have hd2 : (64 : Int) < s.size := by omega
      clear h0 h1
      go_enter Tryd.func43, Tryd.ntmps43
      go_wp2
      go_ret
      exact ⟨ret_bool HF.out.symm, rfl⟩
theorem qword_x (s : ByteArray) (l but : Nat) (lv bv : Int) (b : Bool) (w : World) (h1 : (l : Int) = lv) (h2 : (but : Int) = bv) (hX : Hid (rwordB l but s = b)) (hs : s.size ≤ maxLen) (_hl : l ≤ 1) (_hbut : but ≤ 255) :
    Calls Tryd.prog 43 #[.string s, .int .i64 lv, .int .u8 bv] w fun e w' => e = .returned (.bool b) ∧ w = w' := by
  subst h1; subst h2
  have h := qword_any s l but w hs _hl _hbut
  rw [hX.out] at h
  exact h

set_option maxHeartbeats 1000000 in
set_option maxRecDepth 100000 in
theorem rfq_pty_w0 (co ro wi he cd n c : Nat) (tx va la : ByteArray) (on : Bool) (A : Option Addr) (w : World) (_s1 : tx.size ≤ maxLen) (_s2 : va.size ≤ maxLen) (_s3 : la.size ≤ maxLen) (_s4 : n ≤ maxLen) (hw0 : rwordB 0 0 tx = false) :
    Calls Tryd.prog 26 #[.agg #[.int .i64 1, .string tx, .string va, .string la, .int .u32 co, .int .u32 ro, .int .u32 wi, .int .u32 he, .slice A n c, .bool on, .int .u32 cd]] w fun e w' => e = .returned (.int .i64 4) ∧ Below w.heap.size w w' := by
  have W0 := hid hw0
  clear hw0
  go_enter Tryd.func26, Tryd.ntmps26
  go_wp2_with (first
    | (go_at_call 43
       ((with_reducible refine (qword_x tx 0 0 0 0 false _ rfl rfl W0 (by first | assumption | (unfold maxLen; omega)) (by omega) (by omega)).mono ?_); rintro e w1 ⟨rfl, rfl⟩)))
  go_ret
  exact ⟨rfl, bel1 w _⟩
set_option maxHeartbeats 1000000 in
set_option maxRecDepth 100000 in
theorem rfq_pty_l (co ro wi he cd n c : Nat) (tx va la : ByteArray) (on : Bool) (A : Option Addr) (w : World) (_s1 : tx.size ≤ maxLen) (_s2 : va.size ≤ maxLen) (_s3 : la.size ≤ maxLen) (_s4 : n ≤ maxLen) (hw0 : rwordB 0 0 tx = true) (hn : 1024 < n) :
    Calls Tryd.prog 26 #[.agg #[.int .i64 1, .string tx, .string va, .string la, .int .u32 co, .int .u32 ro, .int .u32 wi, .int .u32 he, .slice A n c, .bool on, .int .u32 cd]] w fun e w' => e = .returned (.int .i64 6) ∧ Below w.heap.size w w' := by
  have W0 := hid hw0
  clear hw0
  unfold maxLen at _s1 _s2 _s4
  have d1 : (1024 : Int) < (n : Int) := by omega
  clear hn
  go_enter Tryd.func26, Tryd.ntmps26
  go_wp2_with (first
    | (go_at_call 43
       ((with_reducible refine (qword_x tx 0 0 0 0 true _ rfl rfl W0 (by first | assumption | (unfold maxLen; omega)) (by omega) (by omega)).mono ?_); rintro e w1 ⟨rfl, rfl⟩)))
  go_ret
  exact ⟨rfl, bel1 w _⟩
set_option maxHeartbeats 1000000 in
set_option maxRecDepth 100000 in
theorem rfq_pty_o (co ro wi he cd n c : Nat) (tx va la : ByteArray) (on : Bool) (A : Option Addr) (w : World) (_s1 : tx.size ≤ maxLen) (_s2 : va.size ≤ maxLen) (_s3 : la.size ≤ maxLen) (_s4 : n ≤ maxLen) (hw0 : rwordB 0 0 tx = true) (hn : n ≤ 1024) :
    Calls Tryd.prog 26 #[.agg #[.int .i64 1, .string tx, .string va, .string la, .int .u32 co, .int .u32 ro, .int .u32 wi, .int .u32 he, .slice A n c, .bool on, .int .u32 cd]] w fun e w' => e = .returned (.int .i64 0) ∧ Below w.heap.size w w' := by
  have W0 := hid hw0
  clear hw0
  unfold maxLen at _s1 _s2 _s4
  have d1 : decide ((1024 : Int) < (n : Int)) = false := by simp; omega
  clear hn
  go_enter Tryd.func26, Tryd.ntmps26
  go_wp2_with (first
    | (go_at_call 43
       ((with_reducible refine (qword_x tx 0 0 0 0 true _ rfl rfl W0 (by first | assumption | (unfold maxLen; omega)) (by omega) (by omega)).mono ?_); rintro e w1 ⟨rfl, rfl⟩)))
  go_ret
  exact ⟨rfl, bel1 w _⟩
set_option maxHeartbeats 1000000 in
set_option maxRecDepth 100000 in
theorem rfq_env_w0 (co ro wi he cd n c : Nat) (tx va la : ByteArray) (on : Bool) (A : Option Addr) (w : World) (_s1 : tx.size ≤ maxLen) (_s2 : va.size ≤ maxLen) (_s3 : la.size ≤ maxLen) (_s4 : n ≤ maxLen) (hw0 : rwordB 1 61 tx = false) :
    Calls Tryd.prog 26 #[.agg #[.int .i64 2, .string tx, .string va, .string la, .int .u32 co, .int .u32 ro, .int .u32 wi, .int .u32 he, .slice A n c, .bool on, .int .u32 cd]] w fun e w' => e = .returned (.int .i64 4) ∧ Below w.heap.size w w' := by
  have W0 := hid hw0
  clear hw0
  go_enter Tryd.func26, Tryd.ntmps26
  go_wp2_with (first
    | (go_at_call 43
       ((with_reducible refine (qword_x tx 1 61 1 61 false _ rfl rfl W0 (by first | assumption | (unfold maxLen; omega)) (by omega) (by omega)).mono ?_); rintro e w1 ⟨rfl, rfl⟩)))
  go_ret
  exact ⟨rfl, bel1 w _⟩
set_option maxHeartbeats 1000000 in
set_option maxRecDepth 100000 in
theorem rfq_env_l (co ro wi he cd n c : Nat) (tx va la : ByteArray) (on : Bool) (A : Option Addr) (w : World) (_s1 : tx.size ≤ maxLen) (_s2 : va.size ≤ maxLen) (_s3 : la.size ≤ maxLen) (_s4 : n ≤ maxLen) (hw0 : rwordB 1 61 tx = true) (hn : 1024 < va.size) :
    Calls Tryd.prog 26 #[.agg #[.int .i64 2, .string tx, .string va, .string la, .int .u32 co, .int .u32 ro, .int .u32 wi, .int .u32 he, .slice A n c, .bool on, .int .u32 cd]] w fun e w' => e = .returned (.int .i64 6) ∧ Below w.heap.size w w' := by
  have W0 := hid hw0
  clear hw0
  unfold maxLen at _s1 _s2 _s4
  have d1 : (1024 : Int) < (va.size : Int) := by omega
  clear hn
  go_enter Tryd.func26, Tryd.ntmps26
  go_wp2_with (first
    | (go_at_call 43
       ((with_reducible refine (qword_x tx 1 61 1 61 true _ rfl rfl W0 (by first | assumption | (unfold maxLen; omega)) (by omega) (by omega)).mono ?_); rintro e w1 ⟨rfl, rfl⟩)))
  go_ret
  exact ⟨rfl, bel1 w _⟩
set_option maxHeartbeats 1000000 in
set_option maxRecDepth 100000 in
theorem rfq_env_o (co ro wi he cd n c : Nat) (tx va la : ByteArray) (on : Bool) (A : Option Addr) (w : World) (_s1 : tx.size ≤ maxLen) (_s2 : va.size ≤ maxLen) (_s3 : la.size ≤ maxLen) (_s4 : n ≤ maxLen) (hw0 : rwordB 1 61 tx = true) (hn : va.size ≤ 1024) :
    Calls Tryd.prog 26 #[.agg #[.int .i64 2, .string tx, .string va, .string la, .int .u32 co, .int .u32 ro, .int .u32 wi, .int .u32 he, .slice A n c, .bool on, .int .u32 cd]] w fun e w' => e = .returned (.int .i64 0) ∧ Below w.heap.size w w' := by
  have W0 := hid hw0
  clear hw0
  unfold maxLen at _s1 _s2 _s4
  have d1 : decide ((1024 : Int) < (va.size : Int)) = false := by simp; omega
  clear hn
  go_enter Tryd.func26, Tryd.ntmps26
  go_wp2_with (first
    | (go_at_call 43
       ((with_reducible refine (qword_x tx 1 61 1 61 true _ rfl rfl W0 (by first | assumption | (unfold maxLen; omega)) (by omega) (by omega)).mono ?_); rintro e w1 ⟨rfl, rfl⟩)))
  go_ret
  exact ⟨rfl, bel1 w _⟩
set_option maxHeartbeats 1000000 in
set_option maxRecDepth 100000 in
theorem rfq_shell_o (co ro wi he cd n c : Nat) (tx va la : ByteArray) (on : Bool) (A : Option Addr) (w : World) (_s1 : tx.size ≤ maxLen) (_s2 : va.size ≤ maxLen) (_s3 : la.size ≤ maxLen) (_s4 : n ≤ maxLen) :
    Calls Tryd.prog 26 #[.agg #[.int .i64 3, .string tx, .string va, .string la, .int .u32 co, .int .u32 ro, .int .u32 wi, .int .u32 he, .slice A n c, .bool on, .int .u32 cd]] w fun e w' => e = .returned (.int .i64 0) ∧ Below w.heap.size w w' := by
  go_enter Tryd.func26, Tryd.ntmps26
  go_wp2
  go_ret
  exact ⟨rfl, bel1 w _⟩
set_option maxHeartbeats 1000000 in
set_option maxRecDepth 100000 in
theorem rfq_exec_l (co ro wi he cd n c : Nat) (tx va la : ByteArray) (on : Bool) (A : Option Addr) (w : World) (_s1 : tx.size ≤ maxLen) (_s2 : va.size ≤ maxLen) (_s3 : la.size ≤ maxLen) (_s4 : n ≤ maxLen) (hn : 1024 < tx.size) :
    Calls Tryd.prog 26 #[.agg #[.int .i64 4, .string tx, .string va, .string la, .int .u32 co, .int .u32 ro, .int .u32 wi, .int .u32 he, .slice A n c, .bool on, .int .u32 cd]] w fun e w' => e = .returned (.int .i64 6) ∧ Below w.heap.size w w' := by
  unfold maxLen at _s1 _s2 _s4
  have d1 : (1024 : Int) < (tx.size : Int) := by omega
  clear hn
  go_enter Tryd.func26, Tryd.ntmps26
  go_wp2
  go_ret
  exact ⟨rfl, bel1 w _⟩
set_option maxHeartbeats 1000000 in
set_option maxRecDepth 100000 in
theorem rfq_exec_o (co ro wi he cd n c : Nat) (tx va la : ByteArray) (on : Bool) (A : Option Addr) (w : World) (_s1 : tx.size ≤ maxLen) (_s2 : va.size ≤ maxLen) (_s3 : la.size ≤ maxLen) (_s4 : n ≤ maxLen) (hn : tx.size ≤ 1024) :
    Calls Tryd.prog 26 #[.agg #[.int .i64 4, .string tx, .string va, .string la, .int .u32 co, .int .u32 ro, .int .u32 wi, .int .u32 he, .slice A n c, .bool on, .int .u32 cd]] w fun e w' => e = .returned (.int .i64 0) ∧ Below w.heap.size w w' := by
  unfold maxLen at _s1 _s2 _s4
  have d1 : decide ((1024 : Int) < (tx.size : Int)) = false := by simp; omega
  clear hn
  go_enter Tryd.func26, Tryd.ntmps26
  go_wp2
  go_ret
  exact ⟨rfl, bel1 w _⟩
set_option maxHeartbeats 1000000 in
set_option maxRecDepth 100000 in
theorem rfq_subsystem_w0 (co ro wi he cd n c : Nat) (tx va la : ByteArray) (on : Bool) (A : Option Addr) (w : World) (_s1 : tx.size ≤ maxLen) (_s2 : va.size ≤ maxLen) (_s3 : la.size ≤ maxLen) (_s4 : n ≤ maxLen) (hw0 : rwordB 1 0 tx = false) :
    Calls Tryd.prog 26 #[.agg #[.int .i64 5, .string tx, .string va, .string la, .int .u32 co, .int .u32 ro, .int .u32 wi, .int .u32 he, .slice A n c, .bool on, .int .u32 cd]] w fun e w' => e = .returned (.int .i64 4) ∧ Below w.heap.size w w' := by
  have W0 := hid hw0
  clear hw0
  go_enter Tryd.func26, Tryd.ntmps26
  go_wp2_with (first
    | (go_at_call 43
       ((with_reducible refine (qword_x tx 1 0 1 0 false _ rfl rfl W0 (by first | assumption | (unfold maxLen; omega)) (by omega) (by omega)).mono ?_); rintro e w1 ⟨rfl, rfl⟩)))
  go_ret
  exact ⟨rfl, bel1 w _⟩
set_option maxHeartbeats 1000000 in
set_option maxRecDepth 100000 in
theorem rfq_subsystem_o (co ro wi he cd n c : Nat) (tx va la : ByteArray) (on : Bool) (A : Option Addr) (w : World) (_s1 : tx.size ≤ maxLen) (_s2 : va.size ≤ maxLen) (_s3 : la.size ≤ maxLen) (_s4 : n ≤ maxLen) (hw0 : rwordB 1 0 tx = true) :
    Calls Tryd.prog 26 #[.agg #[.int .i64 5, .string tx, .string va, .string la, .int .u32 co, .int .u32 ro, .int .u32 wi, .int .u32 he, .slice A n c, .bool on, .int .u32 cd]] w fun e w' => e = .returned (.int .i64 0) ∧ Below w.heap.size w w' := by
  have W0 := hid hw0
  clear hw0
  go_enter Tryd.func26, Tryd.ntmps26
  go_wp2_with (first
    | (go_at_call 43
       ((with_reducible refine (qword_x tx 1 0 1 0 true _ rfl rfl W0 (by first | assumption | (unfold maxLen; omega)) (by omega) (by omega)).mono ?_); rintro e w1 ⟨rfl, rfl⟩)))
  go_ret
  exact ⟨rfl, bel1 w _⟩
set_option maxHeartbeats 1000000 in
set_option maxRecDepth 100000 in
theorem rfq_change_o (co ro wi he cd n c : Nat) (tx va la : ByteArray) (on : Bool) (A : Option Addr) (w : World) (_s1 : tx.size ≤ maxLen) (_s2 : va.size ≤ maxLen) (_s3 : la.size ≤ maxLen) (_s4 : n ≤ maxLen) :
    Calls Tryd.prog 26 #[.agg #[.int .i64 6, .string tx, .string va, .string la, .int .u32 co, .int .u32 ro, .int .u32 wi, .int .u32 he, .slice A n c, .bool on, .int .u32 cd]] w fun e w' => e = .returned (.int .i64 0) ∧ Below w.heap.size w w' := by
  go_enter Tryd.func26, Tryd.ntmps26
  go_wp2
  go_ret
  exact ⟨rfl, bel1 w _⟩
set_option maxHeartbeats 1000000 in
set_option maxRecDepth 100000 in
theorem rfq_xon_o (co ro wi he cd n c : Nat) (tx va la : ByteArray) (on : Bool) (A : Option Addr) (w : World) (_s1 : tx.size ≤ maxLen) (_s2 : va.size ≤ maxLen) (_s3 : la.size ≤ maxLen) (_s4 : n ≤ maxLen) :
    Calls Tryd.prog 26 #[.agg #[.int .i64 7, .string tx, .string va, .string la, .int .u32 co, .int .u32 ro, .int .u32 wi, .int .u32 he, .slice A n c, .bool on, .int .u32 cd]] w fun e w' => e = .returned (.int .i64 0) ∧ Below w.heap.size w w' := by
  go_enter Tryd.func26, Tryd.ntmps26
  go_wp2
  go_ret
  exact ⟨rfl, bel1 w _⟩
set_option maxHeartbeats 1000000 in
set_option maxRecDepth 100000 in
theorem rfq_signal_w0 (co ro wi he cd n c : Nat) (tx va la : ByteArray) (on : Bool) (A : Option Addr) (w : World) (_s1 : tx.size ≤ maxLen) (_s2 : va.size ≤ maxLen) (_s3 : la.size ≤ maxLen) (_s4 : n ≤ maxLen) (hw0 : rwordB 1 0 tx = false) :
    Calls Tryd.prog 26 #[.agg #[.int .i64 8, .string tx, .string va, .string la, .int .u32 co, .int .u32 ro, .int .u32 wi, .int .u32 he, .slice A n c, .bool on, .int .u32 cd]] w fun e w' => e = .returned (.int .i64 4) ∧ Below w.heap.size w w' := by
  have W0 := hid hw0
  clear hw0
  go_enter Tryd.func26, Tryd.ntmps26
  go_wp2_with (first
    | (go_at_call 43
       ((with_reducible refine (qword_x tx 1 0 1 0 false _ rfl rfl W0 (by first | assumption | (unfold maxLen; omega)) (by omega) (by omega)).mono ?_); rintro e w1 ⟨rfl, rfl⟩)))
  go_ret
  exact ⟨rfl, bel1 w _⟩
set_option maxHeartbeats 1000000 in
set_option maxRecDepth 100000 in
theorem rfq_signal_o (co ro wi he cd n c : Nat) (tx va la : ByteArray) (on : Bool) (A : Option Addr) (w : World) (_s1 : tx.size ≤ maxLen) (_s2 : va.size ≤ maxLen) (_s3 : la.size ≤ maxLen) (_s4 : n ≤ maxLen) (hw0 : rwordB 1 0 tx = true) :
    Calls Tryd.prog 26 #[.agg #[.int .i64 8, .string tx, .string va, .string la, .int .u32 co, .int .u32 ro, .int .u32 wi, .int .u32 he, .slice A n c, .bool on, .int .u32 cd]] w fun e w' => e = .returned (.int .i64 0) ∧ Below w.heap.size w w' := by
  have W0 := hid hw0
  clear hw0
  go_enter Tryd.func26, Tryd.ntmps26
  go_wp2_with (first
    | (go_at_call 43
       ((with_reducible refine (qword_x tx 1 0 1 0 true _ rfl rfl W0 (by first | assumption | (unfold maxLen; omega)) (by omega) (by omega)).mono ?_); rintro e w1 ⟨rfl, rfl⟩)))
  go_ret
  exact ⟨rfl, bel1 w _⟩
set_option maxHeartbeats 1000000 in
set_option maxRecDepth 100000 in
theorem rfq_status_o (co ro wi he cd n c : Nat) (tx va la : ByteArray) (on : Bool) (A : Option Addr) (w : World) (_s1 : tx.size ≤ maxLen) (_s2 : va.size ≤ maxLen) (_s3 : la.size ≤ maxLen) (_s4 : n ≤ maxLen) :
    Calls Tryd.prog 26 #[.agg #[.int .i64 9, .string tx, .string va, .string la, .int .u32 co, .int .u32 ro, .int .u32 wi, .int .u32 he, .slice A n c, .bool on, .int .u32 cd]] w fun e w' => e = .returned (.int .i64 0) ∧ Below w.heap.size w w' := by
  go_enter Tryd.func26, Tryd.ntmps26
  go_wp2
  go_ret
  exact ⟨rfl, bel1 w _⟩
set_option maxHeartbeats 1000000 in
set_option maxRecDepth 100000 in
theorem rfq_ends_w0 (co ro wi he cd n c : Nat) (tx va la : ByteArray) (on : Bool) (A : Option Addr) (w : World) (_s1 : tx.size ≤ maxLen) (_s2 : va.size ≤ maxLen) (_s3 : la.size ≤ maxLen) (_s4 : n ≤ maxLen) (hw0 : rwordB 1 0 tx = false) :
    Calls Tryd.prog 26 #[.agg #[.int .i64 10, .string tx, .string va, .string la, .int .u32 co, .int .u32 ro, .int .u32 wi, .int .u32 he, .slice A n c, .bool on, .int .u32 cd]] w fun e w' => e = .returned (.int .i64 4) ∧ Below w.heap.size w w' := by
  have W0 := hid hw0
  clear hw0
  go_enter Tryd.func26, Tryd.ntmps26
  go_wp2_with (first
    | (go_at_call 43
       ((with_reducible refine (qword_x tx 1 0 1 0 false _ rfl rfl W0 (by first | assumption | (unfold maxLen; omega)) (by omega) (by omega)).mono ?_); rintro e w1 ⟨rfl, rfl⟩)))
  go_ret
  exact ⟨rfl, bel1 w _⟩
set_option maxHeartbeats 1000000 in
set_option maxRecDepth 100000 in
theorem rfq_ends_w1 (co ro wi he cd n c : Nat) (tx va la : ByteArray) (on : Bool) (A : Option Addr) (w : World) (_s1 : tx.size ≤ maxLen) (_s2 : va.size ≤ maxLen) (_s3 : la.size ≤ maxLen) (_s4 : n ≤ maxLen) (hw0 : rwordB 1 0 tx = true) (hw1 : rwordB 0 0 la = false) :
    Calls Tryd.prog 26 #[.agg #[.int .i64 10, .string tx, .string va, .string la, .int .u32 co, .int .u32 ro, .int .u32 wi, .int .u32 he, .slice A n c, .bool on, .int .u32 cd]] w fun e w' => e = .returned (.int .i64 4) ∧ Below w.heap.size w w' := by
  have W0 := hid hw0
  clear hw0
  have W1 := hid hw1
  clear hw1
  go_enter Tryd.func26, Tryd.ntmps26
  go_wp2_with (first
    | (go_at_call 43
       ((with_reducible refine (qword_x tx 1 0 1 0 true _ rfl rfl W0 (by first | assumption | (unfold maxLen; omega)) (by omega) (by omega)).mono ?_); rintro e w1 ⟨rfl, rfl⟩))
    | (go_at_call 43
       ((with_reducible refine (qword_x la 0 0 0 0 false _ rfl rfl W1 (by first | assumption | (unfold maxLen; omega)) (by omega) (by omega)).mono ?_); rintro e w1 ⟨rfl, rfl⟩)))
  go_ret
  exact ⟨rfl, bel1 w _⟩
set_option maxHeartbeats 1000000 in
set_option maxRecDepth 100000 in
theorem rfq_ends_l (co ro wi he cd n c : Nat) (tx va la : ByteArray) (on : Bool) (A : Option Addr) (w : World) (_s1 : tx.size ≤ maxLen) (_s2 : va.size ≤ maxLen) (_s3 : la.size ≤ maxLen) (_s4 : n ≤ maxLen) (hw0 : rwordB 1 0 tx = true) (hw1 : rwordB 0 0 la = true) (hn : 1024 < va.size) :
    Calls Tryd.prog 26 #[.agg #[.int .i64 10, .string tx, .string va, .string la, .int .u32 co, .int .u32 ro, .int .u32 wi, .int .u32 he, .slice A n c, .bool on, .int .u32 cd]] w fun e w' => e = .returned (.int .i64 6) ∧ Below w.heap.size w w' := by
  have W0 := hid hw0
  clear hw0
  have W1 := hid hw1
  clear hw1
  unfold maxLen at _s1 _s2 _s4
  have d1 : (1024 : Int) < (va.size : Int) := by omega
  clear hn
  go_enter Tryd.func26, Tryd.ntmps26
  go_wp2_with (first
    | (go_at_call 43
       ((with_reducible refine (qword_x tx 1 0 1 0 true _ rfl rfl W0 (by first | assumption | (unfold maxLen; omega)) (by omega) (by omega)).mono ?_); rintro e w1 ⟨rfl, rfl⟩))
    | (go_at_call 43
       ((with_reducible refine (qword_x la 0 0 0 0 true _ rfl rfl W1 (by first | assumption | (unfold maxLen; omega)) (by omega) (by omega)).mono ?_); rintro e w1 ⟨rfl, rfl⟩)))
  go_ret
  exact ⟨rfl, bel1 w _⟩
set_option maxHeartbeats 1000000 in
set_option maxRecDepth 100000 in
theorem rfq_ends_o (co ro wi he cd n c : Nat) (tx va la : ByteArray) (on : Bool) (A : Option Addr) (w : World) (_s1 : tx.size ≤ maxLen) (_s2 : va.size ≤ maxLen) (_s3 : la.size ≤ maxLen) (_s4 : n ≤ maxLen) (hw0 : rwordB 1 0 tx = true) (hw1 : rwordB 0 0 la = true) (hn : va.size ≤ 1024) :
    Calls Tryd.prog 26 #[.agg #[.int .i64 10, .string tx, .string va, .string la, .int .u32 co, .int .u32 ro, .int .u32 wi, .int .u32 he, .slice A n c, .bool on, .int .u32 cd]] w fun e w' => e = .returned (.int .i64 0) ∧ Below w.heap.size w w' := by
  have W0 := hid hw0
  clear hw0
  have W1 := hid hw1
  clear hw1
  unfold maxLen at _s1 _s2 _s4
  have d1 : decide ((1024 : Int) < (va.size : Int)) = false := by simp; omega
  clear hn
  go_enter Tryd.func26, Tryd.ntmps26
  go_wp2_with (first
    | (go_at_call 43
       ((with_reducible refine (qword_x tx 1 0 1 0 true _ rfl rfl W0 (by first | assumption | (unfold maxLen; omega)) (by omega) (by omega)).mono ?_); rintro e w1 ⟨rfl, rfl⟩))
    | (go_at_call 43
       ((with_reducible refine (qword_x la 0 0 0 0 true _ rfl rfl W1 (by first | assumption | (unfold maxLen; omega)) (by omega) (by omega)).mono ?_); rintro e w1 ⟨rfl, rfl⟩)))
  go_ret
  exact ⟨rfl, bel1 w _⟩
theorem qf_pty (r : Rq) : (Rw.put r .zero .pty).fault = if (!wordOk 0 r.text) = true then 4 else if decide (1024 < r.modes.length) = true then 6 else 0 := rfl
theorem qf_env (r : Rq) : (Rw.put r .zero .env).fault = if (!wordOk 1 r.text || r.text.data.toList.contains 61) = true then 4 else if decide (1024 < r.value.data.toList.length) = true then 6 else 0 := rfl
theorem qf_exec (r : Rq) : (Rw.put r .zero .exec).fault = if decide (1024 < r.text.data.toList.length) = true then 6 else 0 := rfl
theorem qf_subsystem (r : Rq) : (Rw.put r .zero .subsystem).fault = if (!wordOk 1 r.text) = true then 4 else 0 := rfl
theorem qf_signal (r : Rq) : (Rw.put r .zero .signal).fault = if (!wordOk 1 r.text) = true then 4 else 0 := rfl
theorem qf_ends (r : Rq) : (Rw.put r .zero .ends).fault = if (!wordOk 1 r.text || !wordOk 0 r.lang) = true then 4 else if decide (1024 < r.value.data.toList.length) = true then 6 else 0 := rfl
/-- The document's fault of a request of a known kind. -/
theorem qfault_any (k : Rw) (r : Rq) (A : Option Addr) (c n : Nat) (kd : Int) (w : World) (hk : kd = k.kind) (hn : r.modes.length = n) (s1 : r.text.size ≤ maxLen) (s2 : r.value.size ≤ maxLen) (s3 : r.lang.size ≤ maxLen) (s4 : n ≤ maxLen) :
    Calls Tryd.prog 26 #[.agg #[.int .i64 kd, .string r.text, .string r.value, .string r.lang, .int .u32 r.cols, .int .u32 r.rows, .int .u32 r.width, .int .u32 r.height, .slice A n c, .bool r.on, .int .u32 r.code]] w fun e w' => e = .returned (.int .i64 (k.put r .zero).fault) ∧ Below w.heap.size w w' := by
  subst hk
  cases k
  · cases q0 : rwordB 0 0 r.text with
    | false =>
      have p0 := q0
      rw [rwordB_0] at p0
      rw [show (Rw.put r .zero .pty).fault = 4 from by rw [qf_pty, p0]; rfl]
      exact rfq_pty_w0 r.cols r.rows r.width r.height r.code n c r.text r.value r.lang r.on A w s1 s2 s3 s4 q0
    | true =>
      have p0 := q0
      rw [rwordB_0] at p0
      by_cases hl : 1024 < r.modes.length
      · rw [show (Rw.put r .zero .pty).fault = 6 from by rw [qf_pty, p0, decide_eq_true hl]; rfl]
        exact rfq_pty_l r.cols r.rows r.width r.height r.code n c r.text r.value r.lang r.on A w s1 s2 s3 s4 q0 (by rw [← hn]; exact hl)
      · have hl : r.modes.length ≤ 1024 := by omega
        have hl2 : ¬ 1024 < r.modes.length := by omega
        rw [show (Rw.put r .zero .pty).fault = 0 from by rw [qf_pty, p0, decide_eq_false hl2]; rfl]
        exact rfq_pty_o r.cols r.rows r.width r.height r.code n c r.text r.value r.lang r.on A w s1 s2 s3 s4 q0 (by rw [← hn]; exact hl)
  · cases q0 : rwordB 1 61 r.text with
    | false =>
      have p0 := q0
      rw [rwordB_61] at p0
      have hf : (Rw.put r .zero .env).fault = 4 := by
        rw [qf_env]
        rw [Bool.and_eq_false_iff] at p0
        rcases p0 with h | h
        · rw [h]; rfl
        · rw [Bool.not_eq_false'] at h; rw [h, Bool.or_true]; rfl
      rw [hf]
      exact rfq_env_w0 r.cols r.rows r.width r.height r.code n c r.text r.value r.lang r.on A w s1 s2 s3 s4 q0
    | true =>
      have p0 := q0
      rw [rwordB_61] at p0
      rw [Bool.and_eq_true] at p0
      obtain ⟨p0a, p0b⟩ := p0
      rw [Bool.not_eq_true'] at p0b
      by_cases hl : 1024 < r.value.data.toList.length
      · rw [show (Rw.put r .zero .env).fault = 6 from by rw [qf_env, p0a, p0b, decide_eq_true hl]; rfl]
        exact rfq_env_l r.cols r.rows r.width r.height r.code n c r.text r.value r.lang r.on A w s1 s2 s3 s4 q0 (by have h := hl; rw [str_len] at h; exact h)
      · have hl : r.value.data.toList.length ≤ 1024 := by omega
        have hl2 : ¬ 1024 < r.value.data.toList.length := by omega
        rw [show (Rw.put r .zero .env).fault = 0 from by rw [qf_env, p0a, p0b, decide_eq_false hl2]; rfl]
        exact rfq_env_o r.cols r.rows r.width r.height r.code n c r.text r.value r.lang r.on A w s1 s2 s3 s4 q0 (by have h := hl; rw [str_len] at h; exact h)
  · rw [show (Rw.put r .zero .shell).fault = 0 from by rfl]
    exact rfq_shell_o r.cols r.rows r.width r.height r.code n c r.text r.value r.lang r.on A w s1 s2 s3 s4
  · by_cases hl : 1024 < r.text.data.toList.length
    · rw [show (Rw.put r .zero .exec).fault = 6 from by rw [qf_exec, decide_eq_true hl]; rfl]
      exact rfq_exec_l r.cols r.rows r.width r.height r.code n c r.text r.value r.lang r.on A w s1 s2 s3 s4 (by have h := hl; rw [str_len] at h; exact h)
    · have hl : r.text.data.toList.length ≤ 1024 := by omega
      have hl2 : ¬ 1024 < r.text.data.toList.length := by omega
      rw [show (Rw.put r .zero .exec).fault = 0 from by rw [qf_exec, decide_eq_false hl2]; rfl]
      exact rfq_exec_o r.cols r.rows r.width r.height r.code n c r.text r.value r.lang r.on A w s1 s2 s3 s4 (by have h := hl; rw [str_len] at h; exact h)
  · cases q0 : rwordB 1 0 r.text with
    | false =>
      have p0 := q0
      rw [rwordB_0] at p0
      rw [show (Rw.put r .zero .subsystem).fault = 4 from by rw [qf_subsystem, p0]; rfl]
      exact rfq_subsystem_w0 r.cols r.rows r.width r.height r.code n c r.text r.value r.lang r.on A w s1 s2 s3 s4 q0
    | true =>
      have p0 := q0
      rw [rwordB_0] at p0
      rw [show (Rw.put r .zero .subsystem).fault = 0 from by rw [qf_subsystem, p0]; rfl]
      exact rfq_subsystem_o r.cols r.rows r.width r.height r.code n c r.text r.value r.lang r.on A w s1 s2 s3 s4 q0
  · rw [show (Rw.put r .zero .change).fault = 0 from by rfl]
    exact rfq_change_o r.cols r.rows r.width r.height r.code n c r.text r.value r.lang r.on A w s1 s2 s3 s4
  · rw [show (Rw.put r .zero .xon).fault = 0 from by rfl]
    exact rfq_xon_o r.cols r.rows r.width r.height r.code n c r.text r.value r.lang r.on A w s1 s2 s3 s4
  · cases q0 : rwordB 1 0 r.text with
    | false =>
      have p0 := q0
      rw [rwordB_0] at p0
      rw [show (Rw.put r .zero .signal).fault = 4 from by rw [qf_signal, p0]; rfl]
      exact rfq_signal_w0 r.cols r.rows r.width r.height r.code n c r.text r.value r.lang r.on A w s1 s2 s3 s4 q0
    | true =>
      have p0 := q0
      rw [rwordB_0] at p0
      rw [show (Rw.put r .zero .signal).fault = 0 from by rw [qf_signal, p0]; rfl]
      exact rfq_signal_o r.cols r.rows r.width r.height r.code n c r.text r.value r.lang r.on A w s1 s2 s3 s4 q0
  · rw [show (Rw.put r .zero .status).fault = 0 from by rfl]
    exact rfq_status_o r.cols r.rows r.width r.height r.code n c r.text r.value r.lang r.on A w s1 s2 s3 s4
  · cases q0 : rwordB 1 0 r.text with
    | false =>
      have p0 := q0
      rw [rwordB_0] at p0
      rw [show (Rw.put r .zero .ends).fault = 4 from by rw [qf_ends, p0]; rfl]
      exact rfq_ends_w0 r.cols r.rows r.width r.height r.code n c r.text r.value r.lang r.on A w s1 s2 s3 s4 q0
    | true =>
      have p0 := q0
      rw [rwordB_0] at p0
      cases q1 : rwordB 0 0 r.lang with
      | false =>
        have p1 := q1
        rw [rwordB_0] at p1
        rw [show (Rw.put r .zero .ends).fault = 4 from by rw [qf_ends, p0, p1]; rfl]
        exact rfq_ends_w1 r.cols r.rows r.width r.height r.code n c r.text r.value r.lang r.on A w s1 s2 s3 s4 q0 q1
      | true =>
        have p1 := q1
        rw [rwordB_0] at p1
        by_cases hl : 1024 < r.value.data.toList.length
        · rw [show (Rw.put r .zero .ends).fault = 6 from by rw [qf_ends, p0, p1, decide_eq_true hl]; rfl]
          exact rfq_ends_l r.cols r.rows r.width r.height r.code n c r.text r.value r.lang r.on A w s1 s2 s3 s4 q0 q1 (by have h := hl; rw [str_len] at h; exact h)
        · have hl : r.value.data.toList.length ≤ 1024 := by omega
          have hl2 : ¬ 1024 < r.value.data.toList.length := by omega
          rw [show (Rw.put r .zero .ends).fault = 0 from by rw [qf_ends, p0, p1, decide_eq_false hl2]; rfl]
          exact rfq_ends_o r.cols r.rows r.width r.height r.code n c r.text r.value r.lang r.on A w s1 s2 s3 s4 q0 q1 (by have h := hl; rw [str_len] at h; exact h)
end Go.Proofs.YtdplngplljejhaaDoor
