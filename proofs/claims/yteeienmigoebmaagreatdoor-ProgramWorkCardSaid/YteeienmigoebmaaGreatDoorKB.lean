import Derived.Test.YteeienmigoebmaaGreatDoorKA
namespace Go.Proofs.YteeienmigoebmaaGreatDoor
namespace L19
open Go.RowKit L18

/-! Layer 19, the program's side: what may be. -/
theorem bel_w (w : World) (o : Obj) : Hid (Below w.heap.size w (w.alloc o)) := hid ((Below.refl _ w).alloc (Nat.le_refl _) o)
theorem bel_2 {w w1 w2 : World} (h : Hid (Below w.heap.size w w1)) (k : Hid (Below w1.heap.size w1 w2)) : Hid (Below w.heap.size w w2) := hid (h.out.trans (k.out.mono h.out.size))
set_option maxRecDepth 100000 in
set_option maxHeartbeats 1000000 in
theorem within_any (w : World) {n lo hi : Int} {r : Bool} (hr : Hid (btw n lo hi = r)) : Calls Tryz.prog 64 #[.int .i64 n, .int .i64 lo, .int .i64 hi] w fun e w' => e = .returned (.bool r) ∧ w' = w := by
  have hrr := hr.out
  clear hr
  unfold btw at hrr
  by_cases h1 : lo ≤ n
  · by_cases h2 : n ≤ hi
    · have HZ : Hid (r = true) := hid (by simpa [h1, h2] using hrr.symm)
      clear hrr
      go_enter Tryz.func64, Tryz.ntmps64
      go_wp2
      go_ret
      rw [HZ.out]
      simp
    · have HZ : Hid (r = false) := hid (by simpa [h1, h2] using hrr.symm)
      clear hrr
      go_enter Tryz.func64, Tryz.ntmps64
      go_wp2
      go_ret
      rw [HZ.out]
      simp
  · have HZ : Hid (r = false) := hid (by simpa [h1] using hrr.symm)
    clear hrr
    go_enter Tryz.func64, Tryz.ntmps64
    go_wp2
    go_ret
    rw [HZ.out]
    simp
set_option maxRecDepth 100000 in
set_option maxHeartbeats 1000000 in
theorem isSgn_any {w : World} (H : Hid (TabW w)) {g : Int} {r : Bool} (hr : Hid (known g = r)) : Calls Tryz.prog 65 #[.int .i64 g] w fun e w' => e = .returned (.bool r) ∧ w' = w := by
  obtain ⟨n, hn⟩ : ∃ n, Hid (nmS g = n) := ⟨_, hid rfl⟩
  go_enter Tryz.func65, Tryz.ntmps65
  go_wp2_with (first
    | (go_at_call 81
       (with_reducible refine (name_any H hn hr).mono ?_)
       rintro e w1 ⟨rfl, hw⟩
       obtain rfl := hw.symm))
  go_ret
  exact ⟨rfl, rfl⟩
theorem flag_same (op : Int) : Go.Proofs.YteeienmigoebmaaGreatDoor.flagB op = flagB op := rfl
theorem set_has (op : Int) : hasN (setT Tm.zero op true).f op = flagB op := by
  rw [← flag_same]
  cases h : Go.Proofs.YteeienmigoebmaaGreatDoor.flagB op
  · simp [hasN, h]
  · obtain ⟨h1, h2⟩ := flag_rng h
    have hk : kb op < 64 := by unfold kb; omega
    simp [hasN, setT, setN, h, Tm.zero]
set_option maxRecDepth 100000 in
set_option maxHeartbeats 1000000 in
theorem isFlg_any (w : World) {op : Int} {r : Bool} (hr : Hid (flagB op = r)) : Calls Tryz.prog 67 #[.int .i64 op] w fun e w' => e = .returned (.bool r) ∧ Hid (Below w.heap.size w w') := by
  have hb : hasN (setT Tm.zero op true).f op = r := (set_has op).trans hr.out
  have HS := hid ((set_any w Tm.zero zero_ok op true))
  rw [zero_cs] at HS
  obtain ⟨t, ht⟩ : ∃ z, setT Tm.zero op true = z := ⟨_, rfl⟩
  have hok : t.Ok := by rw [← ht]; exact setT_ok zero_ok op true
  rw [ht] at hb HS
  have HB := hid hb
  have HK := hid hok
  clear hb hok ht
  go_enter Tryz.func67, Tryz.ntmps67
  go_wp2_with (first
    | (go_at_call 85
       (with_reducible refine HS.out.mono ?_)
       rintro e w1 ⟨rfl, C1⟩)
    | (go_at_call 84
       (with_reducible refine (has_any w1 t HK.out op).mono ?_)
       rintro e w2 ⟨rfl, C2⟩))
  go_ret
  rw [HB.out]
  exact ⟨rfl, bel_2 C1 C2⟩
theorem act_x {w : World} (H : Hid (TabW w)) {b : List Int} {g how er : Int} (ha : Hid (zero32.length = 32)) (hb : Hid (actA zero32 g how = b)) (he : Hid (actE g how = er)) : Calls Tryz.prog 66 #[.agg #[.int .i64 0, .int .i64 0, .int .i64 0, .int .i64 0, .int .i64 0, .int .i64 0, .int .i64 0, .int .i64 0, .int .i64 0, .int .i64 0, .int .i64 0, .int .i64 0, .int .i64 0, .int .i64 0, .int .i64 0, .int .i64 0, .int .i64 0, .int .i64 0, .int .i64 0, .int .i64 0, .int .i64 0, .int .i64 0, .int .i64 0, .int .i64 0, .int .i64 0, .int .i64 0, .int .i64 0, .int .i64 0, .int .i64 0, .int .i64 0, .int .i64 0, .int .i64 0], .int .i64 g, .int .i64 how] w fun e w' => e = .returned (.tuple #[.agg (arr b), .int .i64 er]) ∧ Hid (Below w.heap.size w w') := by
  rw [← hb.out, ← he.out]
  exact act_any H ha g how
section
variable {w : World} {k a b at_ all : Int} {s : ByteArray} {r : Bool}
set_option maxRecDepth 100000 in
set_option maxHeartbeats 1000000 in
theorem exitP_any (hr : Hid (btw a 0 255 = r)) : Calls Tryz.prog 33 #[.agg #[.int .i64 k, .int .i64 a, .int .i64 b, .string s, .int .i64 at_, .int .i64 all]] w fun e w' => e = .returned (.bool r) ∧ Hid (Below w.heap.size w w') := by
  go_enter Tryz.func33, Tryz.ntmps33
  go_wp2_with (first
    | (go_at_call 64
       (with_reducible refine (within_any _ hr).mono ?_)
       rintro e w1 ⟨rfl, rfl⟩))
  go_ret
  exact ⟨rfl, bel_w w _⟩
set_option maxRecDepth 100000 in
set_option maxHeartbeats 1000000 in
theorem inP_any (hr : Hid (btw a 1 1024 = r)) : Calls Tryz.prog 35 #[.agg #[.int .i64 k, .int .i64 a, .int .i64 b, .string s, .int .i64 at_, .int .i64 all]] w fun e w' => e = .returned (.bool r) ∧ Hid (Below w.heap.size w w') := by
  go_enter Tryz.func35, Tryz.ntmps35
  go_wp2_with (first
    | (go_at_call 64
       (with_reducible refine (within_any _ hr).mono ?_)
       rintro e w1 ⟨rfl, rfl⟩))
  go_ret
  exact ⟨rfl, bel_w w _⟩
set_option maxRecDepth 100000 in
set_option maxHeartbeats 1000000 in
theorem waitP_any (hr : Hid (btw a 0 3 = r)) : Calls Tryz.prog 37 #[.agg #[.int .i64 k, .int .i64 a, .int .i64 b, .string s, .int .i64 at_, .int .i64 all]] w fun e w' => e = .returned (.bool r) ∧ Hid (Below w.heap.size w w') := by
  go_enter Tryz.func37, Tryz.ntmps37
  go_wp2_with (first
    | (go_at_call 64
       (with_reducible refine (within_any _ hr).mono ?_)
       rintro e w1 ⟨rfl, rfl⟩))
  go_ret
  exact ⟨rfl, bel_w w _⟩
set_option maxRecDepth 100000 in
set_option maxHeartbeats 1000000 in
theorem groupP_any (hr : Hid (btw a 0 2 = r)) : Calls Tryz.prog 39 #[.agg #[.int .i64 k, .int .i64 a, .int .i64 b, .string s, .int .i64 at_, .int .i64 all]] w fun e w' => e = .returned (.bool r) ∧ Hid (Below w.heap.size w w') := by
  go_enter Tryz.func39, Tryz.ntmps39
  go_wp2_with (first
    | (go_at_call 64
       (with_reducible refine (within_any _ hr).mono ?_)
       rintro e w1 ⟨rfl, rfl⟩))
  go_ret
  exact ⟨rfl, bel_w w _⟩
set_option maxRecDepth 100000 in
set_option maxHeartbeats 1000000 in
theorem frontP_any (hr : Hid (btw a 0 1 = r)) : Calls Tryz.prog 41 #[.agg #[.int .i64 k, .int .i64 a, .int .i64 b, .string s, .int .i64 at_, .int .i64 all]] w fun e w' => e = .returned (.bool r) ∧ Hid (Below w.heap.size w w') := by
  go_enter Tryz.func41, Tryz.ntmps41
  go_wp2_with (first
    | (go_at_call 64
       (with_reducible refine (within_any _ hr).mono ?_)
       rintro e w1 ⟨rfl, rfl⟩))
  go_ret
  exact ⟨rfl, bel_w w _⟩
set_option maxRecDepth 100000 in
set_option maxHeartbeats 1000000 in
theorem sleepP_any (hr : Hid (btw a 0 1000 = r)) : Calls Tryz.prog 44 #[.agg #[.int .i64 k, .int .i64 a, .int .i64 b, .string s, .int .i64 at_, .int .i64 all]] w fun e w' => e = .returned (.bool r) ∧ Hid (Below w.heap.size w w') := by
  go_enter Tryz.func44, Tryz.ntmps44
  go_wp2_with (first
    | (go_at_call 64
       (with_reducible refine (within_any _ hr).mono ?_)
       rintro e w1 ⟨rfl, rfl⟩))
  go_ret
  exact ⟨rfl, bel_w w _⟩
set_option maxRecDepth 100000 in
set_option maxHeartbeats 1000000 in
theorem anywayP_any (hr : Hid (true = r)) : Calls Tryz.prog 40 #[.agg #[.int .i64 k, .int .i64 a, .int .i64 b, .string s, .int .i64 at_, .int .i64 all]] w fun e w' => e = .returned (.bool r) ∧ Hid (Below w.heap.size w w') := by
  have hrr := hr.out
  subst hrr
  clear hr
  go_enter Tryz.func40, Tryz.ntmps40
  go_wp2
  go_ret
  exact ⟨rfl, bel_w w _⟩
set_option maxRecDepth 100000 in
set_option maxHeartbeats 1000000 in
theorem textP_any (hr : Hid (decide (s.size ≤ 1024) = r)) : Calls Tryz.prog 34 #[.agg #[.int .i64 k, .int .i64 a, .int .i64 b, .string s, .int .i64 at_, .int .i64 all]] w fun e w' => e = .returned (.bool r) ∧ Hid (Below w.heap.size w w') := by
  have hrr := hr.out
  clear hr
  by_cases h : s.size ≤ 1024
  · have HZ : Hid (r = true) := hid (by simpa [h] using hrr.symm)
    have h2 : (s.size : Int) ≤ 1024 := by omega
    clear hrr
    go_enter Tryz.func34, Tryz.ntmps34
    go_wp2
    go_ret
    rw [HZ.out]
    exact ⟨rfl, bel_w w _⟩
  · have HZ : Hid (r = false) := hid (by simpa [h] using hrr.symm)
    have h2 : ¬ (s.size : Int) ≤ 1024 := by omega
    clear hrr
    go_enter Tryz.func34, Tryz.ntmps34
    go_wp2
    go_ret
    rw [HZ.out]
    exact ⟨rfl, bel_w w _⟩
set_option maxRecDepth 100000 in
set_option maxHeartbeats 1000000 in
theorem laterP_any (hr : Hid ((decide (at_ < a) && decide (a < all)) = r)) : Calls Tryz.prog 36 #[.agg #[.int .i64 k, .int .i64 a, .int .i64 b, .string s, .int .i64 at_, .int .i64 all]] w fun e w' => e = .returned (.bool r) ∧ Hid (Below w.heap.size w w') := by
  have hrr := hr.out
  clear hr
  by_cases h1 : at_ < a
  · by_cases h2 : a < all
    · have HZ : Hid (r = true) := hid (by simpa [h1, h2] using hrr.symm)
      clear hrr
      go_enter Tryz.func36, Tryz.ntmps36
      go_wp2
      go_ret
      rw [HZ.out]
      exact ⟨by simp, bel_w w _⟩
    · have HZ : Hid (r = false) := hid (by simpa [h1, h2] using hrr.symm)
      clear hrr
      go_enter Tryz.func36, Tryz.ntmps36
      go_wp2
      go_ret
      rw [HZ.out]
      exact ⟨by simp, bel_w w _⟩
  · have HZ : Hid (r = false) := hid (by simpa [h1] using hrr.symm)
    clear hrr
    go_enter Tryz.func36, Tryz.ntmps36
    go_wp2
    go_ret
    rw [HZ.out]
    exact ⟨by simp, bel_w w _⟩
set_option maxRecDepth 100000 in
set_option maxHeartbeats 1000000 in
theorem killP_any (H : Hid (TabW w)) (hr : Hid ((btw a 0 4 && known b) = r)) : Calls Tryz.prog 38 #[.agg #[.int .i64 k, .int .i64 a, .int .i64 b, .string s, .int .i64 at_, .int .i64 all]] w fun e w' => e = .returned (.bool r) ∧ Hid (Below w.heap.size w w') := by
  have HW := fun o => TabW.below H (bel_w w o).out
  have hrr := hr.out
  clear hr
  cases h1 : btw a 0 4
  · have HZ : Hid (r = false) := hid (by simpa [h1] using hrr.symm)
    have H1 := hid h1
    clear hrr h1
    go_enter Tryz.func38, Tryz.ntmps38
    go_wp2_with (first
      | (go_at_call 64
         (with_reducible refine (within_any _ H1).mono ?_)
         rintro e w1 ⟨rfl, rfl⟩))
    go_ret
    rw [HZ.out]
    exact ⟨rfl, bel_w w _⟩
  · have H1 := hid h1
    have H2 : Hid (known b = r) := hid (by simpa [h1] using hrr)
    clear hrr h1
    go_enter Tryz.func38, Tryz.ntmps38
    go_wp2_with (first
      | (go_at_call 64
         (with_reducible refine (within_any _ H1).mono ?_)
         rintro e w1 ⟨rfl, rfl⟩)
      | (go_at_call 65
         (with_reducible refine (isSgn_any (HW _) H2).mono ?_)
         rintro e w1 ⟨rfl, rfl⟩))
    go_ret
    exact ⟨rfl, bel_w w _⟩
set_option maxRecDepth 100000 in
set_option maxHeartbeats 1000000 in
theorem maskP_any (H : Hid (TabW w)) (hr : Hid ((known a && btw b 0 1) = r)) : Calls Tryz.prog 43 #[.agg #[.int .i64 k, .int .i64 a, .int .i64 b, .string s, .int .i64 at_, .int .i64 all]] w fun e w' => e = .returned (.bool r) ∧ Hid (Below w.heap.size w w') := by
  have HW := fun o => TabW.below H (bel_w w o).out
  have hrr := hr.out
  clear hr
  cases h1 : known a
  · have HZ : Hid (r = false) := hid (by simpa [h1] using hrr.symm)
    have H1 := hid h1
    clear hrr h1
    go_enter Tryz.func43, Tryz.ntmps43
    go_wp2_with (first
      | (go_at_call 65
         (with_reducible refine (isSgn_any (HW _) H1).mono ?_)
         rintro e w1 ⟨rfl, rfl⟩))
    go_ret
    rw [HZ.out]
    exact ⟨rfl, bel_w w _⟩
  · have H1 := hid h1
    have H2 : Hid (btw b 0 1 = r) := hid (by simpa [h1] using hrr)
    clear hrr h1
    go_enter Tryz.func43, Tryz.ntmps43
    go_wp2_with (first
      | (go_at_call 65
         (with_reducible refine (isSgn_any (HW _) H1).mono ?_)
         rintro e w1 ⟨rfl, rfl⟩)
      | (go_at_call 64
         (with_reducible refine (within_any _ H2).mono ?_)
         rintro e w1 ⟨rfl, rfl⟩))
    go_ret
    exact ⟨rfl, bel_w w _⟩
set_option maxRecDepth 100000 in
set_option maxHeartbeats 1000000 in
theorem modeP_any (hr : Hid ((flagB a && btw b 0 1) = r)) : Calls Tryz.prog 45 #[.agg #[.int .i64 k, .int .i64 a, .int .i64 b, .string s, .int .i64 at_, .int .i64 all]] w fun e w' => e = .returned (.bool r) ∧ Hid (Below w.heap.size w w') := by
  have hrr := hr.out
  clear hr
  cases h1 : flagB a
  · have HZ : Hid (r = false) := hid (by simpa [h1] using hrr.symm)
    have H1 := hid h1
    clear hrr h1
    go_enter Tryz.func45, Tryz.ntmps45
    go_wp2_with (first
      | (go_at_call 67
         (with_reducible refine (isFlg_any _ H1).mono ?_)
         rintro e w1 ⟨rfl, C1⟩
         have y0 := (C1.out.cell (p := ⟨w.heap.size, 2, none⟩) (by simp)).trans ((Box.new w 93 #[.int .i64 k, .int .i64 a, .int .i64 b, .string s, .int .i64 at_, .int .i64 all]).cell 2)))
    go_ret
    rw [HZ.out]
    exact ⟨rfl, bel_2 (bel_w w _) C1⟩
  · have H1 := hid h1
    have H2 : Hid (btw b 0 1 = r) := hid (by simpa [h1] using hrr)
    clear hrr h1
    go_enter Tryz.func45, Tryz.ntmps45
    go_wp2_with (first
      | (go_at_call 67
         (with_reducible refine (isFlg_any _ H1).mono ?_)
         rintro e w1 ⟨rfl, C1⟩
         have y0 := (C1.out.cell (p := ⟨w.heap.size, 2, none⟩) (by simp)).trans ((Box.new w 93 #[.int .i64 k, .int .i64 a, .int .i64 b, .string s, .int .i64 at_, .int .i64 all]).cell 2))
      | (go_at_call 64
         (with_reducible refine (within_any _ H2).mono ?_)
         rintro e w1 ⟨rfl, rfl⟩))
    go_ret
    exact ⟨rfl, bel_2 (bel_w w _) C1⟩
set_option maxRecDepth 100000 in
set_option maxHeartbeats 1000000 in
theorem actP_any (H : Hid (TabW w)) (hr : Hid ((!badA a b) = r)) : Calls Tryz.prog 42 #[.agg #[.int .i64 k, .int .i64 a, .int .i64 b, .string s, .int .i64 at_, .int .i64 all]] w fun e w' => e = .returned (.bool r) ∧ Hid (Below w.heap.size w w') := by
  have HW := fun o => TabW.below H (bel_w w o).out
  have hl : Hid (zero32.length = 32) := hid rfl
  obtain ⟨b2, hb⟩ : ∃ z, Hid (actA zero32 a b = z) := ⟨_, hid rfl⟩
  obtain ⟨er, he⟩ : ∃ z, Hid (actE a b = z) := ⟨_, hid rfl⟩
  have h2 : Hid (b2.length = 32) := hid (by rw [← hb.out]; exact act_len rfl a b)
  have hs : Hid ((Tryz.prog.info? 109).map (·.size) = some (arr b2).size) := hid (by rw [arr_size h2.out]; exact Tryz.size32P)
  have hrr := hr.out
  clear hr
  have hq : Hid ((er == 0) = r) := hid (by
    rw [← he.out, ← hrr]
    unfold actE
    cases badA a b <;> rfl)
  have HZ := hid zero_arr
  go_enter Tryz.func42, Tryz.ntmps42
  go_wp2_with (first
    | (go_at_call 66
       (with_reducible refine (act_x (HW _) hl hb he).mono ?_)
       rintro e w1 ⟨rfl, C1⟩)
    | (refine stP (by rfl) _ _ (by rfl) _ (by rfl) b2 h2 (by rfl) _ (hid (Box.new w1 _ _)) (by rfl) ?_
       intro w9 X9 T9))
  go_ret
  rw [hq.out]
  exact ⟨rfl, bel_2 (bel_2 (bel_w w _) C1) (hid ((bel_w w1 _).out.trans (T9.out.below (Nat.le_refl _))))⟩
end
end L19
end Go.Proofs.YteeienmigoebmaaGreatDoor
namespace Go.Proofs.YteeienmigoebmaaGreatDoor
namespace L19
open Go.RowKit L18

/-! Layer 19, the program's side: whether an operation may be. -/
theorem of_yes (w : World) {j : Nat} (h1 : 1 ≤ j) (h2 : j ≤ 16) {k : Int} (hk : k = (j : Int)) {R : Array Value} (hR : rowA j = R) : Calls Tryz.prog 47 #[.agg rowsA, .int .i64 k] w fun e w' => e = .returned (.tuple #[.agg R, .bool true]) ∧ Hid (Below w.heap.size w w') :=
  (of_any w k).mono fun e w' h => by
    obtain ⟨h, hb⟩ := h
    refine ⟨?_, hb⟩
    rcases h with ⟨q, _, _, hq, he⟩ | ⟨h, _⟩
    · obtain rfl : q = j := by omega
      rw [he, hR]
    · exact absurd ⟨by omega, by omega⟩ h
theorem of_no (w : World) {k : Int} (h : ¬ (1 ≤ k ∧ k ≤ 16)) : Calls Tryz.prog 47 #[.agg rowsA, .int .i64 k] w fun e w' => e = .returned (.tuple #[.agg zrow, .bool false]) ∧ Hid (Below w.heap.size w w') :=
  (of_any w k).mono fun e w' h' => by
    obtain ⟨h', hb⟩ := h'
    refine ⟨?_, hb⟩
    rcases h' with ⟨q, _, _, hq, he⟩ | ⟨_, he⟩
    · exact absurd ⟨by omega, by omega⟩ h
    · exact he
theorem bs_emp (t : List UInt8) : (bs t).toList.isEmpty = t.isEmpty := by
  rw [ByteArray.toList_eq]
  simp [bs]
section
variable {w : World} {k a b : Int} {s : ByteArray} {r e0 : Bool}
set_option maxRecDepth 100000 in
set_option maxHeartbeats 4000000 in
theorem only0_any (w : World) (he : Hid (s.toList.isEmpty = e0)) (hr : Hid ((decide (a = 0) && decide (b = 0) && e0) = r)) : Calls Tryz.prog 60 #[.int .i64 0, .agg #[.int .i64 k, .int .i64 a, .int .i64 b, .string s]] w fun e w' => e = .returned (.bool r) ∧ Hid (Below w.heap.size w w') := by
  have hrr := hr.out
  clear hr
  by_cases ha : a = 0
  · have ta : (a == 0) = true := by simp [ha]
    by_cases hb : b = 0
    · have tb : (b == 0) = true := by simp [hb]
      have HZ : Hid (e0 = r) := hid (by simpa [ha, hb] using hrr)
      clear hrr
      go_enter Tryz.func60, Tryz.ntmps60
      go_wp2
      go_ret
      rw [← HZ.out, ← he.out]
      exact ⟨rfl, bel_w w _⟩
    · have tb : (b == 0) = false := by simp [hb]
      have HZ : Hid (false = r) := hid (by simpa [ha, hb] using hrr)
      clear hrr
      go_enter Tryz.func60, Tryz.ntmps60
      go_wp2
      go_ret
      rw [← HZ.out]
      exact ⟨rfl, bel_w w _⟩
  · have ta : (a == 0) = false := by simp [ha]
    have HZ : Hid (false = r) := hid (by simpa [ha] using hrr)
    clear hrr
    go_enter Tryz.func60, Tryz.ntmps60
    go_wp2
    go_ret
    rw [← HZ.out]
    exact ⟨rfl, bel_w w _⟩
set_option maxRecDepth 100000 in
set_option maxHeartbeats 4000000 in
theorem only1_any (w : World) (he : Hid (s.toList.isEmpty = e0)) (hr : Hid ((decide (b = 0) && e0) = r)) : Calls Tryz.prog 60 #[.int .i64 1, .agg #[.int .i64 k, .int .i64 a, .int .i64 b, .string s]] w fun e w' => e = .returned (.bool r) ∧ Hid (Below w.heap.size w w') := by
  have hrr := hr.out
  clear hr
  by_cases hb : b = 0
  · have tb : (b == 0) = true := by simp [hb]
    have HZ : Hid (e0 = r) := hid (by simpa [hb] using hrr)
    clear hrr
    go_enter Tryz.func60, Tryz.ntmps60
    go_wp2
    go_ret
    rw [← HZ.out, ← he.out]
    exact ⟨rfl, bel_w w _⟩
  · have tb : (b == 0) = false := by simp [hb]
    have HZ : Hid (false = r) := hid (by simpa [hb] using hrr)
    clear hrr
    go_enter Tryz.func60, Tryz.ntmps60
    go_wp2
    go_ret
    rw [← HZ.out]
    exact ⟨rfl, bel_w w _⟩
set_option maxRecDepth 100000 in
set_option maxHeartbeats 4000000 in
theorem only2_any (w : World) (he : Hid (s.toList.isEmpty = e0)) (hr : Hid (e0 = r)) : Calls Tryz.prog 60 #[.int .i64 2, .agg #[.int .i64 k, .int .i64 a, .int .i64 b, .string s]] w fun e w' => e = .returned (.bool r) ∧ Hid (Below w.heap.size w w') := by
  have hrr := hr.out
  clear hr
  have HZ : Hid (e0 = r) := hid (by simpa using hrr)
  clear hrr
  go_enter Tryz.func60, Tryz.ntmps60
  go_wp2
  go_ret
  rw [← HZ.out, ← he.out]
  exact ⟨rfl, bel_w w _⟩
set_option maxRecDepth 100000 in
set_option maxHeartbeats 4000000 in
theorem only9_any (w : World) (hr : Hid ((decide (a = 0) && decide (b = 0)) = r)) : Calls Tryz.prog 63 #[.agg #[], .agg #[.int .i64 k, .int .i64 a, .int .i64 b, .string s]] w fun e w' => e = .returned (.bool r) ∧ Hid (Below w.heap.size w w') := by
  have hrr := hr.out
  clear hr
  have B2 : ∀ o o2, Hid (Below w.heap.size w ((w.alloc o).alloc o2)) := fun o o2 => hid ((bel_w w o).out.alloc (by simp) o2)
  by_cases ha : a = 0
  · have ta : (a == 0) = true := by simp [ha]
    by_cases hb : b = 0
    · have tb : (b == 0) = true := by simp [hb]
      have HZ : Hid (true = r) := hid (by simpa [ha, hb] using hrr)
      clear hrr
      go_enter Tryz.func63, Tryz.ntmps63
      go_wp2
      go_ret
      rw [← HZ.out]
      exact ⟨rfl, B2 _ _⟩
    · have tb : (b == 0) = false := by simp [hb]
      have HZ : Hid (false = r) := hid (by simpa [ha, hb] using hrr)
      clear hrr
      go_enter Tryz.func63, Tryz.ntmps63
      go_wp2
      go_ret
      rw [← HZ.out]
      exact ⟨rfl, B2 _ _⟩
  · have ta : (a == 0) = false := by simp [ha]
    have HZ : Hid (false = r) := hid (by simpa [ha] using hrr)
    clear hrr
    go_enter Tryz.func63, Tryz.ntmps63
    go_wp2
    go_ret
    rw [← HZ.out]
    exact ⟨rfl, B2 _ _⟩
end
/-- Nothing but what stands behind the word. -/
def onlyB (k : Nat) (a b : Int) (e : Bool) : Bool := (decide (argN k = 9) || e) && (decide (argN k = 2) || decide (b = 0)) && (decide (argN k = 1 ∨ argN k = 2) || decide (a = 0))
theorem arg_cases {k : Nat} (h2 : k ≤ 16) : argN k = 0 ∨ argN k = 1 ∨ argN k = 2 ∨ argN k = 9 := by
  have : ∀ j : Fin 17, argN j.1 = 0 ∨ argN j.1 = 1 ∨ argN j.1 = 2 ∨ argN j.1 = 9 := by decide
  exact this ⟨_, by omega⟩
theorem on_any (w : World) {k : Nat} (h2 : k ≤ 16) {kd a b : Int} {s : ByteArray} {r e0 : Bool} (he : Hid (s.toList.isEmpty = e0)) (hr : Hid (onlyB k a b e0 = r)) {fN : Nat} (hf : onN k = fN) {A : Array Value} (hA : arA k = A) :
    Calls Tryz.prog fN (A ++ #[.agg #[.int .i64 kd, .int .i64 a, .int .i64 b, .string s]]) w fun e w' => e = .returned (.bool r) ∧ Hid (Below w.heap.size w w') := by
  have hrr := hr.out
  subst hf
  subst hA
  unfold onlyB at hrr
  rcases arg_cases h2 with e | e | e | e <;> simp only [onN, arA, e] at hrr ⊢
  · exact only0_any w he (hid (by rw [← hrr]; simp [Bool.and_comm, Bool.and_left_comm]))
  · exact only1_any w he (hid (by rw [← hrr]; simp [Bool.and_comm]))
  · exact only2_any w he (hid (by rw [← hrr]; simp))
  · exact only9_any w (hid (by rw [← hrr]; simp [Bool.and_comm]))
theorem on_call {k : Nat} (h2 : k ≤ 16) {fN : Nat} (hf : onN k = fN) : ∀ args w, (callFunc fN args).run Tryz.prog w = .ok (.enter fN args) w := by
  subst hf
  rcases arg_cases h2 with e | e | e | e <;> simp only [onN, e]
  · exact Tryz.call60
  · exact Tryz.call60
  · exact Tryz.call60
  · exact Tryz.call63
theorem fix_is (a : Int) : fixS a = (decide (a = 9) || decide (a = 19)) := rfl
theorem bad_act (a b : Int) : (!badA a b) = (known a && decide (a ≠ 9) && decide (a ≠ 19) && btw b 0 2) := by
  unfold badA btw
  cases h : known a
  · simp
  · have h0 : fixS a = (decide (a = 9) || decide (a = 19)) := fix_is a
    rw [h0]
    by_cases h1 : a = 9 <;> by_cases h2 : a = 19 <;> by_cases h3 : b < 0 <;> by_cases h4 : 2 < b <;> simp [h1, h2, h3, h4] <;> omega
theorem may_any {w : World} (H : Hid (TabW w)) {k : Nat} (h1 : 1 ≤ k) (h2 : k ≤ 16) {kd a b i all : Int} {s : ByteArray} {r : Bool} (hr : Hid (kindB (k : Int) a b s.size i all = r)) {fN : Nat} (hf : myN k = fN) :
    Calls Tryz.prog fN #[.agg #[.int .i64 kd, .int .i64 a, .int .i64 b, .string s, .int .i64 i, .int .i64 all]] w fun e w' => e = .returned (.bool r) ∧ Hid (Below w.heap.size w w') := by
  have hrr := hr.out
  subst hf
  have : k = 1 ∨ k = 2 ∨ k = 3 ∨ k = 4 ∨ k = 5 ∨ k = 6 ∨ k = 7 ∨ k = 8 ∨ k = 9 ∨ k = 10 ∨ k = 11 ∨ k = 12 ∨ k = 13 ∨ k = 14 ∨ k = 15 ∨ k = 16 := by omega
  rcases this with rfl | rfl | rfl | rfl | rfl | rfl | rfl | rfl | rfl | rfl | rfl | rfl | rfl | rfl | rfl | rfl
  · exact exitP_any (hid (by simpa [kindB] using hrr))
  · exact textP_any (hid (by simpa [kindB] using hrr))
  · exact textP_any (hid (by simpa [kindB] using hrr))
  · exact inP_any (hid (by simpa [kindB] using hrr))
  · exact laterP_any (hid (by simpa [kindB] using hrr))
  · exact laterP_any (hid (by simpa [kindB] using hrr))
  · exact waitP_any (hid (by simpa [kindB] using hrr))
  · exact killP_any H (hid (by simpa [kindB] using hrr))
  · exact groupP_any (hid (by simpa [kindB] using hrr))
  · exact anywayP_any (hid (by simpa [kindB] using hrr))
  · exact frontP_any (hid (by simpa [kindB] using hrr))
  · exact actP_any H (hid ((bad_act a b).trans (by simpa [kindB] using hrr)))
  · exact maskP_any H (hid (by simpa [kindB] using hrr))
  · exact sleepP_any (hid (by simpa [kindB] using hrr))
  · exact modeP_any (hid (by simpa [kindB] using hrr))
  · exact anywayP_any (hid (by simpa [kindB] using hrr))
theorem my_call {k : Nat} (h1 : 1 ≤ k) (h2 : k ≤ 16) {fN : Nat} (hf : myN k = fN) : ∀ args w, (callFunc fN args).run Tryz.prog w = .ok (.enter fN args) w := by
  subst hf
  have : k = 1 ∨ k = 2 ∨ k = 3 ∨ k = 4 ∨ k = 5 ∨ k = 6 ∨ k = 7 ∨ k = 8 ∨ k = 9 ∨ k = 10 ∨ k = 11 ∨ k = 12 ∨ k = 13 ∨ k = 14 ∨ k = 15 ∨ k = 16 := by omega
  rcases this with rfl | rfl | rfl | rfl | rfl | rfl | rfl | rfl | rfl | rfl | rfl | rfl | rfl | rfl | rfl | rfl
  · exact Tryz.call33
  · exact Tryz.call34
  · exact Tryz.call34
  · exact Tryz.call35
  · exact Tryz.call36
  · exact Tryz.call36
  · exact Tryz.call37
  · exact Tryz.call38
  · exact Tryz.call39
  · exact Tryz.call40
  · exact Tryz.call41
  · exact Tryz.call42
  · exact Tryz.call43
  · exact Tryz.call44
  · exact Tryz.call45
  · exact Tryz.call40
end L19
end Go.Proofs.YteeienmigoebmaaGreatDoor
