import Derived.Test.YtggcampdkgfmgaaGreatQV
namespace Go.Proofs.YtggcampdkgfmgaaGreat
open Go.RowKit

/-! The law's helper heavy. -/
theorem minSum_at {ops : List Op16} {m : Nat} {o : Op16} (h : ops[m]? = some o) : minSum (ops.take (m + 1)) = minSum (ops.take m) + min o.b.length 100000 := by
  obtain ⟨h1, h2⟩ := List.getElem?_eq_some_iff.1 h
  unfold minSum
  rw [List.take_succ_eq_append_getElem h1, h2, List.map_append, List.sum_append]
  simp
theorem minSum_le (ops : List Op16) : minSum ops ≤ 100000 * ops.length := by
  unfold minSum
  induction ops with
  | nil => exact Nat.le_refl _
  | cons x r ih => simp only [List.map_cons, List.sum_cons, List.length_cons] at ih ⊢; omega
set_option maxRecDepth 100000 in
set_option maxHeartbeats 4000000 in
theorem heavy_any (w : World) (A : Option Addr) (c n : Nat) (ops : List Op16) (hO : Hid (OpsIn w A c ops)) (hn : Hid (ops.length = n)) {b : Bool} (hb : Hid (heavyD ops = b)) : Calls Tryz.prog 30 #[.slice A n c] w fun e w' => e = .returned (.bool b) ∧ Hid (Below w.heap.size w w') := by
  have hcap : n ≤ maxLen := by have h1 := hO.out.len; have h2 := hO.out.cap; have h3 := hn.out; omega
  unfold maxLen at hcap
  go_enter Tryz.func30, Tryz.ntmps30
  go_wp2_with fail
  go_loopg [3, 8] n (fun gk a i wr => ∃ (m : Nat) (z : Int), m + gk = n ∧ i = .int .i64 m ∧ a = .int .i64 z ∧ Hid (n ≤ 60 → z = minSum (ops.take m)) ∧ Hid (Below w.heap.size w wr))
  case atStart => exact ⟨0, 0, by omega, rfl, rfl, hid (fun _ => by simp [minSum]), hid (Below.refl _ _)⟩
  case round =>
    obtain ⟨m, z, hm, rfl, rfl, HZ, K3⟩ := hrel
    by_cases hlt : m < n
    · have hki : (m : Int) < (n : Int) := by omega
      obtain ⟨b0, o0, op, hA, hop, hr, hok⟩ := (hO.out.grow K3.out).at_ (k := m) (by have := hn.out; omega)
      subst hA
      have hr := hid hr
      have HOP := hid hop
      have hi28 : Hid ((Tryz.prog.info? 65).map (·.size) = some (opC op).length) := hid (by rw [opC_len hok.t]; exact sizeOp)
      have hi29 : Hid ((Tryz.prog.info? 65).map (·.size) = some (opV op).size) := hid (by rw [opV_size hok.t]; exact sizeOp)
      have hsz : (opV op).size = 28 := opV_size hok.t
      have hsm := hok.small
      obtain ⟨q, hq⟩ : ∃ q : Nat, Hid (min op.b.length 100000 = q) := ⟨_, hid rfl⟩
      have hmin : min (op.b.length : Int) 100000 = (q : Int) := by have := hq.out; omega
      have hmin2 : min 100000 (op.b.length : Int) = (q : Int) := by have := hq.out; omega
      clear hop hok
      go_wp2_with (first
        | (refine ldM (by rfl) 65 Tryz.underlying65 _ (by rfl) b0 (o0 + m * 28) (by rfl) (opC op) hr hi28 ?_)
        | (refine snX (by rfl) 65 _ _ (by rfl) wr _ rfl rfl (opV op) (by rfl) hi29 hsz.symm (hid opV_one) ?_
           intro v4 X4 k4
           have K4 := bel_t K3 k4.out
           have c3 : World.cell? v4 ⟨wr.heap.size, 3, none⟩ = some (.slice op.A op.b.length op.c) := by have := X4.out.cell 3; exact this))
      go_roundg (gk - 1)
      case measure => omega
      case rel => exact ⟨m + 1, wrap64 (z + (q : Int)), by omega, by go_num, rfl, hid (fun h60 => by
        rw [minSum_at HOP.out, hq.out, HZ.out h60]
        unfold wrap64
        have h1 : minSum (ops.take m) ≤ 6000000 := by
          have h1 := minSum_le (ops.take m)
          have h2 := List.length_take_le m ops
          omega
        have h3 : q ≤ 100000 := by have := hq.out; omega
        omega), K4⟩
    · obtain rfl : m = n := by omega
      have hki : ¬ (m : Int) < (m : Int) := by omega
      by_cases h60 : 60 < m
      · have q1 : (m : Int) > 60 := by omega
        obtain rfl : true = b := by rw [← hb.out]; unfold heavyD; rw [hn.out, decide_eq_true h60]; rfl
        go_wp2_with fail
        go_ret
        exact ⟨rfl, K3⟩
      · have q1 : ¬ (m : Int) > 60 := by omega
        have hz := HZ.out (by omega)
        rw [List.take_of_length_le (by have := hn.out; omega)] at hz
        by_cases h3 : 3000 < minSum ops
        · clear HZ
          obtain rfl : true = b := by rw [← hb.out]; unfold heavyD; rw [decide_eq_true h3, Bool.or_true]
          go_wp2_with fail
          go_ret
          exact ⟨ret_bool (a := decide (3000 < ((minSum ops : Nat) : Int))) (b := true) (decide_eq_true (by omega)), K3⟩
        · clear HZ
          obtain rfl : false = b := by rw [← hb.out]; unfold heavyD; rw [hn.out, decide_eq_false h60, decide_eq_false h3]; rfl
          go_wp2_with fail
          go_ret
          exact ⟨ret_bool (a := decide (3000 < ((minSum ops : Nat) : Int))) (b := false) (decide_eq_false (by omega)), K3⟩
end Go.Proofs.YtggcampdkgfmgaaGreat
