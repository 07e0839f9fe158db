import Derived.Test.YtggcampdkgfmgaaGreatQS
import Derived.Test.YtggcampdkgfmgaaGreatQV
namespace Go.Proofs.YtggcampdkgfmgaaGreat
open Go.RowKit

/-! STAND-IN: the law's helpers great, To. -/
theorem sizeX16 : (Tryz.prog.info? 54).map (·.size) = some 34 := by kernel_rfl
theorem sizeL16 : (Tryz.prog.info? 131).map (·.size) = some 2 := by kernel_rfl
theorem sumL_at {rs : List L13.Rc} {m : Nat} {r : L13.Rc} (h : rs[m]? = some r) : sumL (L13.lnR (rs.take (m + 1))) = sumL (L13.lnR (rs.take m)) + r.bs.length := by
  obtain ⟨h1, h2⟩ := List.getElem?_eq_some_iff.1 h
  unfold sumL L13.lnR
  rw [List.take_succ_eq_append_getElem h1, h2]
  simp [L13.Rc.ln]
theorem sumL_le (rs : List L13.Rc) (h : ∀ r ∈ rs, r.bs.length ≤ 140737488351232) : sumL (L13.lnR rs) ≤ 140737488351232 * rs.length := by
  unfold sumL L13.lnR
  induction rs with
  | nil => exact Nat.le_refl _
  | cons x r ih =>
    have h1 := ih fun y hy => h y (List.mem_cons_of_mem _ hy)
    have h2 := h x (List.mem_cons_self ..)
    simp only [List.map_cons, List.sum_cons, List.length_cons, L13.Rc.ln] at h1 ⊢
    omega
theorem rec_range {w : World} {b o k : Nat} {r : L13.Rc} (h1 : w.cell? ⟨b, o + k * 2, none⟩ = some (.slice r.A r.bs.length r.c)) (h2 : w.cell? ⟨b, o + k * 2 + 1, none⟩ = some (.bool r.e)) : w.rangeAt b (o + k * 2) r.v := fun j v hj => by
  match j, hj with
  | 0, hj => injection hj with hj; subst hj; exact h1
  | 1, hj => injection hj with hj; subst hj; exact h2
set_option maxRecDepth 100000 in
set_option maxHeartbeats 4000000 in
theorem great_any (w : World) (D : Ds) (h : Ph) (X : Hid (XIn w D h)) {b : Bool} (hb : Hid (greatD D = b)) : Calls Tryz.prog 24 #[.agg (tmV D.t (dRest D h))] w fun e w' => e = .returned (.bool b) ∧ Hid (Below w.heap.size w w') := by
  have hsz : Hid ((Tryz.prog.info? 54).map (·.size) = some (tmV D.t (dRest D h)).size) := hid (by rw [tmV_size X.out.t]; exact sizeX16)
  have B0 : Hid (Box (w.alloc (.cells (tmV D.t (dRest D h)) 54)) w.heap.size 54 (tmV D.t (dRest D h))) := hid (Box.new w _ _)
  have K0 : Hid (Below w.heap.size w (w.alloc (.cells (tmV D.t (dRest D h)) 54))) := hid ((Below.refl _ w).alloc (Nat.le_refl _) _)
  obtain ⟨l1, hl1⟩ : ∃ q, Hid (D.line.length = q) := ⟨_, hid rfl⟩
  obtain ⟨l2, hl2⟩ : ∃ q, Hid (D.raw.length = q) := ⟨_, hid rfl⟩
  obtain ⟨l3, hl3⟩ : ∃ q, Hid (D.out.length = q) := ⟨_, hid rfl⟩
  obtain ⟨n, hn⟩ : ∃ q, Hid (D.ls.length = q) := ⟨_, hid rfl⟩
  have hb1 : l1 ≤ 140737488351232 := by have := X.out.sl; have := hl1.out; omega
  have hb2 : l2 ≤ 140737488351232 := by have := X.out.sr; have := hl2.out; omega
  have hb3 : l3 ≤ 140737488351232 := by have := X.out.so; have := hl3.out; omega
  have hqn : Hid (h.qs.length = n) := hid (by rw [← hn.out, ← X.out.lsq]; simp [L13.lnR])
  have hcap : n ≤ 9223372036854775807 := by have h1 := X.out.lsv.len; have h2 := X.out.lsv.cap; have h3 := hqn.out; unfold maxLen at h2; omega
  have F24 : Hid ((tmV D.t (dRest D h))[24]? = some (.slice h.lA l1 h.lc)) := hid ((tmV_back X.out.t (j := 0) rfl).trans (by rw [← hl1.out]))
  obtain ⟨nA, hnA⟩ : ∃ q, Hid (h.nA = q) := ⟨_, hid rfl⟩
  have F26 : Hid ((tmV D.t (dRest D h))[26]? = some (.slice nA n h.nc)) := hid ((tmV_back X.out.t (j := 2) rfl).trans (by rw [← hn.out, ← hnA.out]))
  have F27 : Hid ((tmV D.t (dRest D h))[27]? = some (.slice h.rA l2 h.rc)) := hid ((tmV_back X.out.t (j := 3) rfl).trans (by rw [← hl2.out]))
  have F30 : Hid ((tmV D.t (dRest D h))[30]? = some (.slice h.oA l3 h.oc)) := hid ((tmV_back X.out.t (j := 6) rfl).trans (by rw [← hl3.out]))
  have X0 := hid (X.out.grow K0.out)
  have HGB : Hid ((decide (12000 < l1 + l2 + l3 + sumL (L13.lnR h.qs)) || decide (2000 < n)) = b) := hid (by
    rw [← hb.out]
    unfold greatD
    rw [hl1.out, hl2.out, hl3.out, hn.out, X.out.lsq])
  generalize tmV D.t (dRest D h) = V at hsz B0 K0 F24 F26 F27 F30 X0 ⊢
  have c24 : World.cell? (w.alloc (.cells V 54)) ⟨w.heap.size, 24, none⟩ = _ := (B0.out.cell 24).trans F24.out
  have c26 : World.cell? (w.alloc (.cells V 54)) ⟨w.heap.size, 26, none⟩ = _ := (B0.out.cell 26).trans F26.out
  have c27 : World.cell? (w.alloc (.cells V 54)) ⟨w.heap.size, 27, none⟩ = _ := (B0.out.cell 27).trans F27.out
  have c30 : World.cell? (w.alloc (.cells V 54)) ⟨w.heap.size, 30, none⟩ = _ := (B0.out.cell 30).trans F30.out
  go_enter Tryz.func24, Tryz.ntmps24
  go_wp2_with (first
    | (refine bxT (by rfl) 54 _ (by rfl) _ (by rfl) hsz.out ?_))
  go_loopg [3, 20] n (fun gk a i wr => ∃ (m : Nat) (z : Int), m + gk = n ∧ i = .int .i64 m ∧ a = .int .i64 z ∧ Hid (n ≤ 2000 → z = ((l1 + l2 + l3 + sumL (L13.lnR (h.qs.take m)) : Nat) : Int)) ∧ Hid (Below (w.alloc (.cells V 54)).heap.size (w.alloc (.cells V 54)) wr))
  case atStart => exact ⟨0, _, by omega, rfl, rfl, hid (fun _ => by simp [sumL, L13.lnR]; try go_num), hid (Below.refl _ _)⟩
  case round =>
    obtain ⟨m, z, hm, rfl, rfl, HZ, K3⟩ := hrel
    have B3 := hid (box_below B0.out K3.out)
    by_cases hlt : m < n
    · have hki : (m : Int) < (n : Int) := by omega
      obtain ⟨b0, o0, r, hA, hr, q1, q2, hS⟩ := (X0.out.grow K3.out).lsv.at (k := m) (by have := hqn.out; omega)
      obtain rfl : nA = some ⟨b0, o0, none⟩ := hnA.out.symm.trans hA
      have HR := hid hr
      have hsm := X.out.sq r (List.mem_of_getElem? hr)
      have hrg := hid (rec_range q1 q2)
      have hi2 : Hid ((Tryz.prog.info? 131).map (·.size) = some r.v.length) := hid sizeL16
      have hi3 : Hid ((Tryz.prog.info? 131).map (·.size) = some r.v.toArray.size) := hid sizeL16
      have hone : Hid (r.v.toArray.all (·.oneCell') = true) := hid (by simp [L13.Rc.v, Value.oneCell'])
      clear q1 q2 hS hr
      go_wp2_with (first
        | (refine ldM (by rfl) 131 Tryz.underlying131 _ (by rfl) b0 (o0 + m * 2) (by rfl) r.v hrg hi2 ?_)
        | (refine snX (by rfl) 131 _ _ (by rfl) wr _ rfl rfl r.v.toArray (by rfl) hi3 rfl hone ?_
           intro v4 X4 k4
           have K4 := hid (K3.out.trans (k4.out.mono K3.out.size))
           have c0 : World.cell? v4 ⟨wr.heap.size, 0, none⟩ = some (.slice r.A r.bs.length r.c) := by have := X4.out.cell 0; exact this))
      go_roundg (gk - 1)
      case measure => omega
      case rel => exact ⟨m + 1, wrap64 (z + (r.bs.length : Int)), by omega, by go_num, rfl, hid (fun h2000 => by
        rw [sumL_at HR.out, HZ.out h2000]
        unfold wrap64
        have h1 := sumL_le (h.qs.take m) (fun r hr => X.out.sq r (List.mem_of_mem_take hr))
        have h2 := List.length_take_le m h.qs
        omega), K4⟩
    · obtain rfl : m = n := by omega
      have hki : ¬ (m : Int) < (m : Int) := by omega
      have e26 : World.cell? wr ⟨w.heap.size, 26, none⟩ = some (.slice nA m h.nc) := (B3.out.cell 26).trans F26.out
      have KF := hid (K0.out.trans (K3.out.mono K0.out.size))
      by_cases h2 : 2000 < m
      · obtain rfl : true = b := by rw [← HGB.out, decide_eq_true h2, Bool.or_true]
        have q2 : (m : Int) > 2000 := by omega
        by_cases h1 : z > 12000
        · go_wp2_with fail
          go_ret
          exact ⟨rfl, KF⟩
        · go_wp2_with fail
          go_ret
          exact ⟨rfl, KF⟩
      · have q2 : ¬ (m : Int) > 2000 := by omega
        have hz := HZ.out (by omega)
        rw [List.take_of_length_le (by have := hqn.out; omega)] at hz
        have HZZ := hid hz
        clear hz HZ
        by_cases h1 : 12000 < l1 + l2 + l3 + sumL (L13.lnR h.qs)
        · obtain rfl : true = b := by rw [← HGB.out, decide_eq_true h1, Bool.true_or]
          have q1 : z > 12000 := by have := HZZ.out; omega
          go_wp2_with fail
          go_ret
          exact ⟨rfl, KF⟩
        · obtain rfl : false = b := by rw [← HGB.out, decide_eq_false h1, decide_eq_false h2]; rfl
          have q1 : ¬ z > 12000 := by have := HZZ.out; omega
          go_wp2_with fail
          go_ret
          exact ⟨rfl, KF⟩
end Go.Proofs.YtggcampdkgfmgaaGreat
