import Derived.Test.YtggcampdkgfmgaaGreatTI
import Derived.Test.YtggcampdkgfmgaaGreatQT
namespace Go.Proofs.YtggcampdkgfmgaaGreat
open Go.RowKit

/-! Layer 17: steps that came in; terminals that came in. -/
structure Op17 where
  k : Int
  n : Int
  m : Int
  A : Option Addr
  c : Nat
  b : List UInt8
  t : Tm
  z : Sz
def opC17 (o : Op17) : List Value := [.int .i64 o.k, .int .i64 o.n, .int .i64 o.m, .slice o.A o.b.length o.c] ++ o.t.cl ++ o.z.cl
theorem opC17_len {o : Op17} (h : o.t.Ok) : (opC17 o).length = 32 := by simp [opC17, cl_len h.len, Sz.cl]
structure OpOk17 (w : World) (o : Op17) : Prop where
  t : o.t.Ok
  n : i64ok o.n
  m : i64ok o.m
  b : SlB w w.heap.size o.A o.c o.b
  small : o.b.length ≤ 140737488351232
structure OpsIn17 (w : World) (A : Option Addr) (c : Nat) (ops : List Op17) : Prop where
  len : ops.length ≤ c
  cap : c ≤ maxLen
  nil : A = none → c = 0
  lies : Lies w w.heap.size A (ops.map opC17).flatten
  ok : ∀ o ∈ ops, OpOk17 w o
theorem OpOk17.grow {w w' : World} {o : Op17} (H : OpOk17 w o) (k : Below w.heap.size w w') : OpOk17 w' o := ⟨H.t, H.n, H.m, (slb_at (hid H.b) (hid k)).out, H.small⟩
theorem OpsIn17.grow {w w' : World} {A : Option Addr} {c : Nat} {ops : List Op17} (H : OpsIn17 w A c ops) (k : Below w.heap.size w w') : OpsIn17 w' A c ops :=
  ⟨H.len, H.cap, H.nil, (H.lies.below k).more k.size, fun o ho => (H.ok o ho).grow k⟩
theorem ops17_at {ops : List Op17} (hok : ∀ o ∈ ops, o.t.Ok) : ∀ {k : Nat} {o : Op17}, ops[k]? = some o → ∀ (j : Nat) (v : Value), (opC17 o)[j]? = some v → ((ops.map opC17).flatten)[k * 32 + j]? = some v := by
  induction ops with
  | nil => intro k o h; simp at h
  | cons x r ih =>
    intro k o h j v hj
    have hx := opC17_len (hok x (List.mem_cons_self ..))
    simp only [List.map_cons, List.flatten_cons]
    cases k with
    | zero =>
      simp at h
      subst h
      have : j < (opC17 x).length := (List.getElem?_eq_some_iff.1 hj).1
      rw [List.getElem?_append_left (by omega)]
      simpa using hj
    | succ k =>
      rw [List.getElem?_append_right (by omega), hx, show (k + 1) * 32 + j - 32 = k * 32 + j by omega]
      exact ih (fun o ho => hok o (List.mem_cons_of_mem _ ho)) (by simpa using h) j v hj
/-- One of them. -/
theorem OpsIn17.at_ {w : World} {A : Option Addr} {c : Nat} {ops : List Op17} (H : OpsIn17 w A c ops) {k : Nat} (hk : k < ops.length) : ∃ b o op, A = some ⟨b, o, none⟩ ∧ ops[k]? = some op ∧ w.rangeAt b (o + k * 32) (opC17 op) ∧ OpOk17 w op := by
  have hne : (ops.map opC17).flatten ≠ [] := by
    intro e
    have h1 := ops17_at (fun o ho => (H.ok o ho).t) (k := k) (o := ops[k]) (List.getElem?_eq_getElem hk) 0 _ rfl
    rw [e] at h1
    cases h1
  obtain ⟨b, o, rfl, _, hc⟩ := H.lies hne
  refine ⟨b, o, ops[k], rfl, List.getElem?_eq_getElem hk, fun j v hj => ?_, H.ok _ (List.getElem_mem hk)⟩
  have := hc _ v (ops17_at (fun o ho => (H.ok o ho).t) (List.getElem?_eq_getElem hk) j v hj)
  rwa [Nat.add_assoc]
def opV17 (o : Op17) : Array Value := (opC17 o).toArray
theorem opV17_size {o : Op17} (h : o.t.Ok) : (opV17 o).size = 32 := by simp [opV17, opC17_len h]
theorem opV17_one {o : Op17} : (opV17 o).all (·.oneCell') = true := by
  refine Array.all_eq_true_iff_forall_mem.2 fun v hv => ?_
  simp only [opV17, opC17, Sz.cl, List.mem_toArray, List.mem_append, List.mem_cons, List.not_mem_nil, or_false] at hv
  rcases hv with ((rfl | rfl | rfl | rfl) | hv) | (rfl | rfl | rfl | rfl)
  · rfl
  · rfl
  · rfl
  · rfl
  · have h1 := cs_one o.t
    rw [Array.all_eq_true_iff_forall_mem] at h1
    exact h1 v (by simpa [Tm.cs] using hv)
  · rfl
  · rfl
  · rfl
  · rfl
theorem sizeOp17 : (Tryz.prog.info? 111).map (·.size) = some 32 := by kernel_rfl
def minSum17 (ops : List Op17) : Nat := (ops.map fun o => min o.b.length 100000).sum
theorem minSum17_at {ops : List Op17} {m : Nat} {o : Op17} (h : ops[m]? = some o) : minSum17 (ops.take (m + 1)) = minSum17 (ops.take m) + min o.b.length 100000 := by
  obtain ⟨h1, h2⟩ := List.getElem?_eq_some_iff.1 h
  unfold minSum17
  rw [List.take_succ_eq_append_getElem h1, h2, List.map_append, List.sum_append]
  simp
theorem minSum17_le (ops : List Op17) : minSum17 ops ≤ 100000 * ops.length := by
  unfold minSum17
  induction ops with
  | nil => exact Nat.le_refl _
  | cons x r ih => simp only [List.map_cons, List.sum_cons, List.length_cons] at ih ⊢; omega
def greatP (D : Ds) (ops : List Op17) : Bool := decide (12000 < D.line.length + D.raw.length + D.out.length + sumL D.ls + minSum17 ops) || decide (60 < ops.length) || decide (2000 < D.ls.length)
theorem greatP_disc {D : Ds} {ops : List Op17} (h : greatP D ops = false) : greatD D = false := by
  unfold greatP at h
  unfold greatD
  simp only [Bool.or_eq_false_iff, decide_eq_false_iff_not] at h ⊢
  omega
theorem greatP_small {D : Ds} {ops : List Op17} (h : greatP D ops = false) {o : Op17} (ho : o ∈ ops) : o.b.length ≤ 12000 := by
  unfold greatP at h
  simp only [Bool.or_eq_false_iff, decide_eq_false_iff_not] at h
  have : min o.b.length 100000 ≤ minSum17 ops := by
    unfold minSum17
    clear h
    induction ops with
    | nil => cases ho
    | cons x r ih =>
      simp only [List.map_cons, List.sum_cons]
      rcases List.mem_cons.1 ho with rfl | ho
      · omega
      · have := ih ho; omega
  omega
theorem sizeP17 : (Tryz.prog.info? 105).map (·.size) = some 42 := by kernel_rfl
/-- What stands behind the discipline. -/
def pRest (z : Sz) (ss gp sl : Int) (hu : Bool) : List Value := [.int .u32 (z.a : Int), .int .u32 (z.b : Int), .int .u32 (z.c : Int), .int .u32 (z.e : Int), .int .i64 ss, .int .i64 gp, .int .i64 sl, .bool hu]
def ptV (D : Ds) (h : Ph) (z : Sz) (ss gp sl : Int) (hu : Bool) : Array Value := tmV D.t (dRest D h ++ pRest z ss gp sl hu)
theorem ptV_size {D : Ds} {h : Ph} {z : Sz} {ss gp sl : Int} {hu : Bool} (ht : D.t.Ok) : (ptV D h z ss gp sl hu).size = 42 := by
  simp [ptV, tmV, cl_len ht.len, dRest, pRest]
theorem ptV_back {D : Ds} {h : Ph} {z : Sz} {ss gp sl : Int} {hu : Bool} (ht : D.t.Ok) {j : Nat} {v : Value} (hv : (dRest D h ++ pRest z ss gp sl hu)[j]? = some v) : (ptV D h z ss gp sl hu)[24 + j]? = some v := tmV_back ht hv
theorem ptV_disc {D : Ds} {h : Ph} {z : Sz} {ss gp sl : Int} {hu : Bool} (_ht : D.t.Ok) {j : Nat} {v : Value} (hv : (D.t.cl ++ dRest D h)[j]? = some v) : (ptV D h z ss gp sl hu)[j]? = some v := by
  unfold ptV tmV
  rw [List.getElem?_toArray, ← List.append_assoc, List.getElem?_append_left (List.getElem?_eq_some_iff.1 hv).1]
  exact hv
theorem ptV_one {D : Ds} {h : Ph} {z : Sz} {ss gp sl : Int} {hu : Bool} : (ptV D h z ss gp sl hu).all (·.oneCell') = true := by
  refine Array.all_eq_true_iff_forall_mem.2 fun v hv => ?_
  simp only [ptV, tmV, dRest, pRest, List.mem_toArray, List.mem_append, List.mem_cons, List.not_mem_nil, or_false] at hv
  rcases hv with hv | hv
  · have h1 := cs_one D.t
    rw [Array.all_eq_true_iff_forall_mem] at h1
    exact h1 v (by simpa [Tm.cs] using hv)
  · rcases hv with (rfl | rfl | rfl | rfl | rfl | rfl | rfl | rfl | rfl | rfl) | (rfl | rfl | rfl | rfl | rfl | rfl | rfl | rfl) <;> rfl
set_option maxRecDepth 100000 in
set_option maxHeartbeats 8000000 in
theorem great17_any (w : World) (D : Ds) (h : Ph) (z : Sz) (ss gp sl : Int) (hu : Bool) (X : Hid (XIn w D h)) (oA : Option Addr) (oc on : Nat) (ops : List Op17) (hO : Hid (OpsIn17 w oA oc ops)) (hon : Hid (ops.length = on)) {b : Bool} (hb : Hid (greatP D ops = b)) : Calls Tryz.prog 45 #[.agg (ptV D h z ss gp sl hu), .slice oA on oc] w fun e w' => e = .returned (.bool b) ∧ Hid (Below w.heap.size w w') := by
  have hsz : Hid ((Tryz.prog.info? 105).map (·.size) = some (ptV D h z ss gp sl hu).size) := hid (by rw [ptV_size X.out.t]; exact sizeP17)
  have B0 : Hid (Box (w.alloc (.cells (ptV D h z ss gp sl hu) 105)) w.heap.size 105 (ptV D h z ss gp sl hu)) := hid (Box.new w _ _)
  have K0 : Hid (Below w.heap.size w (w.alloc (.cells (ptV D h z ss gp sl hu) 105))) := hid ((Below.refl _ w).alloc (Nat.le_refl _) _)
  obtain ⟨l1, hl1⟩ : ∃ q, Hid (D.line.length = q) := ⟨_, hid rfl⟩
  obtain ⟨l2, hl2⟩ : ∃ q, Hid (D.raw.length = q) := ⟨_, hid rfl⟩
  obtain ⟨l3, hl3⟩ : ∃ q, Hid (D.out.length = q) := ⟨_, hid rfl⟩
  obtain ⟨n, hn⟩ : ∃ q, Hid (D.ls.length = q) := ⟨_, hid rfl⟩
  have hb1 : l1 ≤ 140737488351232 := by have := X.out.sl; have := hl1.out; omega
  have hb2 : l2 ≤ 140737488351232 := by have := X.out.sr; have := hl2.out; omega
  have hb3 : l3 ≤ 140737488351232 := by have := X.out.so; have := hl3.out; omega
  have hqn : Hid (h.qs.length = n) := hid (by rw [← hn.out, ← X.out.lsq]; simp [L13.lnR])
  have hcap : n ≤ 9223372036854775807 := by have h1 := X.out.lsv.len; have h2 := X.out.lsv.cap; have h3 := hqn.out; unfold maxLen at h2; omega
  have hcap2 : on ≤ 9223372036854775807 := by have h1 := hO.out.len; have h2 := hO.out.cap; have h3 := hon.out; unfold maxLen at h2; omega
  have F24 : Hid ((ptV D h z ss gp sl hu)[24]? = some (.slice h.lA l1 h.lc)) := hid ((ptV_back X.out.t (j := 0) rfl).trans (by rw [← hl1.out]))
  obtain ⟨nA, hnA⟩ : ∃ q, Hid (h.nA = q) := ⟨_, hid rfl⟩
  have F26 : Hid ((ptV D h z ss gp sl hu)[26]? = some (.slice nA n h.nc)) := hid ((ptV_back X.out.t (j := 2) rfl).trans (by rw [← hn.out, ← hnA.out]))
  have F27 : Hid ((ptV D h z ss gp sl hu)[27]? = some (.slice h.rA l2 h.rc)) := hid ((ptV_back X.out.t (j := 3) rfl).trans (by rw [← hl2.out]))
  have F30 : Hid ((ptV D h z ss gp sl hu)[30]? = some (.slice h.oA l3 h.oc)) := hid ((ptV_back X.out.t (j := 6) rfl).trans (by rw [← hl3.out]))
  have X0 := hid (X.out.grow K0.out)
  have O0 := hid (hO.out.grow K0.out)
  have HGB : Hid ((decide (12000 < l1 + l2 + l3 + sumL (L13.lnR h.qs) + minSum17 ops) || decide (60 < on) || decide (2000 < n)) = b) := hid (by
    rw [← hb.out]
    unfold greatP
    rw [hl1.out, hl2.out, hl3.out, hn.out, X.out.lsq, hon.out])
  generalize ptV D h z ss gp sl hu = V at hsz B0 K0 F24 F26 F27 F30 X0 O0 ⊢
  generalize hv0 : World.alloc w (.cells V 105) = v at B0 K0 X0 O0
  have c24 : World.cell? v ⟨w.heap.size, 24, none⟩ = _ := (B0.out.cell 24).trans F24.out
  have c26 : World.cell? v ⟨w.heap.size, 26, none⟩ = _ := (B0.out.cell 26).trans F26.out
  have c27 : World.cell? v ⟨w.heap.size, 27, none⟩ = _ := (B0.out.cell 27).trans F27.out
  have c30 : World.cell? v ⟨w.heap.size, 30, none⟩ = _ := (B0.out.cell 30).trans F30.out
  go_enter Tryz.func45, Tryz.ntmps45
  go_wp2_with (first
    | (refine bxT (by rfl) 105 _ (by rfl) _ (by rfl) hsz.out ?_
       rw [hv0]))
  go_loopg [5, 28] n (fun gk a i wr => ∃ (m : Nat) (y : Int), m + gk = n ∧ i = .int .i64 m ∧ a = .int .i64 y ∧ Hid (n ≤ 2000 → y = ((l1 + l2 + l3 + sumL (L13.lnR (h.qs.take m)) : Nat) : Int)) ∧ Hid (Below v.heap.size v wr))
  case atStart => exact ⟨0, _, by omega, rfl, rfl, hid (fun _ => by simp [sumL, L13.lnR]; try go_num), hid (Below.refl _ _)⟩
  case round =>
    obtain ⟨m, y, hm, rfl, rfl, HZ, K3⟩ := hrel
    have B3 := hid (box_below B0.out K3.out)
    by_cases hlt : m < n
    · have hki : (m : Int) < (n : Int) := by omega
      obtain ⟨b0, o0, r, hA, hr, q1, q2, hS⟩ := (X0.out.grow K3.out).lsv.at (k := m) (by have := hqn.out; omega)
      obtain rfl : nA = some ⟨b0, o0, none⟩ := hnA.out.symm.trans hA
      have HR := hid hr
      have hsm := X.out.sq r (List.mem_of_getElem? hr)
      have hrg := hid (rec_range q1 q2)
      have hi2 : Hid ((Tryz.prog.info? 131).map (·.size) = some r.v.length) := hid sizeL16
      have hi3 : Hid ((Tryz.prog.info? 131).map (·.size) = some r.v.toArray.size) := hid sizeL16
      have hone : Hid (r.v.toArray.all (·.oneCell') = true) := hid (by simp [L13.Rc.v, Value.oneCell'])
      clear q1 q2 hS hr c24 c26 c27 c30
      go_wp2_with (first
        | (refine ldM (by rfl) 131 Tryz.underlying131 _ (by rfl) b0 (o0 + m * 2) (by rfl) r.v hrg hi2 ?_)
        | (refine snX (by rfl) 131 _ _ (by rfl) wr _ rfl rfl r.v.toArray (by rfl) hi3 rfl hone ?_
           intro v4 X4 k4
           have K4 := hid (K3.out.trans (k4.out.mono K3.out.size))
           have c0 : World.cell? v4 ⟨wr.heap.size, 0, none⟩ = some (.slice r.A r.bs.length r.c) := by have := X4.out.cell 0; exact this))
      go_roundg (gk - 1)
      case measure => omega
      case rel => exact ⟨m + 1, wrap64 (y + (r.bs.length : Int)), by omega, by go_num, rfl, hid (fun h2000 => by
        rw [sumL_at HR.out, HZ.out h2000]
        unfold wrap64
        have h1 := sumL_le (h.qs.take m) (fun r hr => X.out.sq r (List.mem_of_mem_take hr))
        have h2 := List.length_take_le m h.qs
        omega), K4⟩
    · obtain rfl : m = n := by omega
      have hki : ¬ (m : Int) < (m : Int) := by omega
      have hz : Hid (m ≤ 2000 → y = ((l1 + l2 + l3 + sumL (L13.lnR h.qs) : Nat) : Int)) := hid (fun h2 => by
        have := HZ.out h2
        rwa [List.take_of_length_le (by have := hqn.out; omega)] at this)
      have hsb : m ≤ 2000 → sumL (L13.lnR h.qs) ≤ 281474976702464000 := fun h2 => by
        have h1 := sumL_le h.qs (fun r hr => X.out.sq r hr)
        have h3 := hqn.out
        have h4 : h.qs.length ≤ 2000 := by omega
        have h5 := Nat.mul_le_mul_left 140737488351232 h4
        omega
      replace hsb := hid hsb
      clear HZ c24 c26 c27 c30
      obtain ⟨v2, hv2⟩ : ∃ v2, v2 = wr := ⟨_, rfl⟩
      subst hv2
      go_wp2_with fail
      go_loopg [5, 40] on (fun gk a i wr => ∃ (k : Nat) (x : Int), k + gk = on ∧ i = .int .i64 k ∧ a = .int .i64 x ∧ Hid (m ≤ 2000 → on ≤ 60 → x = ((l1 + l2 + l3 + sumL (L13.lnR h.qs) + minSum17 (ops.take k) : Nat) : Int)) ∧ Hid (Below v2.heap.size v2 wr))
      case atStart => exact ⟨0, _, by omega, rfl, rfl, hid (fun h1 _ => by rw [hz.out h1]; simp [minSum17]), hid (Below.refl _ _)⟩
      case round =>
        obtain ⟨k, x, hk, rfl, rfl, HX, K5⟩ := hrel
        have B5 := hid (box_below B3.out K5.out)
        by_cases hlt2 : k < on
        · have hki2 : (k : Int) < (on : Int) := by omega
          obtain ⟨b1, o1, op, hA1, hop, hr1, hok⟩ := ((O0.out.grow K3.out).grow K5.out).at_ (k := k) (by have := hon.out; omega)
          subst hA1
          have hr1 := hid hr1
          have HOP := hid hop
          have hi32 : Hid ((Tryz.prog.info? 111).map (·.size) = some (opC17 op).length) := hid (by rw [opC17_len hok.t]; exact sizeOp17)
          have hi33 : Hid ((Tryz.prog.info? 111).map (·.size) = some (opV17 op).size) := hid (by rw [opV17_size hok.t]; exact sizeOp17)
          have hszo : (opV17 op).size = 32 := opV17_size hok.t
          have hsm := hok.small
          obtain ⟨q, hq⟩ : ∃ q : Nat, Hid (min op.b.length 100000 = q) := ⟨_, hid rfl⟩
          have hmin : min (op.b.length : Int) 100000 = (q : Int) := by have := hq.out; omega
          have hmin2 : min 100000 (op.b.length : Int) = (q : Int) := by have := hq.out; omega
          clear hop hok
          go_wp2_with (first
            | (refine ldM (by rfl) 111 Tryz.underlying111 _ (by rfl) b1 (o1 + k * 32) (by rfl) (opC17 op) hr1 hi32 ?_)
            | (refine snX (by rfl) 111 _ _ (by rfl) wr _ rfl rfl (opV17 op) (by rfl) hi33 hszo.symm (hid opV17_one) ?_
               intro v6 X6 k6
               have K6 := bel_t K5 k6.out
               have c3 : World.cell? v6 ⟨wr.heap.size, 3, none⟩ = some (.slice op.A op.b.length op.c) := by have := X6.out.cell 3; exact this))
          go_roundg (gk - 1)
          case measure => omega
          case rel => exact ⟨k + 1, wrap64 (x + (q : Int)), by omega, by go_num, rfl, hid (fun h1 h60 => by
            rw [minSum17_at HOP.out, hq.out, HX.out h1 h60]
            unfold wrap64
            have h3 : minSum17 (ops.take k) ≤ 6000000 := by
              have h1 := minSum17_le (ops.take k)
              have h2 := List.length_take_le k ops
              omega
            have h4 : q ≤ 100000 := by have := hq.out; omega
            have h5 := hsb.out h1
            omega), K6⟩
        · obtain rfl : k = on := by omega
          have hki2 : ¬ (k : Int) < (k : Int) := by omega
          have c26 : World.cell? wr ⟨w.heap.size, 26, none⟩ = some (.slice nA m h.nc) := (B5.out.cell 26).trans F26.out
          have hx : Hid (m ≤ 2000 → k ≤ 60 → x = ((l1 + l2 + l3 + sumL (L13.lnR h.qs) + minSum17 ops : Nat) : Int)) := hid (fun h1 h2 => by
            have := HX.out h1 h2
            rwa [List.take_of_length_le (by have := hon.out; omega)] at this)
          have KF := hid (K0.out.trans ((K3.out.trans (K5.out.mono K3.out.size)).mono K0.out.size))
          clear HX
          by_cases q1 : x > 12000
          · obtain rfl : true = b := by
              rw [← HGB.out]
              by_cases q2 : 60 < k
              · rw [decide_eq_true q2]; simp
              · by_cases q3 : 2000 < m
                · rw [decide_eq_true q3]; simp
                · have := hx.out (by omega) (by omega)
                  rw [decide_eq_true (show 12000 < l1 + l2 + l3 + sumL (L13.lnR h.qs) + minSum17 ops by omega)]; simp
            go_wp2_with fail
            go_ret
            exact ⟨rfl, KF⟩
          · by_cases q2 : 60 < k
            · obtain rfl : true = b := by rw [← HGB.out, decide_eq_true q2]; simp
              have q2i : (k : Int) > 60 := by omega
              go_wp2_with fail
              go_ret
              exact ⟨rfl, KF⟩
            · have q2i : ¬ (k : Int) > 60 := by omega
              by_cases q3 : 2000 < m
              · obtain rfl : true = b := by rw [← HGB.out, decide_eq_true q3]; simp
                have q3i : (m : Int) > 2000 := by omega
                go_wp2_with fail
                go_ret
                exact ⟨rfl, KF⟩
              · have q3i : ¬ (m : Int) > 2000 := by omega
                obtain rfl : false = b := by
                  have := hx.out (by omega) (by omega)
                  rw [← HGB.out, decide_eq_false q2, decide_eq_false q3, decide_eq_false (show ¬ 12000 < l1 + l2 + l3 + sumL (L13.lnR h.qs) + minSum17 ops by omega)]
                  rfl
                go_wp2_with fail
                go_ret
                exact ⟨rfl, KF⟩
end Go.Proofs.YtggcampdkgfmgaaGreat
