import Derived.Test.YtggcampdkgfmgaaGreatTO
namespace Go.Proofs.YtggcampdkgfmgaaGreat
open Go.RowKit

/-! Layer 17: PtyEvents, the walk. -/
/-- One of six signals. -/
def sixS (s : Int) : Prop := s = 1 ∨ s = 18 ∨ s = 2 ∨ s = 3 ∨ s = 20 ∨ s = 28
theorem evs_ok {gp : Int} {l : List Int} (h : ∀ s ∈ l, sixS s) : ∀ x ∈ evs gp l, gp ≠ 0 ∧ x.1 = gp ∧ sixS x.2 := by
  unfold evs
  split
  · intro x hx; cases hx
  · rename_i h0
    intro x hx
    obtain ⟨s, hs, rfl⟩ := List.mem_map.1 hx
    exact ⟨h0, rfl, h s hs⟩
theorem typeM_six (D : Ds) : ∀ b : List UInt8, ∀ s ∈ (typeM D b).2.2, sixS s
  | [] => fun s hs => by cases hs
  | c :: r => by
    unfold typeM
    split
    · intro s hs; cases hs
    · intro s hs
      rcases List.mem_append.1 hs with h | h
      · rcases inputD_sig D c with k | ⟨_, _, _, k | k | k⟩
        · rw [k] at h; cases h
        · rw [k.1] at h; obtain rfl := List.mem_singleton.1 h; exact .inr (.inr (.inl rfl))
        · rw [k.1] at h; obtain rfl := List.mem_singleton.1 h; exact .inr (.inr (.inr (.inl rfl)))
        · rw [k.1] at h; obtain rfl := List.mem_singleton.1 h; exact .inr (.inr (.inr (.inr (.inl rfl))))
      · exact typeM_six (inputD D c).1 r s h
theorem Jv.type {D : Ds} (h : Jv D) : ∀ b : List UInt8, Jv (typeM D b).1
  | [] => h
  | c :: r => by
    unfold typeM
    split
    · exact h
    · exact (h.input c).type r
theorem doP_ev (P : Ps) (o : Op17) : ∀ x ∈ (doP P o).2.2.2.2, P.gp ≠ 0 ∧ x.1 = P.gp ∧ sixS x.2 := by
  unfold doP
  by_cases k1 : o.k = 1
  · rw [if_pos k1]
    show ∀ x ∈ (mwP P o.b).2.2, _
    unfold mwP
    split
    · intro x hx; cases hx
    · exact evs_ok (typeM_six P.d o.b)
  rw [if_neg k1]
  by_cases k2 : o.k = 2
  · rw [if_pos k2]; intro x hx; cases hx
  rw [if_neg k2]
  by_cases k3 : o.k = 3
  · rw [if_pos k3]; intro x hx; cases hx
  rw [if_neg k3]
  by_cases k4 : o.k = 4
  · rw [if_pos k4]; intro x hx; cases hx
  rw [if_neg k4]
  by_cases k5 : o.k = 5
  · rw [if_pos k5]; intro x hx; cases hx
  rw [if_neg k5]
  by_cases k6 : o.k = 6
  · rw [if_pos k6]; intro x hx; cases hx
  rw [if_neg k6]
  by_cases k7 : o.k = 7
  · rw [if_pos k7]; intro x hx; cases hx
  rw [if_neg k7]
  by_cases k8 : o.k = 8
  · rw [if_pos k8]
    show ∀ x ∈ (sizeP P o.z).2, _
    unfold sizeP
    split
    · intro x hx; cases hx
    · exact evs_ok (fun s hs => by obtain rfl := List.mem_singleton.1 hs; exact .inr (.inr (.inr (.inr (.inr rfl)))))
  rw [if_neg k8]
  by_cases k9 : o.k = 9
  · rw [if_pos k9]; intro x hx; cases hx
  rw [if_neg k9]
  by_cases k10 : o.k = 10
  · rw [if_pos k10]; intro x hx; cases hx
  rw [if_neg k10]
  by_cases k11 : o.k = 11
  · rw [if_pos k11]
    show ∀ x ∈ (hangP P).2, _
    unfold hangP
    split
    · intro x hx; cases hx
    · refine evs_ok (fun s hs => ?_)
      rcases List.mem_cons.1 hs with rfl | hs
      · exact .inl rfl
      · obtain rfl := List.mem_singleton.1 hs; exact .inr (.inl rfl)
  rw [if_neg k11]
  intro x hx
  cases hx
theorem evs_lenP (gp : Int) (l : List Int) : (evs gp l).length ≤ l.length := by
  unfold evs
  split
  · exact Nat.zero_le _
  · rw [List.length_map]; exact Nat.le_refl _
theorem typeM_len (D : Ds) : ∀ b : List UInt8, (typeM D b).2.2.length ≤ b.length
  | [] => Nat.le_refl _
  | c :: r => by
    unfold typeM
    split
    · exact Nat.zero_le _
    · have h1 : (inputD D c).2.length ≤ 1 := by
        rcases inputD_sig D c with k | ⟨_, _, _, k | k | k⟩
        · rw [k]; exact Nat.zero_le _
        · rw [k.1]; exact Nat.le_refl _
        · rw [k.1]; exact Nat.le_refl _
        · rw [k.1]; exact Nat.le_refl _
      have h2 := typeM_len (inputD D c).1 r
      show ((inputD D c).2 ++ (typeM (inputD D c).1 r).2.2).length ≤ _
      rw [List.length_append, List.length_cons]
      omega
theorem doP_evlen (P : Ps) (o : Op17) : (doP P o).2.2.2.2.length ≤ o.b.length + 2 := by
  unfold doP
  by_cases k1 : o.k = 1
  · rw [if_pos k1]
    show (mwP P o.b).2.2.length ≤ _
    unfold mwP
    split
    · exact Nat.zero_le _
    · exact Nat.le_trans (evs_lenP _ _) (Nat.le_trans (typeM_len P.d o.b) (Nat.le_add_right _ _))
  rw [if_neg k1]
  by_cases k2 : o.k = 2
  · rw [if_pos k2]; exact Nat.zero_le _
  rw [if_neg k2]
  by_cases k3 : o.k = 3
  · rw [if_pos k3]; exact Nat.zero_le _
  rw [if_neg k3]
  by_cases k4 : o.k = 4
  · rw [if_pos k4]; exact Nat.zero_le _
  rw [if_neg k4]
  by_cases k5 : o.k = 5
  · rw [if_pos k5]; exact Nat.zero_le _
  rw [if_neg k5]
  by_cases k6 : o.k = 6
  · rw [if_pos k6]; exact Nat.zero_le _
  rw [if_neg k6]
  by_cases k7 : o.k = 7
  · rw [if_pos k7]; exact Nat.zero_le _
  rw [if_neg k7]
  by_cases k8 : o.k = 8
  · rw [if_pos k8]
    show (sizeP P o.z).2.length ≤ _
    unfold sizeP
    split
    · exact Nat.zero_le _
    · exact Nat.le_trans (evs_lenP _ _) (by simp)
  rw [if_neg k8]
  by_cases k9 : o.k = 9
  · rw [if_pos k9]; exact Nat.zero_le _
  rw [if_neg k9]
  by_cases k10 : o.k = 10
  · rw [if_pos k10]; exact Nat.zero_le _
  rw [if_neg k10]
  by_cases k11 : o.k = 11
  · rw [if_pos k11]
    show (hangP P).2.length ≤ _
    unfold hangP
    split
    · exact Nat.zero_le _
    · exact Nat.le_trans (evs_lenP _ _) (by simp)
  rw [if_neg k11]
  exact Nat.zero_le _
theorem doP_jv {P : Ps} (h : Jv P.d) {o : Op17} (ht : o.t.Ok) : Jv (doP P o).1.d := by
  unfold doP
  by_cases k1 : o.k = 1
  · rw [if_pos k1]
    show Jv (mwP P o.b).1.d
    unfold mwP
    split
    · exact h
    · exact h.type o.b
  rw [if_neg k1]
  by_cases k2 : o.k = 2
  · rw [if_pos k2]
    show Jv (mrP P o.n).1.d
    unfold mrP
    split
    · exact h
    · exact h.output o.n
  rw [if_neg k2]
  by_cases k3 : o.k = 3
  · rw [if_pos k3]
    show Jv (openP P).1.d
    unfold openP
    split <;> exact h
  rw [if_neg k3]
  by_cases k4 : o.k = 4
  · rw [if_pos k4]
    show Jv (closeP P).1.d
    unfold closeP
    split <;> exact h
  rw [if_neg k4]
  by_cases k5 : o.k = 5
  · rw [if_pos k5]
    show Jv (rdP P o.n o.m).1.d
    unfold rdP
    split
    · exact h
    · exact h.read o.n o.m
  rw [if_neg k5]
  by_cases k6 : o.k = 6
  · rw [if_pos k6]
    show Jv (wrP P o.b).1.d
    unfold wrP
    split
    · exact h
    · exact h.write o.b
  rw [if_neg k6]
  by_cases k7 : o.k = 7
  · rw [if_pos k7]
    show Jv (satP P o.n o.t).1.d
    unfold satP
    split
    · exact h
    · split
      · exact h
      · split
        · exact h
        · split
          · exact h
          · split
            · exact (h.flush 1).set ht
            · exact h.set ht
  rw [if_neg k7]
  by_cases k8 : o.k = 8
  · rw [if_pos k8]
    show Jv (sizeP P o.z).1.d
    rw [(sizeP_gp P o.z).2.2.2]
    exact h
  rw [if_neg k8]
  by_cases k9 : o.k = 9
  · rw [if_pos k9]
    show Jv (bindP P o.n o.m).1.d
    unfold bindP
    split
    · exact h
    · split <;> exact h
  rw [if_neg k9]
  by_cases k10 : o.k = 10
  · rw [if_pos k10]
    show Jv (groupP P o.n).1.d
    unfold groupP
    split
    · exact h
    · split <;> exact h
  rw [if_neg k10]
  by_cases k11 : o.k = 11
  · rw [if_pos k11]
    show Jv (hangP P).1.d
    unfold hangP
    split
    · exact h
    · exact h.flush 3
  rw [if_neg k11]
  exact h
def sixA : Array Value := #[.int .i64 1, .int .i64 18, .int .i64 2, .int .i64 3, .int .i64 20, .int .i64 28]
def sixL : List Int := [1, 18, 2, 3, 20, 28]
theorem six_at {k : Nat} (hk : k < 6) : sixA[k]? = some (.int .i64 (sixL.getD k 0)) := by
  match k, hk with
  | 0, _ => rfl
  | 1, _ => rfl
  | 2, _ => rfl
  | 3, _ => rfl
  | 4, _ => rfl
  | 5, _ => rfl
/-- Among the first k of them? -/
def sixB (s : Int) (k : Nat) : Bool := (sixL.take k).any fun x => x == s
theorem sixB_next (s : Int) {k : Nat} (hk : k < 6) : sixB s (k + 1) = (sixB s k || (s == sixL.getD k 0)) := by
  unfold sixB
  have h6 : k < sixL.length := hk
  rw [List.take_succ_eq_append_getElem h6, List.any_append]
  have e : sixL.getD k 0 = sixL[k] := by simp [List.getD, h6]
  rw [e]
  simp only [List.any_cons, List.any_nil, Bool.or_false]
  congr 1
  rw [Bool.eq_iff_iff, beq_iff_eq, beq_iff_eq]
  exact eq_comm
theorem sixB_all {s : Int} (h : sixS s) : sixB s 6 = true := by
  rcases h with rfl | rfl | rfl | rfl | rfl | rfl <;> rfl
set_option maxRecDepth 100000 in
set_option maxHeartbeats 16000000 in
theorem events_walk (w : World) (D : Ds) (h : Ph) (z : Sz) (ss gp sl : Int) (hu : Bool) (X : Hid (XIn w D h)) (A : Option Addr) (c n : Nat) (ops : List Op17) (hO : Hid (OpsIn17 w A c ops)) (hn : Hid (ops.length = n)) :
    Calls Tryz.prog 11 #[.agg (ptV D h z ss gp sl hu), .slice A n c] w fun e w' => e = .returned (.bool true) ∧ Hid (Below w.heap.size w w') := by
  have ht := X.out.t
  have hcap : n ≤ 9223372036854775807 := by have h1 := hO.out.len; have h2 := hO.out.cap; have h3 := hn.out; unfold maxLen at h2; omega
  have hsz : Hid ((Tryz.prog.info? 105).map (·.size) = some (ptV D h z ss gp sl hu).size) := hid (by rw [ptV_size ht]; exact sizeP17)
  obtain ⟨v, hv0⟩ : ∃ v, v = w.alloc (.cells (ptV D h z ss gp sl hu) 105) := ⟨_, rfl⟩
  have B0 : Hid (Box v w.heap.size 105 (ptV D h z ss gp sl hu)) := hid (by rw [hv0]; exact Box.new w _ _)
  have K0 : Hid (Below w.heap.size w v) := hid (by rw [hv0]; exact (Below.refl _ w).alloc (Nat.le_refl _) _)
  have hlt0 : w.heap.size < v.heap.size := by rw [hv0, World.size_alloc]; omega
  cases hg : greatP D ops
  · have gd : Hid (greatD D = false) := hid (greatP_disc hg)
    have jv := great_jv X.out gd.out
    go_enter Tryz.func11, Tryz.ntmps11
    go_upto_region 1 with (first
      | (refine bxT (by rfl) 105 _ (by rfl) _ (by rfl) hsz.out ?_))
    rw [← hv0]
    clear hv0
    go_wp2_with (first
      | (go_at_call 38
         (with_reducible refine (alive17 _).mono ?_)
         rintro e u1 ⟨rfl, k1⟩
         have K1 := bel_t K0 k1.out
         have B1 := hid (box_below B0.out k1.out)
         have O1 := hid (hO.out.grow K1.out))
      | (refine ldX (by rfl) 105 Tryz.underlying105 _ (by rfl) _ (by rfl) B2 hsz ?_)
      | (refine ldX (by rfl) 105 Tryz.underlying105 _ (by rfl) _ (by rfl) B1 hsz ?_)
      | (go_at_call 45
         (with_reducible refine (great17_any _ D h z ss gp sl hu (hid (X.out.grow K1.out)) A c n ops O1 hn (hid hg)).mono ?_)
         rintro e u2 ⟨rfl, k2⟩
         have K2 := bel_t K1 k2.out
         have B2 := hid (box_below B1.out k2.out)
         have O2 := hid (O1.out.grow k2.out))
      | (go_at_call 46
         (with_reducible refine (to17_any _ D h z ss gp sl hu (hid (X.out.grow K2.out)) gd).mono ?_)
         rintro e u3 ⟨g, p, S0, rfl, H3⟩))
    go_loopg [24] n (fun gk i wr => ∃ (m : Nat) (S : Nat → Prop) (P : Ps), m + gk = n ∧ i = .int .i64 m ∧ Hid (AlP u2 wr g p S P) ∧ Hid (Jv P.d))
    case atStart => exact ⟨0, S0, _, by omega, rfl, H3, hid jv⟩
    case round =>
      clear H3
      obtain ⟨m, S, P, hm, rfl, H4, jvP⟩ := hrel
      by_cases hlt : m < n
      · have hki : (m : Int) < (n : Int) := by omega
        obtain ⟨b0, o0, op, hA, hop, hr, hok⟩ := (O2.out.grow H4.out.bel).at_ (k := m) (by have := hn.out; omega)
        subst hA
        have hr := hid hr
        have hok := hid hok
        have hmem := List.mem_of_getElem? hop
        have hsm := hid (greatP_small hg hmem)
        have hok2 := hid (O2.out.ok op hmem)
        clear hop hmem
        have hi32 : Hid ((Tryz.prog.info? 111).map (·.size) = some (opC17 op).length) := hid (by rw [opC17_len hok.out.t]; exact sizeOp17)
        have hi33 : Hid ((Tryz.prog.info? 111).map (·.size) = some (opV17 op).size) := hid (by rw [opV17_size hok.out.t]; exact sizeOp17)
        have hszo : (opV17 op).size = 32 := opV17_size hok.out.t
        have hfree : Hid (op.b ≠ [] → ∀ a, op.A = some a → ¬ GS g S a.block) := hid (fun hb a ha hx => by
          have h1 := slb_lt (hid hok2.out.b) hb a ha
          have h2 := H4.out.new _ hx
          omega)
        have nG : ∀ x, GS g S x → x < wr.heap.size := fun x hx => by
          rcases hx with hx | rfl
          · exact H4.out.at_.at_.top _ hx
          · exact H4.out.at_.lt
        obtain ⟨⟨P5, bs5, N5, E5, ev5⟩, hdo⟩ : ∃ r, Hid (doP P op = r) := ⟨_, hid rfl⟩
        have hok4 := hid (hok.out.t)
        have hev := doP_ev P op
        rw [hdo.out] at hev
        have hev : ∀ x ∈ ev5, P.gp ≠ 0 ∧ x.1 = P.gp ∧ sixS x.2 := hev
        replace hev := hid hev
        have hn8 : ev5.length ≤ 12002 := by have h1 := doP_evlen P op; rw [hdo.out] at h1; have h2 := hsm.out; exact Nat.le_trans h1 (by omega)
        have jv5 : Hid (Jv P5.d) := hid (by have := doP_jv jvP.out (o := op) hok.out.t; rwa [hdo.out] at this)
        obtain ⟨gq, hgq⟩ : ∃ x, Hid (P.gp = x) := ⟨_, hid rfl⟩
        go_wp2_with (first
          | (refine ldM (by rfl) 111 Tryz.underlying111 _ (by rfl) b0 (o0 + m * 32) (by rfl) (opC17 op) hr hi32 ?_)
          | (refine snX (by rfl) 111 _ _ (by rfl) wr _ rfl rfl (opV17 op) (by rfl) hi33 hszo.symm (hid opV17_one) ?_
             intro v4 X4 k4
             have G4 := hid (H4.out.grow k4.out)
             have P4a := AlP.py G4
             have d6 := Py.cell (v := .int .i64 gq) P4a 6 (by unfold psC; rw [hgq.out]; rfl)
             have nX : ¬ GS g S wr.heap.size := fun hx => by have := nG _ hx; omega)
          | (refine ldX (by rfl) 111 Tryz.underlying111 _ (by rfl) _ (by rfl) X4 hi33 ?_)
          | (go_at_call 48
             (with_reducible refine (do17_any v4 g p S P (hid G4.out.at_) jvP op (hid (hok.out.grow k4.out)) hsm hfree hdo).mono ?_)
             rintro e v7 ⟨A7, n7, c7, A8, n8, c8, S7, rfl, N7, N8, E8, h7⟩
             have N8 : Hid (ev5.length = n8) := N8
             have E8 : Hid (Lies v7 v7.heap.size A8 (evV ev5)) := E8
             have H7 := hid (G4.out.next h7)
             have k8 : Below v7.heap.size v7 (v7.alloc (.cells #[.slice A7 n7 c7, .int .i64 N5, .int .i64 E5, .slice A8 n8 c8] 114)) := (Below.refl _ _).alloc (Nat.le_refl _) _
             have H8 := hid (H7.out.grow k8)
             have E9 : Hid (Lies (v7.alloc (.cells #[.slice A7 n7 c7, .int .i64 N5, .int .i64 E5, .slice A8 n8 c8] 114)) (v7.alloc (.cells #[.slice A7 n7 c7, .int .i64 N5, .int .i64 E5, .slice A8 n8 c8] 114)).heap.size A8 (evV ev5)) := hid ((E8.out.below k8).more k8.size)))
        obtain ⟨gK, rfl⟩ : ∃ gK, gK = gk := ⟨_, rfl⟩
        generalize World.alloc v7 _ = v8 at H8 E9 ⊢
        go_loopg [38] n8 (fun gj i wq => ∃ k : Nat, k + gj = n8 ∧ i = .int .i64 k ∧ Hid (Below v8.heap.size v8 wq))
        case atStart => exact ⟨0, by omega, rfl, hid (Below.refl _ _)⟩
        case round =>
          obtain ⟨k, hk, rfl, KQ⟩ := hrel
          by_cases hlk : k < n8
          · have hkk : (k : Int) < (n8 : Int) := by omega
            have hkE : k < ev5.length := by rw [N8.out]; exact hlk
            obtain ⟨⟨x, y⟩, hxy⟩ : ∃ z, Hid (ev5[k] = z) := ⟨_, hid rfl⟩
            have hEk : ev5[k]? = some (x, y) := by rw [List.getElem?_eq_getElem hkE, hxy.out]
            have hx5 := hev.out (x, y) (List.mem_of_getElem? hEk)
            obtain ⟨hgp0, hxg, hys⟩ := hx5
            replace hxg : x = P.gp := hxg
            obtain rfl : x = gq := hxg.trans hgq.out
            have hx0 : (x == 0) = false := beq_eq_false_iff_ne.2 (fun h => hgp0 (hgq.out.trans h))
            have hys : Hid (sixS y) := hid hys
            obtain ⟨b, o, rfl, hlb, hc⟩ := E9.out (evV_ne' (by rintro rfl; simp at hkE))
            have d0 : World.cell? wr ⟨b, o + k * 2, none⟩ = some (.int .i64 x) := (KQ.out.cell (p := ⟨b, o + k * 2, none⟩) hlb).trans (hc _ _ (evV_at hEk).1)
            have d1 : World.cell? wr ⟨b, o + k * 2 + 1, none⟩ = some (.int .i64 y) := (KQ.out.cell (p := ⟨b, o + k * 2 + 1, none⟩) hlb).trans (by have h := hc _ _ (evV_at hEk).2; rwa [← Nat.add_assoc] at h)
            clear hc hEk hxg hgp0
            go_wp2_with fail
            obtain ⟨gJ, rfl⟩ : ∃ gJ, gJ = gk := ⟨_, rfl⟩
            go_loopg [12, 43] 6 (fun gs a i wz => ∃ q : Nat, q + gs = 6 ∧ i = .int .i64 q ∧ a = .bool (sixB y q) ∧ Hid (Below v8.heap.size v8 wz) ∧ Hid (wz.cell? ⟨wr.heap.size, 0, none⟩ = some (.int .i64 x)) ∧ Hid (wz.cell? ⟨wr.heap.size, 1, none⟩ = some (.int .i64 y)))
            case atStart =>
              refine ⟨0, by omega, rfl, rfl, hid (KQ.out.trans (((Below.refl _ wr).alloc (Nat.le_refl _) _).mono KQ.out.size)), hid ?_, hid ?_⟩
              · exact (Box.new wr 117 #[.int .i64 x, .int .i64 y]).cell 0
              · exact (Box.new wr 117 #[.int .i64 x, .int .i64 y]).cell 1
            case round =>
              obtain ⟨q, hq, rfl, rfl, KZ, z0h, z1h⟩ := hrel
              have z0 := z0h.out
              have z1 := z1h.out
              by_cases hlq : q < 6
              · have hqq : (q : Int) < 6 := by omega
                have hix := index_int (T := 48) Tryz.underlying48 (cs := sixA) (k := q) hlq (six_at hlq)
                simp only [sixA] at hix
                obtain ⟨sv, hsv⟩ : ∃ x, Hid (sixL.getD q 0 = x) := ⟨_, hid rfl⟩
                rw [hsv.out] at hix
                have hnx := sixB_next y hlq
                rw [hsv.out] at hnx
                obtain ⟨bq, hbq⟩ : ∃ x, Hid (sixB y q = x) := ⟨_, hid rfl⟩
                rw [hbq.out] at hnx
                rw [hbq.out]
                cases bq
                · obtain ⟨be, hbe⟩ : ∃ x, (y == sv) = x := ⟨_, rfl⟩
                  rw [hbe] at hnx
                  replace hnx := hid hnx
                  go_wp2_with fail
                  go_roundg (gk - 1)
                  case measure => omega
                  case rel => exact ⟨q + 1, by omega, by go_num, by rw [hnx.out]; simp, KZ, z0h, z1h⟩
                · replace hnx := hid hnx
                  go_wp2_with fail
                  go_roundg (gk - 1)
                  case measure => omega
                  case rel => exact ⟨q + 1, by omega, by go_num, by rw [hnx.out]; simp, KZ, z0h, z1h⟩
              · obtain rfl : q = 6 := by omega
                have hqq : ¬ (6 : Int) < 6 := by omega
                rw [sixB_all hys.out]
                have hxx : (x != x) = false := by simp
                go_wp2_with fail
                go_roundg (gJ - 1)
                case measure => omega
                case rel => exact ⟨k + 1, by omega, by go_num, KZ⟩
          · obtain rfl : k = n8 := by omega
            have hkk : ¬ (k : Int) < (k : Int) := by omega
            go_wp2_with fail
            go_roundg (gK - 1)
            case measure => omega
            case rel => exact ⟨m + 1, S7, P5, by omega, by go_num, hid (H8.out.grow KQ.out), jv5⟩
      · obtain rfl : m = n := by omega
        have hki : ¬ (m : Int) < (m : Int) := by omega
        go_wp2_with fail
        go_ret
        exact ⟨rfl, hid (K2.out.trans (H4.out.bel.mono K2.out.size))⟩
  · go_enter Tryz.func11, Tryz.ntmps11
    go_upto_region 1 with (first
      | (refine bxT (by rfl) 105 _ (by rfl) _ (by rfl) hsz.out ?_))
    rw [← hv0]
    clear hv0
    go_wp2_with (first
      | (go_at_call 38
         (with_reducible refine (alive17 _).mono ?_)
         rintro e u1 ⟨rfl, k1⟩
         have K1 := bel_t K0 k1.out
         have B1 := hid (box_below B0.out k1.out)
         have O1 := hid (hO.out.grow K1.out))
      | (refine ldX (by rfl) 105 Tryz.underlying105 _ (by rfl) _ (by rfl) B2 hsz ?_)
      | (refine ldX (by rfl) 105 Tryz.underlying105 _ (by rfl) _ (by rfl) B1 hsz ?_)
      | (go_at_call 45
         (with_reducible refine (great17_any _ D h z ss gp sl hu (hid (X.out.grow K1.out)) A c n ops O1 hn (hid hg)).mono ?_)
         rintro e u2 ⟨rfl, k2⟩
         have K2 := bel_t K1 k2.out
         have B2 := hid (box_below B1.out k2.out)
         have O2 := hid (O1.out.grow k2.out)))
    go_ret
    exact ⟨rfl, K2⟩
end Go.Proofs.YtggcampdkgfmgaaGreat
