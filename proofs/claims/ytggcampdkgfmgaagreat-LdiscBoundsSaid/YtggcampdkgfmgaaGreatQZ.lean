import Derived.Test.YtggcampdkgfmgaaGreatQW
import Derived.Test.YtggcampdkgfmgaaGreatQDo
import Derived.Deep.DeepCutAuto
namespace Go.Proofs.YtggcampdkgfmgaaGreat
open Go.RowKit

/-! LdiscBounds: the walk. -/
theorem used_mem {ls : List (List UInt8 × Bool)} {x : List UInt8 × Bool} (h : x ∈ ls) : x.1.length ≤ L13.usedL ls := by
  induction ls with
  | nil => cases h
  | cons y r ih =>
    simp only [L13.usedL, List.map_cons, List.sum_cons] at ih ⊢
    rcases List.mem_cons.1 h with rfl | h
    · omega
    · have := ih h; omega
theorem qs_small {rs : List L13.Rc} {ls : List (List UInt8 × Bool)} (hq : L13.lnR rs = ls) (hu : L13.usedL ls ≤ 1025) : ∀ r ∈ rs, r.bs.length ≤ 140737488351232 := fun r hr => by
  have h2 := used_mem (ls := ls) (x := (r.bs, r.e)) (by rw [← hq]; exact List.mem_map_of_mem hr)
  have h3 : r.bs.length ≤ L13.usedL ls := h2
  omega
theorem used16 (w : World) (A : Option Addr) (n c : Nat) (rs : List L13.Rc) (ls : List (List UInt8 × Bool)) (hl : Hid (L13.LnV w w.heap.size A c rs)) (hq : Hid (L13.lnR rs = ls)) (hn : rs.length = n) (hm : n ≤ 4000) (ht : Hid (∀ r ∈ rs, r.bs.length ≤ 140737488351232)) :
    Calls Tryz.prog 32 #[.slice A n c] w fun e w' => e = .returned (.int .i64 ((L13.usedL ls : Nat) : Int)) ∧ Hid (Below w.heap.size w w') := by
  have := L13.usedp_any w A n c rs hl hn hm ht
  rwa [hq.out] at this
set_option maxRecDepth 100000 in
set_option maxHeartbeats 8000000 in
theorem bounds_walk (w : World) (t : Tm) (ht : t.Ok) (A : Option Addr) (c n : Nat) (ops : List Op16) (hO : Hid (OpsIn w A c ops)) (hn : Hid (ops.length = n)) :
    Calls Tryz.prog 7 #[.agg t.cs, .slice A n c] w fun e w' => e = .returned (.bool true) ∧ Hid (Below w.heap.size w w') := by
  have hs := cs_size ht.len
  have K0 := old26 w t
  cases hh : heavyD ops
  · have HH := hid hh
    clear hh
    go_enter Tryz.func7, Tryz.ntmps7
    go_wp2_with (first
      | (refine bx26 (by rfl) _ (by rfl) _ (by rfl) hs ?_
         intro G0)
      | (go_at_call 15
         (with_reducible refine (alive_any _).mono ?_)
         rintro e u1 ⟨rfl, k⟩
         have G1 := hid (box_below G0.out k.out)
         have K1 := bel_t K0 k.out
         have O1 := hid (hO.out.grow K1.out)
         clear k G0 K0)
      | (go_at_call 30
         (with_reducible refine (heavy_any _ A c n ops O1 hn HH).mono ?_)
         rintro e u2 ⟨rfl, k⟩
         have G2 := hid (box_below G1.out k.out)
         have K2 := bel_t K1 k.out
         have O2 := hid (O1.out.grow k.out)
         clear k G1 K1 O1)
      | (refine ld26 (by rfl) _ (by rfl) _ (by rfl) _ G2.out hs ?_)
      | (go_at_call 19
         (with_reducible refine (newp_any _ t ht).mono ?_)
         rintro e w2 ⟨p, S0, rfl, A2, N2, k2⟩
         have H2 := hid (Al.made (w0 := u2) A2 N2 k2)
         clear A2 k2 N2))
    go_loopg [16] n (fun gk i wr => ∃ (m : Nat) (S : Nat → Prop) (D : Ds), m + gk = n ∧ i = .int .i64 m ∧ Hid (Al u2 wr p S D) ∧ Hid (Inv D))
    case atStart => exact ⟨0, S0, newD t, by omega, rfl, H2, hid (Inv.new ht)⟩
    case round =>
      clear H2
      obtain ⟨m, S, D, hm, rfl, H3, I3⟩ := hrel
      by_cases hlt : m < n
      · have hki : (m : Int) < (n : Int) := by omega
        have h60 : n ≤ 60 := by
          have := HH.out
          unfold heavyD at this
          simp only [Bool.or_eq_false_iff, decide_eq_false_iff_not] at this
          have h2 := hn.out
          omega
        obtain ⟨b0, o0, op, hA, hop, hr, hok⟩ := (O2.out.grow H3.out.bel).at_ (k := m) (by have := hn.out; omega)
        subst hA
        have hr := hid hr
        have hok := hid hok
        have hmem := List.mem_of_getElem? hop
        have hsm := hid (heavy_small HH.out hmem)
        have hok2 := hid (O2.out.ok op hmem)
        clear hop hmem
        have hi28 : Hid ((Tryz.prog.info? 65).map (·.size) = some (opC op).length) := hid (by rw [opC_len hok.out.t]; exact sizeOp)
        have hi29 : Hid ((Tryz.prog.info? 65).map (·.size) = some (opV op).size) := hid (by rw [opV_size hok.out.t]; exact sizeOp)
        have hsz : (opV op).size = 28 := opV_size hok.out.t
        have hfree : Hid (op.b ≠ [] → ∀ a, op.A = some a → ¬ S a.block) := hid (fun hb a ha hx => by
          have h1 := slb_lt (hid hok2.out.b) hb a ha
          have h2 := H3.out.new _ hx
          omega)
        go_wp2_with (first
          | (refine ldM (by rfl) 65 Tryz.underlying65 _ (by rfl) b0 (o0 + m * 28) (by rfl) (opC op) hr hi28 ?_)
          | (refine snX (by rfl) 65 _ _ (by rfl) wr _ rfl rfl (opV op) (by rfl) hi29 hsz.symm (hid opV_one) ?_
             intro v4 X4 k4
             have H4 := hid (H3.out.grow k4.out))
          | (refine ldX (by rfl) 65 Tryz.underlying65 _ (by rfl) _ (by rfl) X4 hi29 ?_)
          | (go_at_call 31
             (with_reducible refine (do_any _ p S D (hid H4.out.at_) I3 op (hid (hok.out.grow k4.out)) hsm hfree).mono ?_)
             rintro e v5 ⟨vv, D5, rfl, I5, O5⟩
             obtain ⟨S5, H5, N5, b5⟩ := H4.out.next O5
             obtain ⟨h, Hp⟩ := H5.out.at_
             have okD := I5.out.t
             have c0 := Hp.cell okD 0 rfl
             have c2 := Hp.cell okD 2 rfl
             have q1 : ¬ (D5.line.length : Int) ≥ 255 := by have := I5.out.line; omega
             have q2 : ¬ ((L13.usedL D5.ls : Nat) : Int) > 1025 := by have := I5.out.ls; omega
             have q3 : ¬ (D5.raw.length : Int) > 1024 := by have := I5.out.raw; omega
             have q4 : ¬ (D5.out.length : Int) > 4096 := by have := I5.out.out; omega
             have q5 : ¬ D5.idle < 0 := by have := I5.out.i0; omega
             have q6 : ¬ D5.idle > 1048576 := by have := I5.out.i1; omega
             have q7 : ¬ D5.col < 0 := by have := I5.out.c0; omega
             have q8 : ¬ D5.col > 65535 := by have := I5.out.c1; omega
             have hqn : h.qs.length = D5.ls.length := by rw [← Hp.lsq]; simp [L13.lnR]
             have hsm2 : Hid (∀ r ∈ h.qs, r.bs.length ≤ 140737488351232) := hid (qs_small Hp.lsq I5.out.ls))
          | (go_at_call 32
             (with_reducible refine (used16 _ h.nA D5.ls.length h.nc h.qs D5.ls (hid Hp.lsv) (hid Hp.lsq) hqn (Nat.le_trans (ls_used D5.ls I5.out.one) (Nat.le_trans I5.out.ls (by decide))) hsm2).mono ?_)
             rintro e v6 ⟨rfl, k6⟩
             have H6 := hid (H5.out.grow k6.out)
             have Hq := Hp.keep (ButP.of_below k6.out fun _ => False) (fun _ _ h => h)
             have d3 := Hq.cell okD 3 rfl
             have d6 := Hq.cell okD 6 rfl
             have d7 := Hq.cell okD 7 rfl
             have d9 := Hq.cell okD 9 rfl))
        go_roundg (gk - 1)
        case measure => omega
        case rel => exact ⟨m + 1, S5, D5, by omega, by go_num, H6, I5⟩
      · obtain rfl : m = n := by omega
        have hki : ¬ (m : Int) < (m : Int) := by omega
        go_wp2_with fail
        go_ret
        exact ⟨rfl, hid (K2.out.trans (H3.out.bel.mono K2.out.size))⟩
  · have HH := hid hh
    clear hh
    go_enter Tryz.func7, Tryz.ntmps7
    go_wp2_with (first
      | (refine bx26 (by rfl) _ (by rfl) _ (by rfl) hs ?_
         intro G0)
      | (go_at_call 15
         (with_reducible refine (alive_any _).mono ?_)
         rintro e u1 ⟨rfl, k⟩
         have K1 := bel_t K0 k.out
         have O1 := hid (hO.out.grow K1.out))
      | (go_at_call 30
         (with_reducible refine (heavy_any _ A c n ops O1 hn HH).mono ?_)
         rintro e u2 ⟨rfl, k⟩
         have K2 := bel_t K1 k.out))
    go_ret
    exact ⟨rfl, K2⟩
end Go.Proofs.YtggcampdkgfmgaaGreat
