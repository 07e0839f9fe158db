import Derived.Test.YtggcampdkgfmgaaGreatJT
import Derived.Test.YtggcampdkgfmgaaGreatJU
import Derived.Test.YtggcampdkgfmgaaGreatJV
namespace Go.Proofs.YtggcampdkgfmgaaGreat
open Go.RowKit

/-! Layer 16: the public calls: Read. -/
theorem ready_in {mn tm wn idl wt k : Int} {hv : Nat} (h : L14.readyI mn tm (hv : Int) wn idl wt = (k, true)) : ∃ m : Nat, k = (m : Int) ∧ m ≤ hv := by
  have hp : L14.pz (hv : Int) = (hv : Int) := by unfold L14.pz; omega
  unfold L14.readyI L14.readyP at h
  rw [hp] at h
  split at h
  · injection h with h _
    split at h
    · exact ⟨0, by omega, by omega⟩
    · split at h
      · exact ⟨hv, by omega, by omega⟩
      · exact ⟨wn.toNat, by omega, by omega⟩
  · injection h with _ h
    cases h
theorem ready_no {mn tm hv wn idl wt k : Int} (h : L14.readyI mn tm hv wn idl wt = (k, false)) : k = 0 := by
  unfold L14.readyI L14.readyP at h
  split at h
  · injection h with _ h
    cases h
  · injection h with h _
    exact h.symm
section
variable {w0 w : World} {p : Nat} {S0 S : Nat → Prop} {D : Ds} {h : Ph}
theorem Wy.cellT (H : Hid (Wy w0 p S0 w S D h)) (_ht : D.t.Ok) (j : Nat) {v : Value} (hj : D.t.cs[j]? = some v) (W : World) (k : Below w.heap.size w W) : W.cell? ⟨p, j, none⟩ = some v :=
  (Box.cell (H.out.at_.bel k).box j).trans (tmV_front _ j v (by simpa [Tm.cs] using hj))
/-- A read of its own: what it answers, and what is left. -/
def RetRy (w0 : World) (p : Nat) (S0 : Nat → Prop) (D' : Ds) (b : List UInt8) (ok : Bool) (e : Ending) (w' : World) : Prop := ∃ A n c S' h', e = .returned (.tuple #[.slice A n c, .bool ok]) ∧ Hid (b.length = n) ∧ Hid (SlB w' w'.heap.size A c b) ∧ Hid (Wy w0 p S0 w' S' D' h') ∧ Hid (b ≠ [] → ∀ a, A = some a → ¬ S' a.block) ∧ Hid (b ≠ [] → ∀ a, A = some a → w0.heap.size ≤ a.block)
attribute [local go_sem ↓] wp_ldR ex_ldR

set_option maxRecDepth 100000 in
set_option maxHeartbeats 2000000 in
theorem readLine_d (H : Hid (Wy w0 p S0 w S D h)) (hf : Hid (FitN 3500 D)) (n k : Int) {b : List UInt8} {ls' : List (List UInt8 × Bool)} {ok : Bool} (hr : Hid (L13.readL D.ls n = (b, ls', ok))) :
    Calls Tryz.prog 62 #[.pointer (some ⟨p, 0, none⟩), .int .i64 n, .int .i64 k] w (RetRy w0 p S0 { D with ls := ls' } b ok) := by
  have ht := hf.out.t
  obtain ⟨ql, hql⟩ : ∃ x, Hid (D.ls.length = x) := ⟨_, hid rfl⟩
  have b1 : ql ≤ 3500 := by rw [← hql.out]; exact hf.out.ls
  have hq2 : h.qs.length = ql := (Wy.lsL H).trans hql.out
  have c26 := Wy.cellW H ht 2 rfl w (Below.refl _ _)
  rw [hql.out] at c26
  have TX := Wy.txt H hf
  have LS := Wy.lsS H
  have hr2 : L13.readL (L13.lnR h.qs) n = (b, ls', ok) := by rw [H.out.at_.lsq]; exact hr.out
  replace hr2 := hid hr2
  go_enter Tryz.func62, Tryz.ntmps62
  go_wp2_with (first
    | (go_at_call 106
       (with_reducible refine (L13.readg_any _ h.nA ql h.nc h.qs n LS hq2 (by omega) TX).mono ?_)
       rw [hr2.out]
       rintro e w2 ⟨Ab, nb, cb, A2, n2, c2, q2, B2, rfl, Nb, Sb, Fb, Q2, N2, L2, hB, k2⟩
       have H2 := Wy.bel H k2.out
       have c26 := Wy.cellW H2 ht 2 rfl w2 (Below.refl _ _)
       have z26 := Wy.fz H2 26))
  have hlt := Wy.lt H
  have hF : Fr w0 p S A2 (q2 ≠ []) ∧ ∀ r ∈ q2, Fr w0 p S r.A (r.bs ≠ []) := Wy.freshL (u := w) H ⟨L2.out.ln, fun hn => by obtain ⟨g, o, cs, e, hg, hb⟩ := L2.out.row hn; exact ⟨g, o, cs, e, Nat.le_trans hB.out hg, hb⟩, fun r hr hn => by obtain ⟨g, o, cs, e, hg, hb⟩ := L2.out.text r hr hn; exact ⟨g, o, cs, e, Nat.le_trans hB.out hg, hb⟩⟩
  obtain ⟨S3, H3, I3⟩ := Wy.lsI H2 ht N2 Q2 (hid L2.out.ln) hF.1 hF.2
  have S4 := Wy.slbSet H2 ht 2 rfl (fun _ e => by cases e) Sb (.slice A2 n2 c2)
  go_ret2
  refine ⟨Ab, nb, cb, S3, _, rfl, Nb, S4, H3, hid (fun hne a ha hx => ?_), hid (fun hne a ha => by have g1 := Fb.out hne a ha; have g2 := H.out.but.size; omega)⟩
  obtain ⟨h1, h2⟩ := Fb.out hne a ha
  rcases I3.out _ hx with h3 | ⟨hn3, a3, e3, h3⟩ | ⟨r, hr3, hn3, a3, e3, h3⟩
  · have := H.out.at_.top _ h3
    omega
  · obtain ⟨g, o, cs, e, hg, _⟩ := L2.out.row hn3
    rw [e] at e3
    injection e3 with e3
    subst e3
    have h3 : g = a.block := h3
    omega
  · obtain ⟨g, o, cs, e, hg, _⟩ := L2.out.text r hr3 hn3
    rw [e] at e3
    injection e3 with e3
    subst e3
    have h3 : g = a.block := h3
    have hg : B2 ≤ g := hg
    omega
set_option maxRecDepth 100000 in
set_option maxHeartbeats 4000000 in
theorem readRaw_d (H : Hid (Wy w0 p S0 w S D h)) (hf : Hid (FitN 3500 D)) (n k : Int) (hn : i64ok n) (hk : i64ok k) {m : Int} {ok : Bool} (hr : Hid (L14.readyI D.t.m D.t.s (D.raw.length : Int) n D.idle k = (m, ok))) :
    Calls Tryz.prog 60 #[.pointer (some ⟨p, 0, none⟩), .int .i64 n, .int .i64 k] w (RetRy w0 p S0 (if ok = true then { D with raw := D.raw.drop m.toNat } else D) (if ok = true then D.raw.take m.toNat else []) ok) := by
  have ht := hf.out.t
  obtain ⟨q, hq⟩ : ∃ x, Hid (D.raw.length = x) := ⟨_, hid rfl⟩
  have hq2 : q ≤ 13000 := by rw [← hq.out]; exact hf.out.raw
  rw [hq.out] at hr
  have hq3 : i64ok (q : Int) := by unfold i64ok; omega
  have hm1 := ht.m
  have hm2 := ht.s
  have hm3 := hf.out.idle
  have bz : ∀ W, Below w.heap.size w W → W.cell? ⟨p, 22, none⟩ = some (.int .i64 D.t.m) ∧ W.cell? ⟨p, 23, none⟩ = some (.int .i64 D.t.s) ∧ W.cell? ⟨p, 27, none⟩ = some (.slice h.rA q h.rc) ∧ W.cell? ⟨p, 33, none⟩ = some (.int .i64 D.idle) := by
    intro W k
    have h1 := Wy.cellW H ht 3 rfl W k
    rw [hq.out] at h1
    exact ⟨Wy.cellT H ht 22 (cs_m ht.len) W k, Wy.cellT H ht 23 (cs_s ht.len) W k, h1, Wy.cellW H ht 9 rfl W k⟩
  go_enter Tryz.func60, Tryz.ntmps60
  go_upto_region 1 with fail
  go_cut [1, 8] (fun a b wx => a = .int .i64 m ∧ b = .bool ok ∧ Hid (Below w.heap.size w wx))
  case first =>
    go_region_held3 (fun W => W.cell? ⟨p, 22, none⟩ = some (.int .i64 D.t.m) ∧ W.cell? ⟨p, 23, none⟩ = some (.int .i64 D.t.s) ∧ W.cell? ⟨p, 27, none⟩ = some (.slice h.rA q h.rc) ∧ W.cell? ⟨p, 33, none⟩ = some (.int .i64 D.idle)) (exact bz _ (by repeat (first | exact Below.refl _ _ | exact b2 | with_reducible apply bel_dr | with_reducible apply bel_al))) ((first
      | (go_at_call 105
         (with_reducible refine (L14.readyp_any _ D.t.m D.t.s (q : Int) n D.idle k hm1 hm2 hq3 hn hm3 hk hr).mono ?_)
         rintro e w2 ⟨rfl, k2⟩
         have b2 : Below w.heap.size w w2 := bel_via k2 (by repeat (first | exact Below.refl _ _ | with_reducible apply bel_dr | with_reducible apply bel_al)))))
    all_goals
      go_wp2_with fail
      go_meet
      exact ⟨rfl, rfl, hid b2⟩
  case rest =>
  obtain ⟨rfl, rfl, K2⟩ := hcut
  have H2 := Wy.bel H K2.out
  cases ok
  · obtain rfl := ready_no hr.out
    go_wp2_with fail
    go_ret2
    exact ⟨none, 0, 0, S, _, rfl, hid rfl, slb_nil0 _, H2, hid (fun hn => absurd rfl hn), hid (fun hn => absurd rfl hn)⟩
  · obtain ⟨M, rfl, hM⟩ := ready_in hr.out
    have hMt : Hid (((M : Int)).toNat = M) := hid (by omega)
    have RS := Wy.rawS H2
    have c27 := Wy.cellW H2 ht 3 rfl wc (Below.refl _ _)
    rw [hq.out] at c27
    have fb := run_front RS.out hq.out hM
    obtain ⟨A2, c2, rb, SB, BB⟩ := run_backB hq.out hM RS.out
    have HT : Hid ((D.raw.take M).length = M) := hid (by rw [List.length_take, hq.out]; omega)
    have ST : Hid (SlB wc wc.heap.size h.rA h.rc (D.raw.take M)) := hid (RS.out.take M)
    have hkn : (0 : Int) ≤ (M : Int) := by omega
    have hkq2 : (M : Int) ≤ (q : Int) := by omega
    clear bz
    obtain ⟨v2, hv2⟩ : ∃ v2, v2 = wc := ⟨_, rfl⟩
    subst hv2
    go_wp2_with (first
      | (go_at_call 77
         (with_reducible refine (copied16_any _ h.rA M h.rc (D.raw.take M) ST HT (by omega)).mono ?_)
         rintro e w3 ⟨A3, n3, c3, rfl, N3, O3, k3⟩
         have H3 := Wy.bel H2 k3.out
         have c27 := Wy.cellW H3 ht 3 rfl w3 (Below.refl _ _)
         rw [hq.out] at c27
         have z27 := Wy.fz H3 27
         have SB2 := slb_up SB k3.out))
    have HD : Hid ((D.raw.drop M).length = q - M) := hid (by rw [List.length_drop, hq.out])
    have H5 := Wy.raw_ H3 ht HD SB2 (fr_left H3.out.at_.sr BB drop_ne)
    have S3 := Wy.slbSet H3 ht 3 rfl (fun _ e => by cases e) (slb_own N3 O3) (.slice A2 (q - M) c2)
    go_ret2
    refine ⟨A3, n3, c3, _, _, rfl, N3, S3, H5, hid (fun hne a ha hx => ?_), hid (fun hne a ha => by subst ha; have g1 := (O3.out.lt a.block rfl).1; have g2 := H2.out.but.size; omega)⟩
    subst ha
    have h1 := plus_left H3.out.at_.sr BB drop_ne _ hx
    have h2 := (O3.out.lt a.block rfl).1
    have h3 := H2.out.at_.top _ h1
    omega

theorem readL_no {ls ls' : List (List UInt8 × Bool)} {n : Int} {b : List UInt8} (h : L13.readL ls n = (b, ls', false)) : b = [] ∧ ls' = ls := by
  cases ls with
  | nil =>
    injection h with h1 h2
    injection h2 with h2 _
    exact ⟨h1.symm, h2.symm⟩
  | cons x r =>
    exfalso
    unfold L13.readL at h
    simp only at h
    split at h
    · injection h with _ h; injection h with _ h; cases h
    · split at h <;> (injection h with _ h; injection h with _ h; cases h)
theorem readL_used {ls ls' : List (List UInt8 × Bool)} {n : Int} {b : List UInt8} {ok : Bool} (h : L13.readL ls n = (b, ls', ok)) : ls'.length ≤ ls.length ∧ L13.usedL ls' ≤ L13.usedL ls := by
  cases ls with
  | nil =>
    injection h with _ h
    injection h with h _
    subst h
    exact ⟨Nat.le_refl _, Nat.le_refl _⟩
  | cons x r =>
    unfold L13.readL at h
    simp only at h
    have hx : ∀ x r, L13.usedL (x :: r) = x.1.length + (if x.2 = true then 1 else 0) + L13.usedL r := fun x r => by simp [L13.usedL, List.map_cons, List.sum_cons]
    split at h
    · injection h with _ h; injection h with h _
      subst h
      exact ⟨Nat.le_refl _, Nat.le_refl _⟩
    · split at h <;> (injection h with _ h; injection h with h _; subst h)
      · simp [hx]
      · simp [hx]
/-- What a read has answered lives through what isn't its own. -/
theorem read_left {w : World} {w3 w4 : World} {S3 : Nat → Prop} {D2 D3 : Ds} {h3 : Ph} {A : Option Addr} {c : Nat} {b : List UInt8} (H3 : Hid (Wy w p S w3 S3 D2 h3)) (K : DOut w3 p S3 D3 w4) (hS : Hid (SlB w3 w3.heap.size A c b)) (hF : Hid (b ≠ [] → ∀ a, A = some a → ¬ S3 a.block)) (hG : Hid (b ≠ [] → ∀ a, A = some a → w.heap.size ≤ a.block)) : Hid (SlB w4 w4.heap.size A c b) ∧ DOutF w p S D3 A b w4 := by
  obtain ⟨S4, h4, h5, h6⟩ := K
  refine ⟨hid (h6.out.slb hS.out hF.out), S4, h4, hid (fun x hx => ?_), hid (H3.out.but.trans h6.out H3.out.new), hid (fun hne a ha hx => ?_), hG⟩
  · rcases h5.out x hx with h | h
    · exact H3.out.new x h
    · exact .inr (Nat.le_trans H3.out.but.size h)
  · rcases h5.out _ hx with h | h
    · exact hF.out hne a ha h
    · have := slb_block hS.out hne a ha
      omega

set_option maxRecDepth 100000 in
set_option maxHeartbeats 4000000 in
theorem readp16_any (w : World) (p : Nat) (S : Nat → Prop) (D : Ds) (hD : Hid (DAt w p S D)) (hf : Hid (Fit D)) (n k : Int) (hn : i64ok n) (hk : i64ok k) {r : Ds × List UInt8 × Bool} (hr : Hid (readD D n k = r)) : Calls Tryz.prog 21 #[.pointer (some ⟨p, 0, none⟩), .int .i64 n, .int .i64 k] w (RetRd w p S r) := by
  obtain ⟨h, H⟩ := Wy.of hD
  have ht := hf.out.t
  have hf1 : Hid (FitN 3500 D) := hid (hf.out.n.up (by omega))
  cases hb : D.has 51
  · obtain ⟨⟨m, ok⟩, hrr⟩ : ∃ x, Hid (L14.readyI D.t.m D.t.s (D.raw.length : Int) n D.idle k = x) := ⟨_, hid rfl⟩
    have hv := hr.out
    unfold readD at hv
    simp only [hb, if_neg Bool.false_ne_true, hrr.out] at hv
    cases ok
    · rw [if_neg (by decide)] at hv
      subst hv
      go_enter Tryz.func21, Tryz.ntmps21
      go_wp2_with (first
        | (go_at_call 61
           (with_reducible refine (hasd_b H ht hb).mono ?_)
           rintro e w1 ⟨rfl, k1⟩
           have H1 := Wy.bel H k1.out)
        | (go_at_call 60
           (with_reducible refine (readRaw_d H1 hf1 n k hn hk hrr).mono ?_)
           rintro e w3 ⟨A3, n3, c3, S3, h3, rfl, N3, L3, H3, F3, G3⟩
           have H3r := Wy.self H3))
      go_ret2
      exact ⟨A3, n3, c3, rfl, N3, L3, S3, Wy.dat H3, hid H3.out.new, hid H3.out.but, F3, G3⟩
    · rw [if_pos rfl] at hv
      subst hv
      have hf2 : Hid (FitN 3600 (if true = true then { D with raw := D.raw.drop m.toNat } else D)) := hid ((hf1.out.raw_ (by simp; have := hf.out.raw; omega)).up (by omega))
      go_enter Tryz.func21, Tryz.ntmps21
      go_wp2_with (first
        | (go_at_call 61
           (with_reducible refine (hasd_b H ht hb).mono ?_)
           rintro e w1 ⟨rfl, k1⟩
           have H1 := Wy.bel H k1.out)
        | (go_at_call 60
           (with_reducible refine (readRaw_d H1 hf1 n k hn hk hrr).mono ?_)
           rintro e w3 ⟨A3, n3, c3, S3, h3, rfl, N3, L3, H3, F3, G3⟩
           have H3r := Wy.self H3)
        | (go_at_call 59
           (with_reducible refine (mark_d H3r hf2 (hid rfl)).mono ?_)
           rintro e w4 ⟨rfl, K4⟩))
      go_ret2
      obtain ⟨h5, h6⟩ := read_left H3 K4 L3 F3 G3
      exact ⟨A3, n3, c3, rfl, N3, h5, h6⟩
  · obtain ⟨⟨b, ls', ok⟩, hrl⟩ : ∃ x, Hid (L13.readL D.ls n = x) := ⟨_, hid rfl⟩
    have hv := hr.out
    unfold readD at hv
    simp only [hb, if_pos, hrl.out] at hv
    cases ok
    · rw [if_neg (by decide)] at hv
      subst hv
      obtain ⟨rfl, rfl⟩ := readL_no hrl.out
      go_enter Tryz.func21, Tryz.ntmps21
      go_wp2_with (first
        | (go_at_call 61
           (with_reducible refine (hasd_b H ht hb).mono ?_)
           rintro e w1 ⟨rfl, k1⟩
           have H1 := Wy.bel H k1.out)
        | (go_at_call 62
           (with_reducible refine (readLine_d H1 hf1 n k hrl).mono ?_)
           rintro e w3 ⟨A3, n3, c3, S3, h3, rfl, N3, L3, H3, F3, G3⟩
           have H3r := Wy.self H3))
      go_ret2
      exact ⟨A3, n3, c3, rfl, N3, L3, S3, Wy.dat H3, hid H3.out.new, hid H3.out.but, F3, G3⟩
    · rw [if_pos rfl] at hv
      subst hv
      have hu := readL_used hrl.out
      have hf2 : Hid (FitN 3600 { D with ls := ls' }) := hid ⟨hf.out.t, hf.out.line, hf.out.raw, hf.out.out, by have := hf.out.ls; have := hu.1; show ls'.length ≤ 3600; omega, by have := hf.out.used; have := hu.2; show L13.usedL ls' ≤ 20000; omega, hf.out.col, hf.out.fr, hf.out.idle⟩
      clear hu
      go_enter Tryz.func21, Tryz.ntmps21
      go_wp2_with (first
        | (go_at_call 61
           (with_reducible refine (hasd_b H ht hb).mono ?_)
           rintro e w1 ⟨rfl, k1⟩
           have H1 := Wy.bel H k1.out)
        | (go_at_call 62
           (with_reducible refine (readLine_d H1 hf1 n k hrl).mono ?_)
           rintro e w3 ⟨A3, n3, c3, S3, h3, rfl, N3, L3, H3, F3, G3⟩
           have H3r := Wy.self H3)
        | (go_at_call 59
           (with_reducible refine (mark_d H3r hf2 (hid rfl)).mono ?_)
           rintro e w4 ⟨rfl, K4⟩))
      go_ret2
      obtain ⟨h5, h6⟩ := read_left H3 K4 L3 F3 G3
      exact ⟨A3, n3, c3, rfl, N3, h5, h6⟩

end
end Go.Proofs.YtggcampdkgfmgaaGreat
