import Derived.Test.YtggcampdkgfmgaaJS
namespace Go.Proofs.Ytggcampdkgfmgaa
open Go.RowKit

/-! Layer 16: Input. -/
theorem break_is {E : Ds} (hnx : E.nx = false) (c : UInt8) {sg : Int} (hsg : sg ≠ 20) : breakD E c = sigE E c sg := by
  obtain ⟨t, line, nx, ls, raw, s, h, out, col, fr, idle⟩ := E
  obtain rfl : nx = false := hnx
  unfold breakD sigE startD flushS
  by_cases h57 : hasN t.f 57 = true <;> by_cases h38 : hasN t.f 38 = true <;> simp [flushInD, signB, Ds.has, hsg, h57, h38]
theorem susp_is {E : Ds} (hnx : E.nx = false) (c : UInt8) : suspD E c = sigE E c 20 := by
  obtain ⟨t, line, nx, ls, raw, s, h, out, col, fr, idle⟩ := E
  obtain rfl : nx = false := hnx
  unfold suspD sigE startD flushS
  by_cases h57 : hasN t.f 57 = true <;> by_cases h38 : hasN t.f 38 = true <;> simp [flushInD, signB, Ds.has, h57, h38]
section
variable {w0 w : World} {p : Nat} {S0 S : Nat → Prop} {D E : Ds} {h : Ph}
end
end Go.Proofs.Ytggcampdkgfmgaa
namespace Go.Proofs.Ytggcampdkgfmgaa
open Go.RowKit

/-! Layer 16: the public calls: Input, Output, Write, Tick, Flush, Ask. -/
/-- What Input answers: the signals. -/
def fitsT (n : Int) : Bool := decide (0 ≤ n) && decide (n ≤ 255)
def rightT (t : Tm) : Bool := decide (okF t.f) && decide (t.c.getD 0 0 = 0) && fitsT t.m && fitsT t.s
def setE (D : Ds) (t : Tm) : Int := if rightT t = true then 0 else 4
def setF (D : Ds) (t : Tm) : Ds := if rightT t = true then setD D t else D
def flushE (what : Int) : Int := if 1 ≤ what ∧ what ≤ 3 then 0 else 2
theorem ButP.sli {S : Nat → Prop} {w w' : World} (k : ButP S w w') {A : Option Addr} {c : Nat} {l : List Int} (h : Hid (SlI w w.heap.size A c l)) (hA : Hid (l ≠ [] → ∀ a, A = some a → ¬ S a.block)) : Hid (SlI w' w'.heap.size A c l) :=
  hid ⟨h.out.1, h.out.2.1, h.out.2.2.1, Lies.more_ (k.lies h.out.2.2.2 (Nat.le_refl _) fun hn => hA.out (by rintro rfl; exact hn rfl)) k.size⟩
theorem add_block (a : Addr) (k : Nat) : (a.add k).block = a.block := by unfold Addr.add; split <;> rfl
theorem run_backB {w : World} {B : Nat} {A : Option Addr} {n c k : Nat} {bs : List UInt8} (hn : bs.length = n) (hk : k ≤ n) (hS : SlB w B A c bs) : ∃ A2 c2, (∀ W : World, (Instr.sliceAt 27 (.slice A n c) (some (.int .i64 (k : Int))) none none).run Try.prog W = .ok (.slice A2 (n - k) c2) W) ∧ Hid (SlB w B A2 c2 (bs.drop k)) ∧ Hid (∀ a2, A2 = some a2 → ∃ a, A = some a ∧ a2.block = a.block) := by
  have hc : A = none → c = 0 := hS.2.2.1
  have hl := hS.1
  rcases A with _ | ad
  · obtain rfl := hc rfl
    obtain rfl : n = 0 := by omega
    obtain rfl : k = 0 := by omega
    refine ⟨none, 0, fun W => ?_, hid (by rw [List.drop_zero]; exact hS), hid (fun _ h => by cases h)⟩
    simp [Instr.sliceAt, Instr.slice, go_sem]
  · refine ⟨some (if c = k then ad else ad.add k), c - k, fun W => ?_, hid (hS.drop k (by omega)), hid (fun a2 h2 => ⟨ad, rfl, ?_⟩)⟩
    · simp [Instr.sliceAt, Instr.slice, go_sem, show (k : Int) ≤ (n : Int) by omega]
      split <;> rfl
    · injection h2 with h2
      subst h2
      split
      · rfl
      · exact add_block ad k
section
variable {w : World} {p : Nat} {S : Nat → Prop} {D : Ds}
set_option maxRecDepth 100000 in
theorem copied16_any (w : World) (A : Option Addr) (n c : Nat) (bs : List UInt8) (hS : Hid (SlB w w.heap.size A c bs)) (hn : Hid (bs.length = n)) (hm : n ≤ 900000) :
    Calls Try.prog 32 #[.slice A n c] w (Own w bs) := by
  have hm0 : 0 + n ≤ 1000000 := by omega
  have O0 : Hid (w.ownsRow w.heap.size 5 1 (.slice none 0 0) 0 (bv [])) := hid (World.ownsRow_nil _ _ _ _)
  go_enter Try.func32, Try.ntmps32
  go_wp2_with (first
    | (at_builtin
       (refine app_own w (by rfl) (.const (.slice none 0 0)) (.tmp 3) rfl w.heap.size 0 0 none [] rfl O0 (Nat.le_refl _) A n c bs rfl hS hn.out hm0 ?_)
       intro A3 c3 u3 O3 k3
       rw [Nat.zero_add] at O3 ⊢))
  go_ret
  exact ⟨A3, n, c3, rfl, hn, O3, hid (k3.out.below (Nat.le_refl _))⟩

end
end Go.Proofs.Ytggcampdkgfmgaa
namespace Go.Proofs.Ytggcampdkgfmgaa
open Go.RowKit

/-! Layer 16: the public calls: Output, Write, Ask. -/
section
variable {w : World} {p : Nat} {S : Nat → Prop} {D : Ds}
/-- What is left of a list of the discipline's own. -/
theorem fr_left {w0 : World} {A A2 : Option Addr} {ne ne' : Prop} (hS : InS S p A ne) (hb : Hid (∀ a2, A2 = some a2 → ∃ a, A = some a ∧ a2.block = a.block)) (hn : ne' → ne) : Fr w0 p S A2 ne' := fun h1 a2 h2 => by
  obtain ⟨a, ha, e⟩ := hb.out a2 h2
  obtain ⟨h3, h4⟩ := hS (hn h1) a ha
  rw [e]
  exact ⟨.inl h3, h4⟩
theorem plus_left {A A2 : Option Addr} {ne ne' : Prop} (hS : InS S p A ne) (hb : Hid (∀ a2, A2 = some a2 → ∃ a, A = some a ∧ a2.block = a.block)) (hn : ne' → ne) : ∀ x, Plus S A2 ne' x → S x := by
  rintro x (h1 | ⟨h1, a2, h2, rfl⟩)
  · exact h1
  · obtain ⟨a, ha, e⟩ := hb.out a2 h2
    rw [e]
    exact (hS (hn h1) a ha).1
theorem drop_ne {l : List UInt8} {k : Nat} (h : l.drop k ≠ []) : l ≠ [] := by
  rintro rfl
  exact h List.drop_nil
attribute [local go_sem ↓] wp_ldR ex_ldR

set_option maxRecDepth 100000 in
set_option maxHeartbeats 2000000 in
theorem output_k (hD : Hid (DAt w p S D)) (hf : Hid (Fit D)) (hs : D.s = false) (n m : Int) (k q : Nat) (hq : Hid (D.out.length = q)) (hkq : k ≤ q) (e1 : max n 0 = m) (e2 : min m (q : Int) = (k : Int)) :
    Calls Try.prog 19 #[.pointer (some ⟨p, 0, none⟩), .int .i64 n] w (RetOut w p S { D with out := D.out.drop k } (D.out.take k)) := by
  obtain ⟨h, H⟩ := Wy.of hD
  have ht := hf.out.t
  have hq2 : q ≤ 13000 := by rw [← hq.out]; exact hf.out.out
  have OS := Wy.outS H
  have c28 := Wy.cellW H ht 4 rfl w (Below.refl _ _)
  rw [hs] at c28
  have c30 := Wy.cellW H ht 6 rfl w (Below.refl _ _)
  rw [hq.out] at c30
  have fb := run_front OS.out hq.out hkq
  obtain ⟨A2, c2, rb, SB, BB⟩ := run_backB hq.out hkq OS.out
  have HT : Hid ((D.out.take k).length = k) := hid (by rw [List.length_take, hq.out]; omega)
  have ST : Hid (SlB w w.heap.size h.oA h.oc (D.out.take k)) := hid (OS.out.take k)
  have hkn : (0 : Int) ≤ (k : Int) := by omega
  have hkq2 : (k : Int) ≤ (q : Int) := by omega
  go_enter Try.func19, Try.ntmps19
  go_wp2_with (first
    | (go_at_call 32
       (with_reducible refine (copied16_any _ h.oA k h.oc (D.out.take k) ST HT (by omega)).mono ?_)
       rintro e w2 ⟨A3, n3, c3, rfl, N3, O3, k3⟩
       have H2 := Wy.bel H k3.out
       have c30 := Wy.cellW H2 ht 6 rfl w2 (Below.refl _ _)
       rw [hq.out] at c30
       have z30 := Wy.fz H2 30
       have SB2 := slb_up SB k3.out))
  go_ret
  have HD : Hid ((D.out.drop k).length = q - k) := hid (by rw [List.length_drop, hq.out])
  have H5 := Wy.out_ H2 ht HD SB2 (fr_left H2.out.at_.so BB drop_ne)
  have S3 := Wy.slbSet H2 ht 6 rfl (fun _ e => by cases e) (slb_own N3 O3) (.slice A2 (q - k) c2)
  refine ⟨A3, n3, c3, rfl, N3, S3, ?_⟩
  refine ⟨_, Wy.dat H5, hid H5.out.new, hid H5.out.but, hid (fun hne a ha hx => ?_), hid (fun hne a ha => by subst ha; exact (O3.out.lt a.block rfl).1)⟩
  subst ha
  have h1 := plus_left H2.out.at_.so BB drop_ne _ hx
  have h2 := (O3.out.lt a.block rfl).1
  have h3 := H.out.at_.top _ h1
  omega
set_option maxRecDepth 100000 in
theorem outputp_any (w : World) (p : Nat) (S : Nat → Prop) (D : Ds) (hD : Hid (DAt w p S D)) (hf : Hid (Fit D)) (n : Int) (_hn : i64ok n) {D' : Ds} (hr : Hid (outputD D n = D')) {b : List UInt8} (hb : Hid (outputB D n = b)) : Calls Try.prog 19 #[.pointer (some ⟨p, 0, none⟩), .int .i64 n] w (RetOut w p S D' b) := by
  obtain rfl := hr.out
  obtain rfl := hb.out
  obtain ⟨q, hq⟩ : ∃ q, Hid (D.out.length = q) := ⟨_, hid rfl⟩
  cases hs : D.s
  · have hk : ∀ k : Nat, outN16 D n = k → outputD D n = { D with out := D.out.drop k } ∧ outputB D n = D.out.take k := fun k h => by unfold outputD outputB; rw [h]; exact ⟨rfl, rfl⟩
    by_cases h0 : n ≤ 0
    · obtain ⟨e1, e2⟩ := hk 0 (by unfold outN16; rw [hs, if_neg (by decide)]; omega)
      rw [e1, e2]
      exact output_k hD hf hs n 0 0 q hq (by omega) (by omega) (by omega)
    · by_cases h1 : n ≤ (q : Int)
      · obtain ⟨N, rfl⟩ : ∃ N : Nat, n = (N : Int) := ⟨n.toNat, by omega⟩
        obtain ⟨e1, e2⟩ := hk N (by unfold outN16; rw [hs, if_neg (by decide), hq.out]; omega)
        rw [e1, e2]
        exact output_k hD hf hs N N N q hq (by omega) (by omega) (by omega)
      · obtain ⟨e1, e2⟩ := hk q (by unfold outN16; rw [hs, if_neg (by decide), hq.out]; omega)
        rw [e1, e2]
        exact output_k hD hf hs n n q q hq (by omega) (by omega) (by omega)
  · have e0 : outN16 D n = 0 := by unfold outN16; rw [hs, if_pos rfl]
    have e1 : outputD D n = D := by unfold outputD; rw [e0, List.drop_zero]
    have e2 : outputB D n = [] := by unfold outputB; rw [e0]; rfl
    rw [e1, e2]
    obtain ⟨h, H⟩ := Wy.of hD
    have c28 := Wy.cellW H hf.out.t 4 rfl w (Below.refl _ _)
    rw [hs] at c28
    go_enter Try.func19, Try.ntmps19
    go_wp2_with fail
    go_ret
    exact ⟨none, 0, 0, rfl, hid rfl, slb_nil0 w, S, hD, hid (fun _ h => .inl h), hid (ButP.refl S w), hid (fun h => absurd rfl h), hid (fun h => absurd rfl h)⟩

set_option maxRecDepth 100000 in
set_option maxHeartbeats 4000000 in
theorem writep_any (w : World) (p : Nat) (S : Nat → Prop) (D : Ds) (hD : Hid (DAt w p S D)) (hf : Hid (Fit D)) (A : Option Addr) (n c : Nat) (b : List UInt8) (hb : Hid (SlB w w.heap.size A c b)) (hn : Hid (b.length = n)) (hm : n ≤ 400000) (_hA : Hid (b ≠ [] → ∀ a, A = some a → ¬ S a.block)) {D' : Ds} (hr : Hid (writeD D b = D')) {k : Nat} (hk : Hid (writeN D b = k)) : Calls Try.prog 17 #[.pointer (some ⟨p, 0, none⟩), .slice A n c] w fun e w' => e = .returned (.int .i64 (k : Int)) ∧ DOut w p S D' w' := by
  obtain ⟨h, H⟩ := Wy.of hD
  have ht := hf.out.t
  obtain ⟨q, hq⟩ : ∃ q, Hid (D.out.length = q) := ⟨_, hid rfl⟩
  have hq2 : q ≤ 13000 := by rw [← hq.out]; exact hf.out.out
  have hkn : k ≤ n := by rw [← hk.out, ← hn.out]; exact L12.fitP_le _ _ _ _
  have hkfit : L12.fitP (L12.poF D.t) (nrm D.col) b (4096 - (q : Int)) = k := by rw [← hk.out, ← hq.out]; rfl
  replace hkfit := hid hkfit
  obtain ⟨⟨ys, M⟩, hx⟩ : ∃ x, Hid (L12.bytesP (L12.poF D.t) (nrm D.col) (b.take k) = x) := ⟨_, hid rfl⟩
  have hyl : ys.length ≤ 800000 := by
    have h1 := L12.bytesP_len (L12.poF D.t) (b.take k) (nrm D.col)
    rw [hx.out, List.length_take, hn.out] at h1
    have h2 : ys.length ≤ 2 * min k n := h1
    omega
  obtain rfl : { D with out := D.out ++ ys, col := (M : Int) } = D' := by rw [← hr.out]; unfold writeD; rw [hk.out, hx.out]
  have HT : (b.take k).length = k := by rw [List.length_take, hn.out]; omega
  replace HT := hid HT
  have hw : IntKind.i64.wrap (4096 - (q : Int)) = 4096 - (q : Int) := by rw [IntKind.wrap_i64]; omega
  have fb := run_front hb.out hn.out hkn
  have hk0 : (0 : Int) ≤ (k : Int) := by omega
  have hk1 : (k : Int) ≤ (n : Int) := by omega
  have bz : ∀ W, Below w.heap.size w W → isR W (.pointer (some ⟨p, 0, none⟩)) = true ∧ csR W (.pointer (some ⟨p, 0, none⟩)) = D.t.cs ∧ W.cell? ⟨p, 31, none⟩ = some (.int .i64 D.col) ∧ W.cell? ⟨p, 30, none⟩ = some (.slice h.oA q h.oc) := by
    intro W k
    have h1 := Wy.cellW H ht 6 rfl W k
    rw [hq.out] at h1
    exact ⟨(Wy.tm H ht W k).1, (Wy.tm H ht W k).2, Wy.cellW H ht 7 rfl W k, h1⟩
  go_enter Try.func17, Try.ntmps17
  go_upto_region 3 with fail
  go_cut [5] (fun a wx => a = .int .i64 (k : Int) ∧ Hid (Below w.heap.size w wx))
  case first =>
    go_region_held3 (fun W => isR W (.pointer (some ⟨p, 0, none⟩)) = true ∧ csR W (.pointer (some ⟨p, 0, none⟩)) = D.t.cs ∧ W.cell? ⟨p, 31, none⟩ = some (.int .i64 D.col) ∧ W.cell? ⟨p, 30, none⟩ = some (.slice h.oA q h.oc)) (exact bz _ (by repeat (first | exact Below.refl _ _ | exact b2 | with_reducible apply bel_dr | with_reducible apply bel_al))) ((first
      | (go_at_call 31
         (with_reducible refine (L12.fitp_any _ ht D.col A n c b (4096 - (q : Int)) (hid rfl) (slb_up hb (by repeat (first | exact Below.refl _ _ | with_reducible apply bel_dr | with_reducible apply bel_al))) hn.out hm (by omega)).mono ?_)
         rw [hkfit.out]
         rintro e w2 ⟨rfl, k2⟩
         have b2 : Below w.heap.size w w2 := bel_via k2 (by repeat (first | exact Below.refl _ _ | with_reducible apply bel_dr | with_reducible apply bel_al)))))
    all_goals
      go_wp2_with fail
      go_meet
      exact ⟨rfl, hid b2⟩
  case rest =>
  obtain ⟨rfl, K2⟩ := hcut
  have H2 := Wy.bel H K2.out
  have hb2 := slb_up hb K2.out
  have bz2 : ∀ W, Below wc.heap.size wc W → isR W (.pointer (some ⟨p, 0, none⟩)) = true ∧ csR W (.pointer (some ⟨p, 0, none⟩)) = D.t.cs ∧ W.cell? ⟨p, 31, none⟩ = some (.int .i64 D.col) ∧ W.cell? ⟨p, 30, none⟩ = some (.slice h.oA q h.oc) := fun W k => bz W (K2.out.trans (k.mono K2.out.size))
  clear bz
  obtain ⟨v2, hv2⟩ : ∃ v2, v2 = wc := ⟨_, rfl⟩
  subst hv2
  go_upto_region 4 with fail
  go_cut [6, 7] (fun a b wx => ∃ A3 n3 c3, a = .slice A3 n3 c3 ∧ b = .int .i64 (M : Int) ∧ Hid (ys.length = n3) ∧ Hid (SlB wx wx.heap.size A3 c3 ys) ∧ Hid (Below v2.heap.size v2 wx))
  case first =>
    go_region_held3 (fun W => isR W (.pointer (some ⟨p, 0, none⟩)) = true ∧ csR W (.pointer (some ⟨p, 0, none⟩)) = D.t.cs ∧ W.cell? ⟨p, 31, none⟩ = some (.int .i64 D.col) ∧ W.cell? ⟨p, 30, none⟩ = some (.slice h.oA q h.oc)) (exact bz2 _ (by repeat (first | exact Below.refl _ _ | exact b3 | with_reducible apply bel_dr | with_reducible apply bel_al))) ((first
      | (go_at_call 8
         (with_reducible refine (L12.bytespo_any _ ht D.col A k c (b.take k) (hid rfl) (slb_up (hid (hb2.out.take k)) (by repeat (first | exact Below.refl _ _ | with_reducible apply bel_dr | with_reducible apply bel_al))) HT.out (by omega)).mono ?_)
         rw [hx.out]
         rintro e w3 ⟨A3, n3, c3, rfl, N3, O3, k3⟩
         have b3 : Below v2.heap.size v2 w3 := bel_via k3 (by repeat (first | exact Below.refl _ _ | with_reducible apply bel_dr | with_reducible apply bel_al)))))
    all_goals
      go_wp2_with fail
      go_meet
      exact ⟨A3, n3, c3, rfl, rfl, N3, slb_own N3 O3, hid b3⟩
  case rest =>
  obtain ⟨A3, n3, c3, rfl, rfl, N3, S3, K3⟩ := hcut
  have H3 := Wy.bel H2 K3.out
  have hn3 : n3 ≤ 800000 := by rw [← N3.out]; exact hyl
  have c30 := Wy.cellW H3 ht 6 rfl wc (Below.refl _ _)
  rw [hq.out] at c30
  have kx : Below wc.heap.size wc (wc.alloc (.cells #[.slice h.oA q h.oc, .slice A3 n3 c3] 27)) := (Below.refl _ _).alloc (Nat.le_refl _) _
  have H4 := Wy.bel H3 kx
  have S4 := slb_up S3 kx
  have L4 := slb_up (Wy.outS H3) kx
  have HX := hid (Box.new wc 27 #[.slice h.oA q h.oc, .slice A3 n3 c3])
  clear kx bz2
  go_wp2_with (first
    | (go_at_call 26
       (with_reducible refine (concat_new _ _ h.oA A3 q n3 h.oc c3 D.out ys HX.out L4 S4 hq N3 (by omega) (hid rfl)).mono ?_)
       rintro e w5 ⟨A5, n5, c5, rfl, N5, O5, k5⟩
       have H5 := Wy.bel H4 k5.out
       have z30 := Wy.fz H5 30
       have c30 := Wy.cellW H5 ht 6 rfl w5 (Below.refl _ _)
       have z31 := Wy.fz H5 31
       have c31 := Wy.cellW H5 ht 7 rfl w5 (Below.refl _ _)
       have H6 := Wy.out_ H5 ht N5 (slb_own N5 O5) (Wy.fresh H4 O5.out)
       have H7 := Wy.col_ H6 ht (M : Int)))
  go_ret
  exact ⟨rfl, Wy.left H7⟩

end
end Go.Proofs.Ytggcampdkgfmgaa
namespace Go.Proofs.Ytggcampdkgfmgaa
open Go.RowKit

/-! Layer 16: the public calls: Ask, New, Used, and those of no discipline. -/
theorem askF_len (t : Tm) (s h : Bool) (n : Int) : (L15.askF t s h n).2.1.length ≤ 10 := by
  have h1 : ∀ op, (L15.toldF t op).length ≤ 10 := fun op => by unfold L15.toldF; split <;> simp
  unfold L15.askF
  repeat' split
  all_goals first | exact h1 _ | simp
theorem list24q {cs : List Value} (h : cs.length = 24) : ∃ a b c d e f g i j k m n o p q r s t u v w x y z, cs = [a, b, c, d, e, f, g, i, j, k, m, n, o, p, q, r, s, t, u, v, w, x, y, z] := L12.list24 h
def ph0 : Ph := ⟨none, 0, none, 0, [], none, 0, none, 0⟩
theorem built45 {cs : List Value} (h : cs.length = 24) :
    Try.prog.built 88 [(0, .agg cs.toArray)] = some (cs ++ ([.slice none 0 0, .bool false, .slice none 0 0, .slice none 0 0, .bool false, .bool false, .slice none 0 0, .int .i64 0, .int .i64 0, .int .i64 0] : List Value)).toArray := by
  obtain ⟨a, b, c, d, e, f, g, i, j, k, m, n2, o, p, q, r, s, t, u, v, w, x, y, z, rfl⟩ := L12.list24 h
  kernel_rfl
theorem bldN {ops : Array Oper} {rest : List Oper} {o : Oper} {a : Act} {w : World} {Q : Exit → Act → World → Prop} (hw : Region.wanted o (yielded ops a.tmps) = true) (x : Operand) (ho : o.op = .build 88 #[(0, x)]) (t : Tm) (ht : t.c.length = 19) (hx : a.eval x = .agg t.cs)
    (hk : wpList Try.prog ops Q rest (a.put o.dst (.agg (tmV t (dRest (newD t) ph0)))) w) : wpList Try.prog ops Q (o :: rest) a w :=
  BigFrame.wpList_want hw fun _ hK => by
    have h4 := run_build (P := Try.prog) w 88 #[(0, .agg t.cs)] _ (built45 (cl_len ht))
    unfold Oper.wp execOp
    simp only [ho, List.map_toArray, List.map_cons, List.map_nil, Sem.run_bind, hx]
    rw [h4]
    exact hK _ _ hk
theorem size45 : (Try.prog.info? 88).map (·.size) = some 34 := by kernel_rfl
section
variable {w : World} {p : Nat} {S : Nat → Prop} {D : Ds}
attribute [local go_sem ↓] wp_ldR ex_ldR

set_option maxRecDepth 100000 in
set_option maxHeartbeats 2000000 in
theorem newp_any (w : World) (t : Tm) (ht : t.Ok) : Calls Try.prog 29 #[.agg t.cs] w fun e w' => ∃ p S, e = .returned (.pointer (some ⟨p, 0, none⟩)) ∧ Hid (DAt w' p S (newD t)) ∧ Hid (∀ x, S x → w.heap.size ≤ x) ∧ Hid (Below w.heap.size w w') := by
  have hs := cs_size ht.len
  have hsz : (Try.prog.info? 88).map (·.size) = some (tmV t (dRest (newD t) ph0)).size := by rw [tmV_size ht]; exact size45
  replace hsz := hid hsz
  go_enter Try.func29, Try.ntmps29
  go_wp2_with (first
    | (refine bx26 (by rfl) _ (by rfl) _ (by rfl) hs ?_
       intro G0)
    | (refine ld26 (by rfl) _ (by rfl) _ (by rfl) t.cs G0.out hs ?_)
    | (refine bldN (by rfl) _ (by rfl) t ht.len (by rfl) ?_)
    | (refine bxT (by rfl) 88 _ (by rfl) _ (by rfl) hsz.out ?_))
  go_ret
  refine ⟨w.heap.size + 1, fun x => x = w.heap.size + 1, rfl, hid ⟨ph0, ?_⟩, hid (fun x hx => by subst hx; omega), hid (((Below.refl _ w).alloc (Nat.le_refl _) _).alloc (by simp) _)⟩
  refine ⟨box_nw (by simp), (slb_nil0 _).out, (slb_nil0 _).out, (slb_nil0 _).out, (L13.LnO.nil _ 0 0).ln, rfl, (fun h => absurd rfl h), (fun r hr => by cases hr), rfl, (fun h => absurd rfl h), (fun h => absurd rfl h), (fun h => absurd rfl h), fun x hx => ?_⟩
  have hx : x = w.heap.size + 1 := hx
  subst hx
  simp
end
end Go.Proofs.Ytggcampdkgfmgaa
