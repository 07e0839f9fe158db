import Derived.Test.YtggcampdkgfmgaaTX
import Derived.Test.YtggcampdkgfmgaaTF
import Derived.Deep.DeepCutAuto
namespace Go.Proofs.Ytggcampdkgfmgaa
open Go.RowKit

/-! TopCarries. -/
theorem GS.lt2 {w0 w : World} {g p : Nat} {S : Nat → Prop} {P : Ps} (H : AlP w0 w g p S P) {x : Nat} (h : GS g S x) : x < w.heap.size := by
  rcases h with h | rfl
  · exact H.at_.at_.top _ h
  · exact H.at_.lt
theorem GS.new2 {w w' : World} {g p : Nat} {S S' : Nat → Prop} {P' : Ps} (h : Py w g p S w' S' P') {x : Nat} (hx : GS g S' x) : GS g S x ∨ w.heap.size ≤ x := by
  rcases hx with hx | rfl
  · rcases h.new _ hx with h | h
    · exact .inl (.inl h)
    · exact .inr h
  · exact .inl (.inr rfl)
set_option maxRecDepth 100000 in
theorem opened_any (w : World) (t : Tm) (ht : t.Ok) : Calls Try.prog 5 #[.agg t.cs] w fun e w' => ∃ g p S, e = .returned (.tuple #[.pointer (some ⟨g, 0, none⟩), .bool true]) ∧ Hid (AlP w w' g p S { newPt t ⟨0, 0, 0, 0⟩ with sl := 1 }) := by
  have hs := cs_size ht.len
  have K0 := old26 w t
  have cP : ∀ W, Calls Try.prog 13 #[.agg t.cs, .agg #[.int .u32 0, .int .u32 0, .int .u32 0, .int .u32 0]] W fun e w' => ∃ g p S, e = .returned (.pointer (some ⟨g, 0, none⟩)) ∧ Hid (AlP W w' g p S (newPt t ⟨0, 0, 0, 0⟩)) := fun W => newpt_any W t ht ⟨0, 0, 0, 0⟩
  have hop : Hid (openP (newPt t ⟨0, 0, 0, 0⟩) = ({ newPt t ⟨0, 0, 0, 0⟩ with sl := 1 }, 0)) := hid (by
    have h : wrap64 ((0 : Int) + 1) = 1 := by decide +kernel
    unfold openP newPt
    rw [if_neg (by show ¬ false = true; decide)]
    dsimp only
    rw [h])
  go_enter Try.func5, Try.ntmps5
  go_wp2_with (first
    | (refine bx26 (by rfl) _ (by rfl) _ (by rfl) hs ?_
       intro G0)
    | (refine ld26 (by rfl) _ (by rfl) _ (by rfl) t.cs G0.out hs ?_)
    | (refine wpList_build_at rfl 56 _ rfl #[.int .u32 0, .int .u32 0, .int .u32 0, .int .u32 0] ?hc ?_
       case hc => kernel_rfl)
    | (go_at_call 13
       (with_reducible refine (cP _).mono ?_)
       rintro e v3 ⟨g1, p1, S1, rfl, H3⟩)
    | (go_at_call 14
       (with_reducible refine (open_any (AlP.py H3) hop).mono ?_)
       rintro e v5 ⟨rfl, O5⟩
       obtain ⟨S5, H5, -⟩ := H3.out.nextO O5))
  go_ret2
  exact ⟨g1, p1, S5, rfl, hid ⟨H5.out.at_, fun x hx => Nat.le_trans K0.out.size (H5.out.new x hx), K0.out.trans (H5.out.bel.mono K0.out.size)⟩⟩
/-- What has been written has gone out, or waits to. -/
structure Cr (t : Tm) (bs : List UInt8) (j : Nat) (R : List UInt8) (D : Ds) : Prop where
  inv : Inv D
  te : D.t = t
  s : D.s = false
  out : R ++ D.out = (L12.bytesP (L12.poF t) 0 (bs.take j)).1
  col : D.col = ((L12.bytesP (L12.poF t) 0 (bs.take j)).2 : Int)
theorem Cr.write {t : Tm} {bs : List UInt8} {j : Nat} {R : List UInt8} {D : Ds} (H : Cr t bs j R D) (s : Nat) (hs : s ≤ 300) (ho : D.out.length ≤ 2000) : Cr t bs (j + s) R (writeD D ((bs.drop j).take s)) ∧ writeN D ((bs.drop j).take s) = ((bs.drop j).take s).length ∧ (writeD D ((bs.drop j).take s)).out.length ≤ D.out.length + 2 * ((bs.drop j).take s).length := by
  have hl : ((bs.drop j).take s).length ≤ s := by rw [List.length_take]; omega
  have hroom : D.out.length + 2 * ((bs.drop j).take s).length ≤ 4096 := by omega
  have hn : nrm D.col = (L12.bytesP (L12.poF t) 0 (bs.take j)).2 := by
    rw [H.col]
    exact nrm_nat (L12.bytesP_le (L12.poF t) (bs.take j) 0 (by omega))
  have e : writeD D ((bs.drop j).take s) = { D with out := D.out ++ (L12.bytesP (L12.poF t) (L12.bytesP (L12.poF t) 0 (bs.take j)).2 ((bs.drop j).take s)).1, col := ((L12.bytesP (L12.poF t) (L12.bytesP (L12.poF t) 0 (bs.take j)).2 ((bs.drop j).take s)).2 : Int) } := by
    rw [writeD_all hroom, hn, H.te]
  have ea : bs.take (j + s) = bs.take j ++ (bs.drop j).take s := by rw [List.take_add]
  have hb := L12.bytesP_len (L12.poF t) ((bs.drop j).take s) (L12.bytesP (L12.poF t) 0 (bs.take j)).2
  refine ⟨⟨H.inv.write _, ?_, ?_, ?_, ?_⟩, writeN_all hroom, ?_⟩
  · rw [e]; exact H.te
  · rw [e]; exact H.s
  · rw [e, ea, L12.bytesP_append]
    show R ++ (D.out ++ _) = _
    rw [← List.append_assoc, H.out]
  · rw [e, ea, L12.bytesP_append]
  · rw [e]
    show (D.out ++ _).length ≤ _
    rw [List.length_append]
    omega
theorem Cr.read {t : Tm} {bs : List UInt8} {j : Nat} {R : List UInt8} {D : Ds} (H : Cr t bs j R D) {Q : Nat} (hQ : 0 < Q) : Cr t bs j (R ++ outputB D (Q : Int)) (outputD D (Q : Int)) ∧ (outputB D (Q : Int)).length + (outputD D (Q : Int)).out.length = D.out.length ∧ (D.out.length ≠ 0 → 1 ≤ (outputB D (Q : Int)).length) := by
  have hN : outN16 D (Q : Int) = min Q D.out.length := by
    unfold outN16
    rw [if_neg (by rw [H.s]; decide)]
    omega
  have h1 : (outputB D (Q : Int)) ++ (outputD D (Q : Int)).out = D.out := by
    unfold outputB outputD
    exact List.take_append_drop _ _
  refine ⟨⟨H.inv.output _, H.te, H.s, by rw [List.append_assoc, h1]; exact H.out, H.col⟩, by rw [← List.length_append, h1], fun h => ?_⟩
  unfold outputB
  rw [List.length_take, hN]
  omega
theorem sw_al {w0 w : World} {g p : Nat} {S : Nat → Prop} {t : Tm} {D : Ds} (H : Hid (AlP w0 w g p S { newPt t ⟨0, 0, 0, 0⟩ with sl := 1, d := D })) (hI : Hid (Inv D)) (A : Option Addr) (n c : Nat) (b : List UInt8) (hb : Hid (SlB w w.heap.size A c b)) (hn : Hid (b.length = n)) (hn0 : 0 < n) (hm : n ≤ 20000) (hA : Hid (b ≠ [] → ∀ a, A = some a → ¬ S a.block)) (hN : Hid (writeN D b = b.length)) {D' : Ds} (hD : Hid (writeD D b = D')) :
    Calls Try.prog 6 #[.pointer (some ⟨g, 0, none⟩), .slice A n c] w fun e w' => ∃ S', e = .returned (.tuple #[.int .i64 (n : Int), .int .i64 0]) ∧ Hid (AlP w0 w' g p S' { newPt t ⟨0, 0, 0, 0⟩ with sl := 1, d := D' }) ∧ Hid (Py w g p S w' S' { newPt t ⟨0, 0, 0, 0⟩ with sl := 1, d := D' }) := by
  have hr : Hid (wrP { newPt t ⟨0, 0, 0, 0⟩ with sl := 1, d := D } b = ({ newPt t ⟨0, 0, 0, 0⟩ with sl := 1, d := D' }, n, 0)) := hid (by
    unfold wrP wnP newPt
    rw [if_neg (by show ¬ false = true; decide)]
    show (_, _, _) = _
    rw [hN.out, hn.out, hD.out, if_neg (fun h => by have := h.1; omega)])
  refine (swrite_any (AlP.py H) (hid hI.out.fit) A n c b hb hn (by omega) hA hr).mono ?_
  rintro e w' ⟨rfl, S', h1⟩
  exact ⟨S', rfl, hid (H.out.next h1), h1⟩
theorem mr_al {w0 w : World} {g p : Nat} {S : Nat → Prop} {t : Tm} {D : Ds} (H : Hid (AlP w0 w g p S { newPt t ⟨0, 0, 0, 0⟩ with sl := 1, d := D })) (hI : Hid (Inv D)) (Q : Int) (hQ : i64ok Q) {b : List UInt8} (hb : Hid (outputB D Q = b)) {D' : Ds} (hD : Hid (outputD D Q = D')) :
    Calls Try.prog 7 #[.pointer (some ⟨g, 0, none⟩), .int .i64 Q] w fun e w' => ∃ A n c S' er, e = .returned (.tuple #[.slice A n c, .int .i64 er]) ∧ Hid (b.length = n) ∧ Hid (SlB w' w'.heap.size A c b) ∧ Hid (AlP w0 w' g p S' { newPt t ⟨0, 0, 0, 0⟩ with sl := 1, d := D' }) ∧ Hid (Py w g p S w' S' { newPt t ⟨0, 0, 0, 0⟩ with sl := 1, d := D' }) := by
  obtain ⟨er, hr⟩ : ∃ er, Hid (mrP { newPt t ⟨0, 0, 0, 0⟩ with sl := 1, d := D } Q = ({ newPt t ⟨0, 0, 0, 0⟩ with sl := 1, d := D' }, b, er)) := ⟨_, hid (by
    unfold mrP tkP newPt
    rw [if_neg (by show ¬ false = true; decide)]
    show (_, outputB D Q, _) = _
    rw [hb.out, ← hD.out])⟩
  refine (mread_any (AlP.py H) (hid hI.out.fit) Q hQ hr).mono ?_
  rintro e w' ⟨A, n, c, S', rfl, hn, hs, h1, _⟩
  exact ⟨A, n, c, S', er, rfl, hn, hs, hid (H.out.next h1), h1⟩
theorem sizeCa : (Try.prog.info? 29).map (·.size) = some 27 := by kernel_rfl
attribute [local go_sem ↓] wp_st26 wp_ldR ex_ld26 wq_ld26 Go.wp_at_zero Go.wp_at_succ
attribute [local go_sem] isP_v blkV_v aggV_v
set_option maxRecDepth 100000 in
set_option maxHeartbeats 16000000 in
theorem carries_walk (w : World) (t : Tm) (ht : t.Ok) (A : Option Addr) (c n : Nat) (bs : List UInt8) (qn q : UInt8) (hb : Hid (SlB w w.heap.size A c bs)) (hn : Hid (bs.length = n)) (r : List Value) (hr : r = [.slice A n c, .int .u8 (qn.toNat : Int), .int .u8 (q.toNat : Int)]) :
    Calls Try.prog 3 #[.agg (tmV t r)] w fun e w' => e = .returned (.bool true) ∧ Hid (Below w.heap.size w w') := by
  have hl := ht.len
  have hs := cs_size hl
  have hsz : Hid ((Try.prog.info? 29).map (·.size) = some (tmV t r).size) := hid (by rw [tmV_size ht, hr]; exact sizeCa)
  have HB0 : Hid (Box (w.alloc (.cells (tmV t r) 29)) w.heap.size 29 (tmV t r)) := hid (Box.new w _ _)
  have HK0 : Hid (Below w.heap.size w (w.alloc (.cells (tmV t r) 29))) := hid ((Below.refl _ w).alloc (Nat.le_refl _) _)
  have F24 : Hid ((tmV t r)[24]? = some (.slice A n c)) := hid (tmV_back ht (j := 0) (by rw [hr]; rfl))
  have F25 : Hid ((tmV t r)[25]? = some (.int .u8 (qn.toNat : Int))) := hid (tmV_back ht (j := 1) (by rw [hr]; rfl))
  have F26 : Hid ((tmV t r)[26]? = some (.int .u8 (q.toNat : Int))) := hid (tmV_back ht (j := 2) (by rw [hr]; rfl))
  generalize hV : tmV t r = V at hsz HB0 HK0 F24 F25 F26 ⊢
  have F0 : Hid (∀ (j : Nat) (v : Value), t.cl[j]? = some v → V[j]? = some v) := hid (by rw [← hV]; exact tmV_front r)
  clear hV hr
  go_enter Try.func3, Try.ntmps3
  go_wp2_with (first
    | (refine bxT (by rfl) 29 _ (by rfl) _ (by rfl) hsz.out ?_)
    | (go_at_call 4
       (with_reducible refine (shaken_any _).mono ?_)
       rintro e v1 ⟨rfl, k1⟩
       have HK1 := bel_t HK0 k1.out
       have HB1 := hid (box_below HB0.out k1.out)
       clear k1 HB0 HK0))
  go_cut [3, 4, 5, 6] (fun a b x y wx => ∃ g, a = .pointer (some ⟨g, 0, none⟩) ∧ b = .slice A n c ∧ x = .int .u8 (qn.toNat : Int) ∧ y = .int .u8 (q.toNat : Int) ∧ w.heap.size ≤ g ∧ Hid (Below w.heap.size w wx) ∧ Hid (Box wx g 26 t.cs))
  case first =>
    obtain ⟨r1, r2⟩ := front_R (W := v1.drew) (g := w.heap.size) hl HB1.out F0.out
    obtain ⟨r3, r4⟩ := front_R (W := (v1.alloc (.cells #[.int .u8 0, .int .u8 0, .int .u8 0, .int .u8 0, .int .u8 0, .int .u8 0, .int .u8 0, .int .u8 0, .int .u8 0, .int .u8 0, .int .u8 0, .int .u8 0, .int .u8 0, .int .u8 0, .int .u8 0, .int .u8 0, .int .u8 0, .int .u8 0, .int .u8 0, .int .u64 0, .int .u32 0, .int .u32 0, .int .i64 0, .int .i64 0] 26)).drew) (g := w.heap.size) hl (box_dr (box_al HB1.out)) F0.out
    obtain ⟨r31, r41⟩ := front_R (W := v1.drew.alloc (.cells #[.int .u8 0, .int .u8 0, .int .u8 0, .int .u8 0, .int .u8 0, .int .u8 0, .int .u8 0, .int .u8 0, .int .u8 0, .int .u8 0, .int .u8 0, .int .u8 0, .int .u8 0, .int .u8 0, .int .u8 0, .int .u8 0, .int .u8 0, .int .u8 0, .int .u8 0, .int .u64 0, .int .u32 0, .int .u32 0, .int .i64 0, .int .i64 0] 26)) (g := w.heap.size) hl (box_al (box_dr HB1.out)) F0.out
    have r5 := isB_new v1 #[.int .u8 0, .int .u8 0, .int .u8 0, .int .u8 0, .int .u8 0, .int .u8 0, .int .u8 0, .int .u8 0, .int .u8 0, .int .u8 0, .int .u8 0, .int .u8 0, .int .u8 0, .int .u8 0, .int .u8 0, .int .u8 0, .int .u8 0, .int .u8 0, .int .u8 0, .int .u64 0, .int .u32 0, .int .u32 0, .int .i64 0, .int .i64 0] rfl
    have r51 := isB_new v1.drew #[.int .u8 0, .int .u8 0, .int .u8 0, .int .u8 0, .int .u8 0, .int .u8 0, .int .u8 0, .int .u8 0, .int .u8 0, .int .u8 0, .int .u8 0, .int .u8 0, .int .u8 0, .int .u8 0, .int .u8 0, .int .u8 0, .int .u8 0, .int .u8 0, .int .u8 0, .int .u64 0, .int .u32 0, .int .u32 0, .int .i64 0, .int .i64 0] rfl
    have r52 : isB (v1.alloc (.cells #[.int .u8 0, .int .u8 0, .int .u8 0, .int .u8 0, .int .u8 0, .int .u8 0, .int .u8 0, .int .u8 0, .int .u8 0, .int .u8 0, .int .u8 0, .int .u8 0, .int .u8 0, .int .u8 0, .int .u8 0, .int .u8 0, .int .u8 0, .int .u8 0, .int .u8 0, .int .u64 0, .int .u32 0, .int .u32 0, .int .i64 0, .int .i64 0] 26)).drew v1.heap.size = true := r5
    have r53 : isB (v1.drew.alloc (.cells #[.int .u8 0, .int .u8 0, .int .u8 0, .int .u8 0, .int .u8 0, .int .u8 0, .int .u8 0, .int .u8 0, .int .u8 0, .int .u8 0, .int .u8 0, .int .u8 0, .int .u8 0, .int .u8 0, .int .u8 0, .int .u8 0, .int .u8 0, .int .u8 0, .int .u8 0, .int .u64 0, .int .u32 0, .int .u32 0, .int .i64 0, .int .i64 0] 26)) v1.heap.size = true := r51
    have hne : w.heap.size ≠ v1.heap.size := by have := HB1.out.lt; omega
    have c24 : v1.cell? ⟨w.heap.size, 24, none⟩ = some (.slice A n c) := (HB1.out.cell 24).trans F24.out
    have d24 : ∀ o, (v1.alloc o).cell? ⟨w.heap.size, 24, none⟩ = some (.slice A n c) := fun o => cellOld o c24
    have e24 : ∀ o cs, ((v1.alloc o).drew.setRow v1.heap.size cs).cell? ⟨w.heap.size, 24, none⟩ = some (.slice A n c) := fun o cs => (cell_setRow_other _ _ _ _ hne).trans (d24 o)
    have c25 : v1.cell? ⟨w.heap.size, 25, none⟩ = some (.int .u8 (qn.toNat : Int)) := (HB1.out.cell 25).trans F25.out
    have d25 : ∀ o, (v1.alloc o).cell? ⟨w.heap.size, 25, none⟩ = some (.int .u8 (qn.toNat : Int)) := fun o => cellOld o c25
    have e25 : ∀ o cs, ((v1.alloc o).drew.setRow v1.heap.size cs).cell? ⟨w.heap.size, 25, none⟩ = some (.int .u8 (qn.toNat : Int)) := fun o cs => (cell_setRow_other _ _ _ _ hne).trans (d25 o)
    have c26 : v1.cell? ⟨w.heap.size, 26, none⟩ = some (.int .u8 (q.toNat : Int)) := (HB1.out.cell 26).trans F26.out
    have d26 : ∀ o, (v1.alloc o).cell? ⟨w.heap.size, 26, none⟩ = some (.int .u8 (q.toNat : Int)) := fun o => cellOld o c26
    have e26 : ∀ o cs, ((v1.alloc o).drew.setRow v1.heap.size cs).cell? ⟨w.heap.size, 26, none⟩ = some (.int .u8 (q.toNat : Int)) := fun o cs => (cell_setRow_other _ _ _ _ hne).trans (d26 o)
    obtain ⟨r6, r7⟩ := okS_cs hl
    have hgw : w.heap.size ≤ v1.heap.size := HK1.out.size
    go_region
    all_goals
      obtain ⟨HK3, HG3, _⟩ := bel_new (g := v1.heap.size) t.cs #[.int .u8 0, .int .u8 0, .int .u8 0, .int .u8 0, .int .u8 0, .int .u8 0, .int .u8 0, .int .u8 0, .int .u8 0, .int .u8 0, .int .u8 0, .int .u8 0, .int .u8 0, .int .u8 0, .int .u8 0, .int .u8 0, .int .u8 0, .int .u8 0, .int .u8 0, .int .u64 0, .int .u32 0, .int .u32 0, .int .i64 0, .int .i64 0] rfl HK1
      generalize hW : World.setRow _ _ _ = u3 at HK3 HG3 ⊢
      clear hW r1 r2 r3 r4 r31 r41 r5 r51 r52 r53 c24 d24 e24 c25 d25 e25 c26 d26 e26 hne HB1 HK1
      go_wp2_with fail
      go_meet
      exact ⟨_, rfl, rfl, rfl, rfl, hgw, HK3, HG3⟩
  case rest =>
  obtain ⟨g, rfl, rfl, rfl, rfl, hgw, K2, X2⟩ := hcut
  obtain ⟨v2, hv2⟩ : ∃ v2, v2 = wc := ⟨_, rfl⟩
  subst hv2
  clear HB1 HK1 F24 F25 F26 F0 hsz
  by_cases h1 : 1000 < n
  · have k1 : (n : Int) > 1000 := by omega
    go_wp2_with fail
    go_ret
    exact ⟨rfl, K2⟩
  have k1 : ¬ (n : Int) > 1000 := by omega
  have L2 := slb_at hb K2
  have h1000 : n ≤ 1000 := by omega
  clear h1
  go_upto_region 9 with (first
    | (refine ld26 (by rfl) _ (by rfl) _ (by rfl) t.cs X2.out hs ?_)
    | (go_at_call 5
       (with_reducible refine (opened_any v2 t ht).mono ?_)
       rintro e v3 ⟨g1, p1, S1, rfl, H3⟩
       have H3 : Hid (AlP v2 v3 g1 p1 S1 { newPt t ⟨0, 0, 0, 0⟩ with sl := 1, d := newD t }) := H3))
  clear k1
  have hqn := qn.toNat_lt
  have hq := q.toNat_lt
  obtain ⟨Qn, hQn⟩ : ∃ Q, Hid (qn.toNat + 1 = Q) := ⟨_, hid rfl⟩
  obtain ⟨Qm, hQm⟩ : ∃ Q, Hid (q.toNat + 1 = Q) := ⟨_, hid rfl⟩
  have hQn0 : 0 < Qn := by have := hQn.out; omega
  have hQn1 : Qn ≤ 256 := by have := hQn.out; omega
  have hQm0 : 0 < Qm := by have := hQm.out; omega
  have hQm1 : Qm ≤ 256 := by have := hQm.out; omega
  have hw0 : IntKind.i64.wrap (1 + (qn.toNat : Int)) = (Qn : Int) := by rw [IntKind.wrap_i64, ← hQn.out]; omega
  have hw1 : IntKind.i64.wrap (qn.toNat : Int) = (qn.toNat : Int) := by rw [IntKind.wrap_i64]; omega
  have hw2 : IntKind.i64.wrap (1 + (q.toNat : Int)) = (Qm : Int) := by rw [IntKind.wrap_i64, ← hQm.out]; omega
  have hw3 : IntKind.i64.wrap (q.toNat : Int) = (q.toNat : Int) := by rw [IntKind.wrap_i64]; omega
  have okQ : i64ok (Qm : Int) := by unfold i64ok; omega
  go_wp2_with fail
  go_loopg [9, 10, 38] 2100 (fun gk a b i wr => ∃ (k j : Nat) (S : Nat → Prop) (D : Ds) (R : List UInt8) (A9 : Option Addr) (m9 c9 : Nat) (A8 : Option Addr) (c8 : Nat), k + gk = 2100 ∧ a = .slice A9 m9 c9 ∧ b = .slice A8 (n - j) c8 ∧ i = .int .i64 k ∧ j ≤ n ∧ Hid (R.length = m9) ∧ Hid (SlB v2 v2.heap.size A8 c8 (bs.drop j)) ∧ Hid (AlP v2 wr g1 p1 S { newPt t ⟨0, 0, 0, 0⟩ with sl := 1, d := D }) ∧ Hid (Cr t bs j R D) ∧ Hid (wr.ownsRow 0 5 1 (.slice A9 m9 c9) m9 (bv R)) ∧ Hid (∀ x, A9 = some x → v2.heap.size ≤ x.block ∧ ¬ GS g1 S x.block ∧ x.block < wr.heap.size) ∧ Hid (2 * (n - j) + D.out.length = 0 ∨ k + 2 * (n - j) + D.out.length ≤ 2000))
  case atStart => exact ⟨0, 0, S1, newD t, [], none, 0, 0, A, c, by omega, rfl, rfl, rfl, Nat.zero_le _, hid rfl, by rw [List.drop_zero]; exact L2, H3, hid ⟨Inv.new ht, rfl, rfl, rfl, rfl⟩, own_nil0 _, hid (fun x h => by cases h), hid (.inr (by show 0 + 2 * (n - 0) + 0 ≤ 2000; omega))⟩
  case round =>
    clear H3
    obtain ⟨k, j, S, D, R, A9, m9, c9, A8, c8, hk, rfl, rfl, rfl, hjn, hm9, L8, H4, C4, O9, F9, hphi⟩ := hrel
    have hR2 : R.length + D.out.length ≤ 2000 := by
      have h1 := congrArg List.length C4.out.out
      rw [List.length_append] at h1
      have h2 := L12.bytesP_len (L12.poF t) (bs.take j) 0
      rw [List.length_take] at h2
      have := hn.out
      omega
    have I4 := hid C4.out.inv
    by_cases hlt : k < 2100
    · have hki : (k : Int) < 2100 := by omega
      by_cases hj : j < n
      · have hr0 : ((n - j : Nat) : Int) > 0 := by omega
        have hr1 : 0 < n - j := by omega
        have hr2 : j < n := hj
        obtain ⟨s, hs9⟩ : ∃ s, Hid (min (n - j) Qn = s) := ⟨_, hid rfl⟩
        have hs0 : 0 < s := by have := hs9.out; omega
        have hs1 : s ≤ n - j := by have := hs9.out; omega
        have hs2 : s ≤ 256 := by have := hs9.out; omega
        have hmin : min ((n - j : Nat) : Int) (Qn : Int) = (s : Int) := by have := hs9.out; omega
        have hdl : (bs.drop j).length = n - j := by rw [List.length_drop, hn.out]
        have hpl : Hid (((bs.drop j).take s).length = s) := hid (by rw [List.length_take, hdl]; omega)
        obtain ⟨hC, hNw, hol⟩ := C4.out.write s (by omega) (by omega)
        obtain ⟨D1, hD1⟩ : ∃ D1, Hid (writeD D ((bs.drop j).take s) = D1) := ⟨_, hid rfl⟩
        rw [hD1.out] at hC hol
        have C1 := hid hC
        have hNw := hid hNw
        have hol : D1.out.length ≤ D.out.length + 2 * s := by rw [hpl.out] at hol; exact hol
        have hf := run_front L8.out hdl hs1
        obtain ⟨A7, c7, hbk, L7⟩ := run_back L8.out hdl hs1
        have e7 : n - j - s = n - (j + s) := by omega
        rw [e7] at hbk
        have L7 : Hid (SlB v2 v2.heap.size A7 c7 (bs.drop (j + s))) := by rw [List.drop_drop] at L7; exact L7
        have hphi1 : (2 * (n - (j + s)) + D1.out.length = 0) ∨ (D1.out.length = 0 ∧ k + 1 + 2 * (n - (j + s)) ≤ 2000) ∨ (D1.out.length ≠ 0 ∧ k + 2 * (n - (j + s)) + D1.out.length ≤ 2000) := by have := hphi.out; omega
        have hj1 : j + s ≤ n := by omega
        obtain ⟨j1, hj9⟩ : ∃ j1, j + s = j1 := ⟨_, rfl⟩
        rw [hj9] at C1 L7 hphi1 hj1 hbk
        have hphi1 := hid hphi1
        clear hC hol e7
        go_upto_region 18 with (first
          | (go_at_call 6
             (with_reducible refine (sw_al H4 I4 A8 s c8 ((bs.drop j).take s) (slb_at (hid (L8.out.take s)) (hid H4.out.bel)) hpl hs0 (by omega) (AlP.fr H4 (hid (slb_lt (hid (L8.out.take s))))) hNw hD1).mono ?_)
             rintro e w1 ⟨S5, rfl, H5, Y5⟩
             have O10 := own_but O9 Y5.out.but (fun x hx => (F9.out x hx).2.1)
             have F10 : Hid (∀ x, A9 = some x → v2.heap.size ≤ x.block ∧ ¬ GS g1 S5 x.block ∧ x.block < w1.heap.size) := hid (fun x hx => ⟨(F9.out x hx).1, (fun hg => by
               rcases GS.new2 Y5.out hg with h1 | h1
               · exact (F9.out x hx).2.1 h1
               · have := (F9.out x hx).2.2; omega), Nat.lt_of_lt_of_le (F9.out x hx).2.2 Y5.out.but.size⟩)))
        clear H4 O9 F9 hf hbk hmin
        have I1 := hid C1.out.inv
        have hR3 : R.length + D1.out.length ≤ 2000 := by
          have h1 := congrArg List.length C1.out.out
          rw [List.length_append] at h1
          have h2 := L12.bytesP_len (L12.poF t) (bs.take j1) 0
          rw [List.length_take] at h2
          have := hn.out
          omega
        obtain ⟨hC2, hlen2, hne2⟩ := C1.out.read hQm0
        obtain ⟨D2, hD2⟩ : ∃ D2, Hid (outputD D1 (Qm : Int) = D2) := ⟨_, hid rfl⟩
        obtain ⟨b, hbb⟩ : ∃ b, Hid (outputB D1 (Qm : Int) = b) := ⟨_, hid rfl⟩
        rw [hD2.out, hbb.out] at hC2 hlen2
        rw [hbb.out] at hne2
        have C2 := hid hC2
        obtain ⟨N, hN⟩ : ∃ N, Hid (b.length = N) := ⟨_, hid rfl⟩
        rw [hN.out] at hlen2 hne2
        have hphi2 : Hid (2 * (n - j1) + D2.out.length = 0 ∨ k + 1 + 2 * (n - j1) + D2.out.length ≤ 2000) := hid (by have := hphi1.out; omega)
        have hNl : N ≤ 2000 := by omega
        have hm9b : m9 ≤ 2000 := by have := hm9.out; omega
        clear hC2 hlen2 hne2
        go_wp2_with (first
          | (go_at_call 7
             (with_reducible refine (mr_al H5 I1 (Qm : Int) okQ hbb hD2).mono ?_)
             rintro e w2 ⟨A6, n6, c6, S6, er, rfl, N6, L6, H6, Y6⟩
             obtain rfl : N = n6 := hN.out.symm.trans N6.out
             have O11 := own_but O10 Y6.out.but (fun x hx => (F10.out x hx).2.1)
             have F11 : Hid (∀ x, A9 = some x → v2.heap.size ≤ x.block ∧ ¬ GS g1 S6 x.block ∧ x.block < w2.heap.size) := hid (fun x hx => ⟨(F10.out x hx).1, (fun hg => by
               rcases GS.new2 Y6.out hg with h1 | h1
               · exact (F10.out x hx).2.1 h1
               · have := (F10.out x hx).2.2; omega), Nat.lt_of_lt_of_le (F10.out x hx).2.2 Y6.out.but.size⟩))
          | (at_builtin
             (refine app_but w2 rfl _ _ rfl m9 c9 A9 R (by rfl) O11 A6 N c6 b (by rfl) L6 hN.out (by omega) ?_
              intro A12 c12 u12 O12 B12 F12)))
        go_roundg (gk - 1)
        case measure => omega
        case rel => exact ⟨k + 1, j1, S6, D2, R ++ b, A12, m9 + N, c12, A7, c7, by omega, rfl, rfl, by go_num, hj1, hid (by rw [List.length_append, hm9.out, hN.out]), L7,
          hid ⟨H6.out.at_.keep B12.out (fun x hg => by
            rintro ⟨y, hy, rfl⟩
            exact (F11.out y hy).2.1 hg), H6.out.new, H6.out.bel.trans (B12.out.below H6.out.bel.size (fun x hx => by obtain ⟨y, hy, rfl⟩ := hx; exact (F11.out y hy).1))⟩, C2, O12,
          hid (fun x hx => by
            rcases F12.out x hx with ⟨y, hy, e⟩ | h
            · rw [← e]
              exact ⟨(F11.out y hy).1, (F11.out y hy).2.1, Nat.lt_of_lt_of_le (F11.out y hy).2.2 B12.out.size⟩
            · exact ⟨Nat.le_trans H6.out.bel.size h, fun hg => by have := GS.lt2 H6.out hg; omega, by subst hx; exact own_lt O12 rfl⟩), hphi2⟩
      · have hr0 : ¬ ((n - j : Nat) : Int) > 0 := by omega
        have hr1 : ¬ 0 < n - j := by omega
        have hr2 : ¬ j < n := hj
        have hphi1 : Hid ((2 * (n - j) + D.out.length = 0) ∨ (D.out.length = 0 ∧ k + 1 + 2 * (n - j) ≤ 2000) ∨ (D.out.length ≠ 0 ∧ k + 2 * (n - j) + D.out.length ≤ 2000)) := hid (by have := hphi.out; omega)
        go_upto_region 18 with fail
        have I1 := hid C4.out.inv
        have hR3 : R.length + D.out.length ≤ 2000 := by
          have h1 := congrArg List.length C4.out.out
          rw [List.length_append] at h1
          have h2 := L12.bytesP_len (L12.poF t) (bs.take j) 0
          rw [List.length_take] at h2
          have := hn.out
          omega
        obtain ⟨hC2, hlen2, hne2⟩ := C4.out.read hQm0
        obtain ⟨D2, hD2⟩ : ∃ D2, Hid (outputD D (Qm : Int) = D2) := ⟨_, hid rfl⟩
        obtain ⟨b, hbb⟩ : ∃ b, Hid (outputB D (Qm : Int) = b) := ⟨_, hid rfl⟩
        rw [hD2.out, hbb.out] at hC2 hlen2
        rw [hbb.out] at hne2
        have C2 := hid hC2
        obtain ⟨N, hN⟩ : ∃ N, Hid (b.length = N) := ⟨_, hid rfl⟩
        rw [hN.out] at hlen2 hne2
        have hphi2 : Hid (2 * (n - j) + D2.out.length = 0 ∨ k + 1 + 2 * (n - j) + D2.out.length ≤ 2000) := hid (by have := hphi1.out; omega)
        have hNl : N ≤ 2000 := by omega
        have hm9b : m9 ≤ 2000 := by have := hm9.out; omega
        clear hC2 hlen2 hne2
        go_wp2_with (first
          | (go_at_call 7
             (with_reducible refine (mr_al H4 I1 (Qm : Int) okQ hbb hD2).mono ?_)
             rintro e w2 ⟨A6, n6, c6, S6, er, rfl, N6, L6, H6, Y6⟩
             obtain rfl : N = n6 := hN.out.symm.trans N6.out
             have O11 := own_but O9 Y6.out.but (fun x hx => (F9.out x hx).2.1)
             have F11 : Hid (∀ x, A9 = some x → v2.heap.size ≤ x.block ∧ ¬ GS g1 S6 x.block ∧ x.block < w2.heap.size) := hid (fun x hx => ⟨(F9.out x hx).1, (fun hg => by
               rcases GS.new2 Y6.out hg with h1 | h1
               · exact (F9.out x hx).2.1 h1
               · have := (F9.out x hx).2.2; omega), Nat.lt_of_lt_of_le (F9.out x hx).2.2 Y6.out.but.size⟩))
          | (at_builtin
             (refine app_but w2 rfl _ _ rfl m9 c9 A9 R (by rfl) O11 A6 N c6 b (by rfl) L6 hN.out (by omega) ?_
              intro A12 c12 u12 O12 B12 F12)))
        go_roundg (gk - 1)
        case measure => omega
        case rel => exact ⟨k + 1, j, S6, D2, R ++ b, A12, m9 + N, c12, A8, c8, by omega, rfl, rfl, by go_num, hjn, hid (by rw [List.length_append, hm9.out, hN.out]), L8,
          hid ⟨H6.out.at_.keep B12.out (fun x hg => by
            rintro ⟨y, hy, rfl⟩
            exact (F11.out y hy).2.1 hg), H6.out.new, H6.out.bel.trans (B12.out.below H6.out.bel.size (fun x hx => by obtain ⟨y, hy, rfl⟩ := hx; exact (F11.out y hy).1))⟩, C2, O12,
          hid (fun x hx => by
            rcases F12.out x hx with ⟨y, hy, e⟩ | h
            · rw [← e]
              exact ⟨(F11.out y hy).1, (F11.out y hy).2.1, Nat.lt_of_lt_of_le (F11.out y hy).2.2 B12.out.size⟩
            · exact ⟨Nat.le_trans H6.out.bel.size h, fun hg => by have := GS.lt2 H6.out hg; omega, by subst hx; exact own_lt O12 rfl⟩), hphi2⟩
    · obtain rfl : k = 2100 := by omega
      have hki : ¬ ((2100 : Nat) : Int) < 2100 := by omega
      have hz := hphi.out.resolve_right (by omega)
      have hjn2 : j = n := by omega
      have hD0 : D.out = [] := List.eq_nil_of_length_eq_zero (by omega)
      have hRW : Hid (R = (L12.bytesP (L12.poF t) 0 bs).1) := hid (by
        have h1 := C4.out.out
        rw [hD0, List.append_nil, hjn2, List.take_of_length_le (by have := hn.out; omega)] at h1
        exact h1)
      have hr0 : (((n - j : Nat) : Int) == 0) = true := beq_iff_eq.2 (by omega)
      have hr1 : n - j = 0 := by omega
      obtain ⟨rr, hrr⟩ : ∃ x, n - j = x := ⟨_, rfl⟩
      rw [hrr] at hr0 hr1 ⊢
      subst hr1
      obtain ⟨W, hW⟩ : ∃ W, Hid ((L12.bytesP (L12.poF t) 0 bs).1 = W) := ⟨_, hid rfl⟩
      obtain ⟨M, hM⟩ : ∃ M, Hid ((L12.bytesP (L12.poF t) 0 bs).2 = M) := ⟨_, hid rfl⟩
      have hWM : Hid (L12.bytesP (L12.poF t) 0 bs = (W, M)) := hid (by rw [← hW.out, ← hM.out])
      have X4 := hid (box_below X2.out H4.out.bel)
      have K4 : Hid (Below w.heap.size w wr) := hid (K2.out.trans (H4.out.bel.mono K2.out.size))
      have cB : ∀ (W' : World) (h : Hid (SlB W' W'.heap.size A c bs)), Calls Try.prog 8 #[.agg t.cs, .int .i64 0, .slice A n c] W' (L12.RetPO W' (W, M)) := fun W' h => by
        have := L12.bytespo_any W' ht 0 A n c bs (f := L12.poF t) (hid rfl) h hn.out (by omega)
        rwa [show nrm 0 = 0 from rfl, hWM.out] at this
      have LR : Hid (SlB wr wr.heap.size A9 c9 W) := by have := own0_slb hm9 O9; rwa [hRW.out, hW.out] at this
      have hmW : Hid (W.length = m9) := hid (by rw [← hW.out, ← hRW.out]; exact hm9.out)
      have hml : m9 ≤ maxLen := by have := hm9.out; unfold maxLen; omega
      clear hz hjn2 hD0 hrr hphi
      go_wp2_with (first
        | (refine ld26 (by rfl) _ (by rfl) _ (by rfl) t.cs X4.out hs ?_)
        | (go_at_call 8
           (with_reducible refine (cB _ (slb_at hb K4)).mono ?_)
           rintro e u6 ⟨AW, nW, cW, rfl, hnW, OW, k6⟩
           have L6 := slb_at LR k6
           have K6 := bel_t K4 k6.out
           have LW : Hid (SlB u6 u6.heap.size AW cW W) := slb_own hnW OW)
        | (go_at_call 9
           (with_reducible refine (bytes_two u6 A9 AW c9 cW m9 nW W W hmW.out hnW.out rfl L6 LW hml).mono ?_)
           rintro e u7 ⟨rfl, k7⟩
           have K7 := bel_t K6 k7.out))
      go_ret
      exact ⟨rfl, K7⟩
end Go.Proofs.Ytggcampdkgfmgaa
