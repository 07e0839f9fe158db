import Derived.Test.YtoedhblihodgdaaDoorWK
import Derived.Test.YtoedhblihodgdaaDoorWM
namespace Go.Proofs.YtoedhblihodgdaaDoor
open Go.RowKit

section
variable {P : Program} (w : World)
theorem wpList_app_g {ops : Array Oper} {rest : List Oper} {o : Oper} {a : Act} {Q : Exit → Act → World → Prop} (hw : Region.wanted o (yielded ops a.tmps) = true) (s x : Operand) (t : TypeId)
    (ho : o.op = .call { callee := .builtin .append, args := #[s, x], argTypes := #[t, t] })
    (base : Nat) (e : TypeId) (i : TypeInfo) (z : Value) (size bytes : Nat) (ht : P.underlying t = some (.slice e)) (hi : P.info? e = some i) (hz : i.zero = some z)
    (hsize : i.size = size) (hby : i.bytes = bytes) (hzs : z.cells.size = size) (hsz : 0 < size)
    (A : Option Addr) (n c : Nat) (xs : List Value) (hs : a.eval s = .slice A n c) (hown : w.ownsRow base e size (.slice A n c) n xs)
    (B : Nat) (A2 : Option Addr) (m c2 : Nat) (news : List Value) (hx : a.eval x = .slice A2 m c2) (hl : news.length = m * size) (hr : Lies w B A2 news) (h1 : ∀ u ∈ news, u.oneCell' = true)
    (h63 : n + m ≤ maxLen) (hbytes : (n + m) * bytes ≤ 140737488355328) (hbase : base ≤ w.heap.size)
    (h : ∀ A' c' w', w'.ownsRow base e size (.slice A' (n + m) c') (n + m) (xs ++ news) → w.grownBy w' (Value.slice A n c).ownBlock → wpList P ops Q rest (a.put o.dst (.slice A' (n + m) c')) w') : wpList P ops Q (o :: rest) a w :=
  wpList_step fun _ hK => by
    rw [if_pos hw]
    exact wp_app w s x t ho base e i z size bytes ht hi hz hsize hby hzs hsz A n c xs hs hown B A2 m c2 news hx hl hr h1 h63 hbytes hbase fun A' c' w' h2 h3 => hK _ _ (h A' c' w' h2 h3)
end

theorem FdsV.more {w : World} {B B' : Nat} {A : Option Addr} {l : List Fd} (h : FdsV w B A l) (hB : B ≤ B') : FdsV w B' A l := fun hn => by
  obtain ⟨b, o, e, hlt, hk⟩ := h hn
  refine ⟨b, o, e, by omega, fun k hkl => ?_⟩
  obtain ⟨tA, tc, lA, lc, ⟨a1, a2, a3, a4, g0, g1, g2, g3, g4, g5, g6, g7, g8⟩, h1, h2, h3, h4⟩ := hk k hkl
  exact ⟨tA, tc, lA, lc, ⟨a1, a2, a3, a4, g0, g1, g2, g3, g4, g5, g6.more hB, g7.more hB, g8⟩, h1, h2, h3, h4⟩
theorem FdsV.take {w : World} {B : Nat} {A : Option Addr} {l : List Fd} (h : FdsV w B A l) (n : Nat) : FdsV w B A (l.take n) := fun hn => by
  obtain ⟨b, o, e, hlt, hk⟩ := h (by intro e; subst e; simp at hn)
  refine ⟨b, o, e, hlt, fun k hkl => ?_⟩
  rw [List.getElem_take]
  exact hk k (by simp at hkl; omega)
theorem FdsV.drop {w : World} {B c : Nat} {a : Addr} {l : List Fd} (h : FdsV w B (some a) l) (n : Nat) (hc : l.length ≤ c) : FdsV w B (some (if c = n then a else a.add (n * 4))) (l.drop n) := fun hn => by
  have hlt : n < l.length := by
    have : (l.drop n).length ≠ 0 := fun e => hn (List.eq_nil_of_length_eq_zero e)
    simp at this; omega
  obtain ⟨b, o, e, hb, hk⟩ := h (by intro e; subst e; simp at hlt)
  injection e with e
  subst e
  rw [if_neg (by omega)]
  refine ⟨b, o + n * 4, by rw [Addr.add_lit], hb, fun k hkl => ?_⟩
  rw [List.getElem_drop]
  have h1 := hk (n + k) (by simp at hkl; omega)
  rw [Nat.add_mul, ← Nat.add_assoc] at h1
  exact h1

theorem fds_at {w w2 : World} {A : Option Addr} {l : List Fd} (h : Hid (FdsV w w.heap.size A l)) (hb : Hid (Below w.heap.size w w2)) : Hid (FdsV w2 w2.heap.size A l) := (h.out.below hb.out).more hb.out.size

theorem write_n (W : World) (A : Option Addr) (c n : Nat) (l : List Fd) (er : Int) (bs : List UInt8) (hX : Hid (writeF l = (er, bs))) (hn : l.length = n) (hF : Hid (FdsV W W.heap.size A l)) (hc : n ≤ c) (hc2 : c ≤ maxLen) :
    Calls Tryd.prog 11 #[.slice A n c] W fun e w2 => ∃ A1 c1, e = .returned (.tuple #[.slice A1 bs.length c1, .int .i64 er]) ∧ Hid (Lies w2 w2.heap.size A1 (bv bs)) ∧ Hid (Below W.heap.size W w2) := by
  subst hn
  refine (write_any W A c l hF.out hc hc2).mono ?_
  rw [hX.out]
  rintro e w2 ⟨A1, c1, rfl, ho, hb⟩
  exact ⟨A1, c1, rfl, Lies.own ho, hb⟩

theorem bytes_eq (W : World) (B B2 : Nat) (A A2 : Option Addr) (c c2 n : Nat) (xs : List UInt8) (hn : xs.length = n) (hx : Hid (Lies W B A (bv xs))) (hy : Hid (Lies W B2 A2 (bv xs))) (hl : n ≤ maxLen) :
    Calls Tryd.prog 13 #[.slice A n c, .slice A2 n c2] W fun e w' => e = .returned (.bool true) ∧ Hid (Below W.heap.size W w') := by
  subst hn
  refine (bytes_any W B B2 A A2 c c2 xs xs hx.out hy.out hl hl).mono ?_
  rintro e w2 ⟨rfl, n, rfl⟩
  exact ⟨by simp, bel_drewN (Below.refl _ _) n⟩

set_option maxHeartbeats 1000000 in
set_option maxRecDepth 100000 in
theorem joins_some (w : World) (a : Addr) (c : Nat) (l : List Fd) (cut m : Int) (hl : FdsV w w.heap.size (some a) l) (hc : l.length ≤ c) (hc2 : c ≤ maxLen) (h0 : 0 ≤ cut) (h1 : cut < 256) (hm : w.cell? ⟨0, 0, none⟩ = some (.int .i64 m)) :
    Calls Tryd.prog 7 #[.slice (some a) l.length c, .int .u8 cut] w fun e w' => e = .returned (.bool true) ∧ Below w.heap.size w w' := by
  have hlm : l.length ≤ maxLen := Nat.le_trans hc hc2
  unfold maxLen at hc2 hlm
  obtain ⟨i0, hi0, hz0, hz1, hz2⟩ := info_parts Tryd.info5
  have HF := hid hl
  have HM := hid hm
  clear hl hm
  obtain ⟨k, HKK⟩ : ∃ k : Nat, Hid (k = (cut % ((l.length : Int) + 1)).toNat) := ⟨_, hid rfl⟩
  have hmod0 := Int.emod_nonneg cut (b := (l.length : Int) + 1) (by omega)
  have hmod1 := Int.emod_lt_of_pos cut (b := (l.length : Int) + 1) (by omega)
  have hkk : cut % ((l.length : Int) + 1) = k := by have := HKK.out; omega
  have hkl : k ≤ l.length := by omega
  clear hmod0 hmod1
  by_cases hg : great l = true
  · have HG := hid hg
    clear hg
    go_enter Tryd.func7, Tryd.ntmps7
    go_wp2_with (first
      | (go_at_call 8
         ((with_reducible refine (alive_any _ m HM.out).mono ?_); rintro e w1 ⟨rfl, hb⟩)
         have HB1 := hid hb
         have HF1 := fds_at HF HB1
         clear hb)
      | (go_at_call 9
         ((with_reducible refine (great_any _ _ _ c l HF1.out (Nat.le_refl _) (by unfold maxLen; omega)).mono ?_); rintro e w2 ⟨he, hb⟩)
         rw [HG.out] at he
         subst he
         have HB2 := hid (bel_trans HB1 hb).out
         have HF2 := fds_at HF HB2
         clear hb))
    go_ret
    exact ⟨rfl, HB2.out⟩
  · have hgf : great l = false := by simpa using hg
    have HG := hid hgf
    have hl100 : l.length ≤ 100 := by
      simp only [great, Bool.or_eq_false_iff, decide_eq_false_iff_not] at hgf
      omega
    clear hg hgf
    have htl : (l.take k).length = k := by rw [List.length_take]; omega
    have hdl : (l.drop k).length = l.length - k := List.length_drop
    have HTL := hid htl
    have HDL := hid hdl
    have hsp : l.take k ++ l.drop k = l := List.take_append_drop k l
    have hok := joins_ok (l.take k) (l.drop k)
    have hbad := joins_bad (l.take k) (l.drop k)
    rw [hsp] at hok hbad
    have hl1 := writeF_len (l.take k)
    have hl2 := writeF_len (l.drop k)
    obtain ⟨⟨e0, b0⟩, HX0⟩ : ∃ x, Hid (writeF l = x) := ⟨_, hid rfl⟩
    obtain ⟨⟨e1, b1⟩, HX1⟩ : ∃ x, Hid (writeF (l.take k) = x) := ⟨_, hid rfl⟩
    obtain ⟨⟨e2, b2⟩, HX2⟩ : ∃ x, Hid (writeF (l.drop k) = x) := ⟨_, hid rfl⟩
    rw [HX0.out, HX1.out, HX2.out] at hok
    rw [HX0.out, HX1.out, HX2.out] at hbad
    rw [HX1.out] at hl1
    rw [HX2.out] at hl2
    simp only at hok hbad hl1 hl2
    clear htl hdl hsp
    have HOK := hid hok
    have HBAD := hid hbad
    clear hok hbad
    have HTK : Hid (FdsV w w.heap.size (some a) (l.take k)) := HF.out.take k
    by_cases hcn : c = k
    · have HDR : Hid (FdsV w w.heap.size (some a) (l.drop k)) := by
        have := HF.out.drop k hc
        rw [if_pos hcn] at this
        exact this
      subst hcn
      have HDL0 : Hid ((l.drop c).length = 0) := by show _ = _; rw [HDL.out]; omega
      clear HDL
      have HDL := HDL0
      by_cases he0 : e0 = 0
      · subst he0
        obtain ⟨rfl, rfl, rfl⟩ := HOK.out rfl
        have HBL : Hid ((b1 ++ b2).length = b1.length + b2.length) := List.length_append
        go_enter Tryd.func7, Tryd.ntmps7
        go_wp2_with (first
          | (go_at_call 8
             ((with_reducible refine (alive_any _ m HM.out).mono ?_); rintro e w1 ⟨rfl, hb⟩)
             have HB1 := hid hb
             have HF1 := fds_at HF HB1
             clear hb)
          | (go_at_call 9
             ((with_reducible refine (great_any _ _ _ c l HF1.out (Nat.le_refl _) (by unfold maxLen; omega)).mono ?_); rintro e w2 ⟨he, hb⟩)
             rw [HG.out] at he
             subst he
             have HB2 := hid (bel_trans HB1 hb).out
             have HF2 := fds_at HF HB2
             clear hb)
          | (go_at_call 11
             ((with_reducible refine (write_n _ _ c l.length l _ _ HX0 rfl HF2 hc (by unfold maxLen; omega)).mono ?_); rintro e w3 ⟨A3, c3, rfl, HL3, HBx⟩)
             have HB3 := bel_trans HB2 HBx
             have HF3 := fds_at HTK HB3)
          | (go_at_call 11
             ((with_reducible refine (write_n _ _ c c _ _ _ HX1 HTL.out HF3 (by omega) (by unfold maxLen; omega)).mono ?_); rintro e w4 ⟨A4, c4, rfl, HL4, HBy⟩)
             have HB4 := bel_trans HB3 HBy
             have HF4 := fds_at HDR HB4)
          | (go_at_call 11
             ((with_reducible refine (write_n _ _ 0 0 _ _ _ HX2 HDL.out HF4 (by omega) (by unfold maxLen; omega)).mono ?_); rintro e w5 ⟨A5, c5, rfl, HL5, HBz⟩)
             have HB5 := bel_trans HB4 HBz
             have HLx := lies_bel HL3 (bel_trans HBy HBz)
             have HLy := lies_bel HL4 HBz)
          | (at_builtin
             refine wpList_app_g _ rfl (.tmp 51) (.tmp 52) 26 rfl w5.heap.size 5 i0 _ 1 1 Tryd.underlying26 hi0 hz0 hz1 hz2 rfl (by decide) _ 0 0 [] rfl (World.ownsRow_lit w5 #[] 0 (Nat.le_refl _) (Nat.zero_le _) rfl) w5.heap.size A4 b1.length c4 (bv b1) rfl (by simp [bv]) (HLy.out.alloc (Nat.le_refl _) _) (bv_one _) ?g1 ?g2 ?g3 ?_
             case g1 => unfold maxLen; omega
             case g2 => omega
             case g3 => simp
             intro A6 c6 w6 ho6 hg6
             simp only [Nat.zero_add, List.nil_append] at ho6 ⊢
             have HB6 := hid (((Below.refl w5.heap.size w5).alloc (Nat.le_refl _) _).grown hg6 (by simp) (fun k hk => ((World.ownsRow_lit w5 #[] 0 (Nat.le_refl _) (Nat.zero_le _) rfl : World.ownsRow _ w5.heap.size 5 1 _ 0 _).lt k hk).1))
             have HO6 := hid ho6
             have HL5' := lies_bel HL5 HB6
             clear ho6 hg6)
          | (at_builtin
             refine wpList_app_g _ rfl (.tmp 53) (.tmp 54) 26 rfl w5.heap.size 5 i0 _ 1 1 Tryd.underlying26 hi0 hz0 hz1 hz2 rfl (by decide) A6 b1.length c6 (bv b1) rfl HO6.out w6.heap.size A5 b2.length c5 (bv b2) rfl (by simp [bv]) HL5'.out (bv_one _) ?g1 ?g2 ?g3 ?_
             case g1 => unfold maxLen; omega
             case g2 => omega
             case g3 => exact HB6.out.size
             intro A7 c7 w7 ho7 hg7
             rw [← bv_append] at ho7
             have HB7 := hid (HB6.out.grown hg7 HB6.out.size (fun k hk => (HO6.out.lt k hk).1))
             have HL7 := hid (Lies.own ho7)
             have HLz := lies_bel HLx HB7
             clear ho7 hg7)
          | (go_at_call 13
             ((with_reducible refine (bytes_eq _ _ _ _ _ _ _ _ (b1 ++ b2) HBL.out HLz HL7 (by unfold maxLen; omega)).mono ?_); rintro e w8 ⟨rfl, HB8⟩)
             have HBF := bel_trans (bel_trans HB5 HB7) HB8))
        go_ret
        exact ⟨rfl, HBF.out⟩
      · have HE0 := hid he0
        have z0 : (e0 == 0) = false := by simpa using he0
        clear he0
        by_cases he1 : e1 = 0
        · subst he1
          by_cases he2 : e2 = 0
          · subst he2
            by_cases hov : 33792 < b1.length + b2.length
            · have hov' : (33792 : Int) < (b1.length : Int) + b2.length := by omega
              go_enter Tryd.func7, Tryd.ntmps7
              go_wp2_with (first
                | (go_at_call 8
                   ((with_reducible refine (alive_any _ m HM.out).mono ?_); rintro e w1 ⟨rfl, hb⟩)
                   have HB1 := hid hb
                   have HF1 := fds_at HF HB1
                   clear hb)
                | (go_at_call 9
                   ((with_reducible refine (great_any _ _ _ c l HF1.out (Nat.le_refl _) (by unfold maxLen; omega)).mono ?_); rintro e w2 ⟨he, hb⟩)
                   rw [HG.out] at he
                   subst he
                   have HB2 := hid (bel_trans HB1 hb).out
                   have HF2 := fds_at HF HB2
                   clear hb)
                | (go_at_call 11
                   ((with_reducible refine (write_n _ _ c l.length l _ _ HX0 rfl HF2 hc (by unfold maxLen; omega)).mono ?_); rintro e w3 ⟨A3, c3, rfl, HL3, HBx⟩)
                   have HB3 := bel_trans HB2 HBx
                   have HF3 := fds_at HTK HB3)
                | (go_at_call 11
                   ((with_reducible refine (write_n _ _ c c _ _ _ HX1 HTL.out HF3 (by omega) (by unfold maxLen; omega)).mono ?_); rintro e w4 ⟨A4, c4, rfl, HL4, HBy⟩)
                   have HB4 := bel_trans HB3 HBy
                   have HF4 := fds_at HDR HB4)
                | (go_at_call 11
                   ((with_reducible refine (write_n _ _ 0 0 _ _ _ HX2 HDL.out HF4 (by omega) (by unfold maxLen; omega)).mono ?_); rintro e w5 ⟨A5, c5, rfl, HL5, HBz⟩)
                   have HB5 := bel_trans HB4 HBz
                   have HLx := lies_bel HL3 (bel_trans HBy HBz)
                   have HLy := lies_bel HL4 HBz))
              go_ret
              exact ⟨rfl, HB5.out⟩
            · obtain ⟨hp, hk6⟩ := HBAD.out HE0.out rfl rfl (by omega)
              have hk0 : 0 < c := by have := HTL.out; omega
              have hkl' : c - 1 < l.length := by omega
              have hk6' : l[c - 1].kind = 6 := by
                rw [List.getElem_take] at hk6
                have e : (l.take c).length - 1 = c - 1 := by have := HTL.out; omega
                simpa [HTL.out] using hk6
              obtain ⟨b, o, ea, hbw, hcells⟩ := HF.out (by intro e; rw [e] at hkl'; simp at hkl')
              obtain ⟨_, _, _, _, _, hcell, _⟩ := hcells (c - 1) hkl'
              rw [hk6'] at hcell
              injection ea with ea
              subst ea
              try rw [Addr.add_lit] at HDR
              have hki : (1 : Int) ≤ c := by omega
              have hkj : ((c : Int) - 1).toNat = c - 1 := by omega
              have HC := hid hcell
              clear hk6 hk6' hcell hcells hp
              have hq1 : (0 : Int) ≤ (c : Int) - 1 := by omega
              have hq2 : (c : Int) - 1 < l.length := by omega
              go_enter Tryd.func7, Tryd.ntmps7
              go_wp2_with (first
                | (go_at_call 8
                   ((with_reducible refine (alive_any _ m HM.out).mono ?_); rintro e w1 ⟨rfl, hb⟩)
                   have HB1 := hid hb
                   have HF1 := fds_at HF HB1
                   clear hb)
                | (go_at_call 9
                   ((with_reducible refine (great_any _ _ _ c l HF1.out (Nat.le_refl _) (by unfold maxLen; omega)).mono ?_); rintro e w2 ⟨he, hb⟩)
                   rw [HG.out] at he
                   subst he
                   have HB2 := hid (bel_trans HB1 hb).out
                   have HF2 := fds_at HF HB2
                   clear hb)
                | (go_at_call 11
                   ((with_reducible refine (write_n _ _ c l.length l _ _ HX0 rfl HF2 hc (by unfold maxLen; omega)).mono ?_); rintro e w3 ⟨A3, c3, rfl, HL3, HBx⟩)
                   have HB3 := bel_trans HB2 HBx
                   have HF3 := fds_at HTK HB3)
                | (go_at_call 11
                   ((with_reducible refine (write_n _ _ c c _ _ _ HX1 HTL.out HF3 (by omega) (by unfold maxLen; omega)).mono ?_); rintro e w4 ⟨A4, c4, rfl, HL4, HBy⟩)
                   have HB4 := bel_trans HB3 HBy
                   have HF4 := fds_at HDR HB4)
                | (go_at_call 11
                   ((with_reducible refine (write_n _ _ 0 0 _ _ _ HX2 HDL.out HF4 (by omega) (by unfold maxLen; omega)).mono ?_); rintro e w5 ⟨A5, c5, rfl, HL5, HBz⟩)
                   have HB5 := bel_trans HB4 HBz
                   have HLx := lies_bel HL3 (bel_trans HBy HBz)
                   have HLy := lies_bel HL4 HBz
                   have hcw : w5.cell? ⟨b, o + (c - 1) * 4, none⟩ = some (.int .i64 6) := (HB5.out.cell (p := ⟨b, _, none⟩) hbw).trans HC.out))
              go_ret
              exact ⟨rfl, HB5.out⟩
          · have z2 : (e2 == 0) = false := by simpa using he2
            have y2 : (e2 != 0) = true := by simpa using he2
            clear he2
            go_enter Tryd.func7, Tryd.ntmps7
            go_wp2_with (first
              | (go_at_call 8
                 ((with_reducible refine (alive_any _ m HM.out).mono ?_); rintro e w1 ⟨rfl, hb⟩)
                 have HB1 := hid hb
                 have HF1 := fds_at HF HB1
                 clear hb)
              | (go_at_call 9
                 ((with_reducible refine (great_any _ _ _ c l HF1.out (Nat.le_refl _) (by unfold maxLen; omega)).mono ?_); rintro e w2 ⟨he, hb⟩)
                 rw [HG.out] at he
                 subst he
                 have HB2 := hid (bel_trans HB1 hb).out
                 have HF2 := fds_at HF HB2
                 clear hb)
              | (go_at_call 11
                 ((with_reducible refine (write_n _ _ c l.length l _ _ HX0 rfl HF2 hc (by unfold maxLen; omega)).mono ?_); rintro e w3 ⟨A3, c3, rfl, HL3, HBx⟩)
                 have HB3 := bel_trans HB2 HBx
                 have HF3 := fds_at HTK HB3)
              | (go_at_call 11
                 ((with_reducible refine (write_n _ _ c c _ _ _ HX1 HTL.out HF3 (by omega) (by unfold maxLen; omega)).mono ?_); rintro e w4 ⟨A4, c4, rfl, HL4, HBy⟩)
                 have HB4 := bel_trans HB3 HBy
                 have HF4 := fds_at HDR HB4)
              | (go_at_call 11
                 ((with_reducible refine (write_n _ _ 0 0 _ _ _ HX2 HDL.out HF4 (by omega) (by unfold maxLen; omega)).mono ?_); rintro e w5 ⟨A5, c5, rfl, HL5, HBz⟩)
                 have HB5 := bel_trans HB4 HBz
                 have HLx := lies_bel HL3 (bel_trans HBy HBz)
                 have HLy := lies_bel HL4 HBz))
            go_ret
            exact ⟨rfl, HB5.out⟩
        · have z1 : (e1 == 0) = false := by simpa using he1
          have y1 : (e1 != 0) = true := by simpa using he1
          clear he1
          go_enter Tryd.func7, Tryd.ntmps7
          go_wp2_with (first
            | (go_at_call 8
               ((with_reducible refine (alive_any _ m HM.out).mono ?_); rintro e w1 ⟨rfl, hb⟩)
               have HB1 := hid hb
               have HF1 := fds_at HF HB1
               clear hb)
            | (go_at_call 9
               ((with_reducible refine (great_any _ _ _ c l HF1.out (Nat.le_refl _) (by unfold maxLen; omega)).mono ?_); rintro e w2 ⟨he, hb⟩)
               rw [HG.out] at he
               subst he
               have HB2 := hid (bel_trans HB1 hb).out
               have HF2 := fds_at HF HB2
               clear hb)
            | (go_at_call 11
               ((with_reducible refine (write_n _ _ c l.length l _ _ HX0 rfl HF2 hc (by unfold maxLen; omega)).mono ?_); rintro e w3 ⟨A3, c3, rfl, HL3, HBx⟩)
               have HB3 := bel_trans HB2 HBx
               have HF3 := fds_at HTK HB3)
            | (go_at_call 11
               ((with_reducible refine (write_n _ _ c c _ _ _ HX1 HTL.out HF3 (by omega) (by unfold maxLen; omega)).mono ?_); rintro e w4 ⟨A4, c4, rfl, HL4, HBy⟩)
               have HB4 := bel_trans HB3 HBy
               have HF4 := fds_at HDR HB4)
            | (go_at_call 11
               ((with_reducible refine (write_n _ _ 0 0 _ _ _ HX2 HDL.out HF4 (by omega) (by unfold maxLen; omega)).mono ?_); rintro e w5 ⟨A5, c5, rfl, HL5, HBz⟩)
               have HB5 := bel_trans HB4 HBz
               have HLx := lies_bel HL3 (bel_trans HBy HBz)
               have HLy := lies_bel HL4 HBz))
          go_ret
          exact ⟨rfl, HB5.out⟩
    · have HDR : Hid (FdsV w w.heap.size (some (a.add (k * 4))) (l.drop k)) := by
        have := HF.out.drop k hc
        rw [if_neg hcn] at this
        exact this
      by_cases he0 : e0 = 0
      · subst he0
        obtain ⟨rfl, rfl, rfl⟩ := HOK.out rfl
        have HBL : Hid ((b1 ++ b2).length = b1.length + b2.length) := List.length_append
        go_enter Tryd.func7, Tryd.ntmps7
        go_wp2_with (first
          | (go_at_call 8
             ((with_reducible refine (alive_any _ m HM.out).mono ?_); rintro e w1 ⟨rfl, hb⟩)
             have HB1 := hid hb
             have HF1 := fds_at HF HB1
             clear hb)
          | (go_at_call 9
             ((with_reducible refine (great_any _ _ _ c l HF1.out (Nat.le_refl _) (by unfold maxLen; omega)).mono ?_); rintro e w2 ⟨he, hb⟩)
             rw [HG.out] at he
             subst he
             have HB2 := hid (bel_trans HB1 hb).out
             have HF2 := fds_at HF HB2
             clear hb)
          | (go_at_call 11
             ((with_reducible refine (write_n _ _ c l.length l _ _ HX0 rfl HF2 hc (by unfold maxLen; omega)).mono ?_); rintro e w3 ⟨A3, c3, rfl, HL3, HBx⟩)
             have HB3 := bel_trans HB2 HBx
             have HF3 := fds_at HTK HB3)
          | (go_at_call 11
             ((with_reducible refine (write_n _ _ c k _ _ _ HX1 HTL.out HF3 (by omega) (by unfold maxLen; omega)).mono ?_); rintro e w4 ⟨A4, c4, rfl, HL4, HBy⟩)
             have HB4 := bel_trans HB3 HBy
             have HF4 := fds_at HDR HB4)
          | (go_at_call 11
             ((with_reducible refine (write_n _ _ (c - k) (l.length - k) _ _ _ HX2 HDL.out HF4 (by omega) (by unfold maxLen; omega)).mono ?_); rintro e w5 ⟨A5, c5, rfl, HL5, HBz⟩)
             have HB5 := bel_trans HB4 HBz
             have HLx := lies_bel HL3 (bel_trans HBy HBz)
             have HLy := lies_bel HL4 HBz)
          | (at_builtin
             refine wpList_app_g _ rfl (.tmp 51) (.tmp 52) 26 rfl w5.heap.size 5 i0 _ 1 1 Tryd.underlying26 hi0 hz0 hz1 hz2 rfl (by decide) _ 0 0 [] rfl (World.ownsRow_lit w5 #[] 0 (Nat.le_refl _) (Nat.zero_le _) rfl) w5.heap.size A4 b1.length c4 (bv b1) rfl (by simp [bv]) (HLy.out.alloc (Nat.le_refl _) _) (bv_one _) ?g1 ?g2 ?g3 ?_
             case g1 => unfold maxLen; omega
             case g2 => omega
             case g3 => simp
             intro A6 c6 w6 ho6 hg6
             simp only [Nat.zero_add, List.nil_append] at ho6 ⊢
             have HB6 := hid (((Below.refl w5.heap.size w5).alloc (Nat.le_refl _) _).grown hg6 (by simp) (fun k hk => ((World.ownsRow_lit w5 #[] 0 (Nat.le_refl _) (Nat.zero_le _) rfl : World.ownsRow _ w5.heap.size 5 1 _ 0 _).lt k hk).1))
             have HO6 := hid ho6
             have HL5' := lies_bel HL5 HB6
             clear ho6 hg6)
          | (at_builtin
             refine wpList_app_g _ rfl (.tmp 53) (.tmp 54) 26 rfl w5.heap.size 5 i0 _ 1 1 Tryd.underlying26 hi0 hz0 hz1 hz2 rfl (by decide) A6 b1.length c6 (bv b1) rfl HO6.out w6.heap.size A5 b2.length c5 (bv b2) rfl (by simp [bv]) HL5'.out (bv_one _) ?g1 ?g2 ?g3 ?_
             case g1 => unfold maxLen; omega
             case g2 => omega
             case g3 => exact HB6.out.size
             intro A7 c7 w7 ho7 hg7
             rw [← bv_append] at ho7
             have HB7 := hid (HB6.out.grown hg7 HB6.out.size (fun k hk => (HO6.out.lt k hk).1))
             have HL7 := hid (Lies.own ho7)
             have HLz := lies_bel HLx HB7
             clear ho7 hg7)
          | (go_at_call 13
             ((with_reducible refine (bytes_eq _ _ _ _ _ _ _ _ (b1 ++ b2) HBL.out HLz HL7 (by unfold maxLen; omega)).mono ?_); rintro e w8 ⟨rfl, HB8⟩)
             have HBF := bel_trans (bel_trans HB5 HB7) HB8))
        go_ret
        exact ⟨rfl, HBF.out⟩
      · have HE0 := hid he0
        have z0 : (e0 == 0) = false := by simpa using he0
        clear he0
        by_cases he1 : e1 = 0
        · subst he1
          by_cases he2 : e2 = 0
          · subst he2
            by_cases hov : 33792 < b1.length + b2.length
            · have hov' : (33792 : Int) < (b1.length : Int) + b2.length := by omega
              go_enter Tryd.func7, Tryd.ntmps7
              go_wp2_with (first
                | (go_at_call 8
                   ((with_reducible refine (alive_any _ m HM.out).mono ?_); rintro e w1 ⟨rfl, hb⟩)
                   have HB1 := hid hb
                   have HF1 := fds_at HF HB1
                   clear hb)
                | (go_at_call 9
                   ((with_reducible refine (great_any _ _ _ c l HF1.out (Nat.le_refl _) (by unfold maxLen; omega)).mono ?_); rintro e w2 ⟨he, hb⟩)
                   rw [HG.out] at he
                   subst he
                   have HB2 := hid (bel_trans HB1 hb).out
                   have HF2 := fds_at HF HB2
                   clear hb)
                | (go_at_call 11
                   ((with_reducible refine (write_n _ _ c l.length l _ _ HX0 rfl HF2 hc (by unfold maxLen; omega)).mono ?_); rintro e w3 ⟨A3, c3, rfl, HL3, HBx⟩)
                   have HB3 := bel_trans HB2 HBx
                   have HF3 := fds_at HTK HB3)
                | (go_at_call 11
                   ((with_reducible refine (write_n _ _ c k _ _ _ HX1 HTL.out HF3 (by omega) (by unfold maxLen; omega)).mono ?_); rintro e w4 ⟨A4, c4, rfl, HL4, HBy⟩)
                   have HB4 := bel_trans HB3 HBy
                   have HF4 := fds_at HDR HB4)
                | (go_at_call 11
                   ((with_reducible refine (write_n _ _ (c - k) (l.length - k) _ _ _ HX2 HDL.out HF4 (by omega) (by unfold maxLen; omega)).mono ?_); rintro e w5 ⟨A5, c5, rfl, HL5, HBz⟩)
                   have HB5 := bel_trans HB4 HBz
                   have HLx := lies_bel HL3 (bel_trans HBy HBz)
                   have HLy := lies_bel HL4 HBz))
              go_ret
              exact ⟨rfl, HB5.out⟩
            · obtain ⟨hp, hk6⟩ := HBAD.out HE0.out rfl rfl (by omega)
              have hk0 : 0 < k := by have := HTL.out; omega
              have hkl' : k - 1 < l.length := by omega
              have hk6' : l[k - 1].kind = 6 := by
                rw [List.getElem_take] at hk6
                have e : (l.take k).length - 1 = k - 1 := by have := HTL.out; omega
                simpa [HTL.out] using hk6
              obtain ⟨b, o, ea, hbw, hcells⟩ := HF.out (by intro e; rw [e] at hkl'; simp at hkl')
              obtain ⟨_, _, _, _, _, hcell, _⟩ := hcells (k - 1) hkl'
              rw [hk6'] at hcell
              injection ea with ea
              subst ea
              try rw [Addr.add_lit] at HDR
              have hki : (1 : Int) ≤ k := by omega
              have hkj : ((k : Int) - 1).toNat = k - 1 := by omega
              have HC := hid hcell
              clear hk6 hk6' hcell hcells hp
              have hq1 : (0 : Int) ≤ (k : Int) - 1 := by omega
              have hq2 : (k : Int) - 1 < l.length := by omega
              go_enter Tryd.func7, Tryd.ntmps7
              go_wp2_with (first
                | (go_at_call 8
                   ((with_reducible refine (alive_any _ m HM.out).mono ?_); rintro e w1 ⟨rfl, hb⟩)
                   have HB1 := hid hb
                   have HF1 := fds_at HF HB1
                   clear hb)
                | (go_at_call 9
                   ((with_reducible refine (great_any _ _ _ c l HF1.out (Nat.le_refl _) (by unfold maxLen; omega)).mono ?_); rintro e w2 ⟨he, hb⟩)
                   rw [HG.out] at he
                   subst he
                   have HB2 := hid (bel_trans HB1 hb).out
                   have HF2 := fds_at HF HB2
                   clear hb)
                | (go_at_call 11
                   ((with_reducible refine (write_n _ _ c l.length l _ _ HX0 rfl HF2 hc (by unfold maxLen; omega)).mono ?_); rintro e w3 ⟨A3, c3, rfl, HL3, HBx⟩)
                   have HB3 := bel_trans HB2 HBx
                   have HF3 := fds_at HTK HB3)
                | (go_at_call 11
                   ((with_reducible refine (write_n _ _ c k _ _ _ HX1 HTL.out HF3 (by omega) (by unfold maxLen; omega)).mono ?_); rintro e w4 ⟨A4, c4, rfl, HL4, HBy⟩)
                   have HB4 := bel_trans HB3 HBy
                   have HF4 := fds_at HDR HB4)
                | (go_at_call 11
                   ((with_reducible refine (write_n _ _ (c - k) (l.length - k) _ _ _ HX2 HDL.out HF4 (by omega) (by unfold maxLen; omega)).mono ?_); rintro e w5 ⟨A5, c5, rfl, HL5, HBz⟩)
                   have HB5 := bel_trans HB4 HBz
                   have HLx := lies_bel HL3 (bel_trans HBy HBz)
                   have HLy := lies_bel HL4 HBz
                   have hcw : w5.cell? ⟨b, o + (k - 1) * 4, none⟩ = some (.int .i64 6) := (HB5.out.cell (p := ⟨b, _, none⟩) hbw).trans HC.out))
              go_ret
              exact ⟨rfl, HB5.out⟩
          · have z2 : (e2 == 0) = false := by simpa using he2
            have y2 : (e2 != 0) = true := by simpa using he2
            clear he2
            go_enter Tryd.func7, Tryd.ntmps7
            go_wp2_with (first
              | (go_at_call 8
                 ((with_reducible refine (alive_any _ m HM.out).mono ?_); rintro e w1 ⟨rfl, hb⟩)
                 have HB1 := hid hb
                 have HF1 := fds_at HF HB1
                 clear hb)
              | (go_at_call 9
                 ((with_reducible refine (great_any _ _ _ c l HF1.out (Nat.le_refl _) (by unfold maxLen; omega)).mono ?_); rintro e w2 ⟨he, hb⟩)
                 rw [HG.out] at he
                 subst he
                 have HB2 := hid (bel_trans HB1 hb).out
                 have HF2 := fds_at HF HB2
                 clear hb)
              | (go_at_call 11
                 ((with_reducible refine (write_n _ _ c l.length l _ _ HX0 rfl HF2 hc (by unfold maxLen; omega)).mono ?_); rintro e w3 ⟨A3, c3, rfl, HL3, HBx⟩)
                 have HB3 := bel_trans HB2 HBx
                 have HF3 := fds_at HTK HB3)
              | (go_at_call 11
                 ((with_reducible refine (write_n _ _ c k _ _ _ HX1 HTL.out HF3 (by omega) (by unfold maxLen; omega)).mono ?_); rintro e w4 ⟨A4, c4, rfl, HL4, HBy⟩)
                 have HB4 := bel_trans HB3 HBy
                 have HF4 := fds_at HDR HB4)
              | (go_at_call 11
                 ((with_reducible refine (write_n _ _ (c - k) (l.length - k) _ _ _ HX2 HDL.out HF4 (by omega) (by unfold maxLen; omega)).mono ?_); rintro e w5 ⟨A5, c5, rfl, HL5, HBz⟩)
                 have HB5 := bel_trans HB4 HBz
                 have HLx := lies_bel HL3 (bel_trans HBy HBz)
                 have HLy := lies_bel HL4 HBz))
            go_ret
            exact ⟨rfl, HB5.out⟩
        · have z1 : (e1 == 0) = false := by simpa using he1
          have y1 : (e1 != 0) = true := by simpa using he1
          clear he1
          go_enter Tryd.func7, Tryd.ntmps7
          go_wp2_with (first
            | (go_at_call 8
               ((with_reducible refine (alive_any _ m HM.out).mono ?_); rintro e w1 ⟨rfl, hb⟩)
               have HB1 := hid hb
               have HF1 := fds_at HF HB1
               clear hb)
            | (go_at_call 9
               ((with_reducible refine (great_any _ _ _ c l HF1.out (Nat.le_refl _) (by unfold maxLen; omega)).mono ?_); rintro e w2 ⟨he, hb⟩)
               rw [HG.out] at he
               subst he
               have HB2 := hid (bel_trans HB1 hb).out
               have HF2 := fds_at HF HB2
               clear hb)
            | (go_at_call 11
               ((with_reducible refine (write_n _ _ c l.length l _ _ HX0 rfl HF2 hc (by unfold maxLen; omega)).mono ?_); rintro e w3 ⟨A3, c3, rfl, HL3, HBx⟩)
               have HB3 := bel_trans HB2 HBx
               have HF3 := fds_at HTK HB3)
            | (go_at_call 11
               ((with_reducible refine (write_n _ _ c k _ _ _ HX1 HTL.out HF3 (by omega) (by unfold maxLen; omega)).mono ?_); rintro e w4 ⟨A4, c4, rfl, HL4, HBy⟩)
               have HB4 := bel_trans HB3 HBy
               have HF4 := fds_at HDR HB4)
            | (go_at_call 11
               ((with_reducible refine (write_n _ _ (c - k) (l.length - k) _ _ _ HX2 HDL.out HF4 (by omega) (by unfold maxLen; omega)).mono ?_); rintro e w5 ⟨A5, c5, rfl, HL5, HBz⟩)
               have HB5 := bel_trans HB4 HBz
               have HLx := lies_bel HL3 (bel_trans HBy HBz)
               have HLy := lies_bel HL4 HBz))
          go_ret
          exact ⟨rfl, HB5.out⟩

theorem lies_nil {w : World} {B : Nat} {A : Option Addr} : Hid (Lies w B A (bv [])) := fun h => absurd rfl h
theorem great_n (W : World) (A : Option Addr) (c n : Nat) (l : List Fd) (b : Bool) (hg : Hid (great l = b)) (hn : l.length = n) (hF : Hid (FdsV W W.heap.size A l)) (hn2 : n ≤ maxLen) :
    Calls Tryd.prog 9 #[.slice A n c] W fun e w' => e = .returned (.bool b) ∧ Hid (Below W.heap.size W w') := by
  subst hn
  refine (great_any W _ A c l hF.out (Nat.le_refl _) hn2).mono ?_
  rw [hg.out]
  exact fun e w' h => h

set_option maxHeartbeats 1000000 in
set_option maxRecDepth 100000 in
theorem joins_none (w : World) (cut m : Int) (h0 : 0 ≤ cut) (h1 : cut < 256) (hm : w.cell? ⟨0, 0, none⟩ = some (.int .i64 m)) :
    Calls Tryd.prog 7 #[.slice none 0 0, .int .u8 cut] w fun e w' => e = .returned (.bool true) ∧ Below w.heap.size w w' := by
  obtain ⟨i0, hi0, hz0, hz1, hz2⟩ := info_parts Tryd.info5
  have HM := hid hm
  clear hm
  have HF : ∀ W : World, Hid (FdsV W W.heap.size none []) := fun W h => absurd rfl h
  have HG : Hid (great [] = false) := by show _ = _; rfl
  have HX : Hid (writeF [] = (0, [])) := by show _ = _; rfl
  have hm1 : cut % 1 = 0 := by omega
  go_enter Tryd.func7, Tryd.ntmps7
  go_wp2_with (first
    | (go_at_call 8
       ((with_reducible refine (alive_any _ m HM.out).mono ?_); rintro e w1 ⟨rfl, hb⟩)
       have HB1 := hid hb
       clear hb)
    | (go_at_call 9
       ((with_reducible refine (great_n w1 none 0 0 [] _ HG rfl (HF w1) (Nat.zero_le _)).mono ?_); rintro e w2 ⟨rfl, hb⟩)
       have HB2 := bel_trans HB1 hb)
    | (go_at_call 11
       ((with_reducible refine (write_n _ none 0 0 [] _ _ HX rfl (HF _) (hid HB4.out.size |> fun _ => Nat.le_refl 0) (Nat.zero_le _)).mono ?_); rintro e w5 ⟨A5, c5, rfl, HL5, HBz⟩)
       have HB5 := bel_trans HB4 HBz)
    | (go_at_call 11
       ((with_reducible refine (write_n _ none 0 0 [] _ _ HX rfl (HF _) (hid HB3.out.size |> fun _ => Nat.le_refl 0) (Nat.zero_le _)).mono ?_); rintro e w4 ⟨A4, c4, rfl, HL4, HBy⟩)
       have HB4 := bel_trans HB3 HBy)
    | (go_at_call 11
       ((with_reducible refine (write_n _ none 0 0 [] _ _ HX rfl (HF _) (Nat.le_refl 0) (Nat.zero_le _)).mono ?_); rintro e w3 ⟨A3, c3, rfl, HL3, HBx⟩)
       have HB3 := bel_trans HB2 HBx)
    | (at_builtin
       refine wpList_app_g _ rfl (.tmp 51) (.tmp 52) 26 rfl w5.heap.size 5 i0 _ 1 1 Tryd.underlying26 hi0 hz0 hz1 hz2 rfl (by decide) _ 0 0 [] rfl (World.ownsRow_lit w5 #[] 0 (Nat.le_refl _) (Nat.zero_le _) rfl) w5.heap.size A4 0 c4 (bv []) rfl rfl (Lies.nil_) (bv_one _) ?g1 ?g2 ?g3 ?_
       case g1 => unfold maxLen; omega
       case g2 => omega
       case g3 => simp
       intro A6 c6 w6 ho6 hg6
       simp only [Nat.zero_add, List.nil_append] at ho6 ⊢
       have HB6 := hid (((Below.refl w5.heap.size w5).alloc (Nat.le_refl _) _).grown hg6 (by simp) (fun k hk => ((World.ownsRow_lit w5 #[] 0 (Nat.le_refl _) (Nat.zero_le _) rfl : World.ownsRow _ w5.heap.size 5 1 _ 0 _).lt k hk).1))
       have HO6 := hid ho6
       clear ho6 hg6)
    | (at_builtin
       refine wpList_app_g _ rfl (.tmp 53) (.tmp 54) 26 rfl w5.heap.size 5 i0 _ 1 1 Tryd.underlying26 hi0 hz0 hz1 hz2 rfl (by decide) A6 0 c6 (bv []) rfl HO6.out w6.heap.size A5 0 c5 (bv []) rfl rfl Lies.nil_ (bv_one _) ?g1 ?g2 ?g3 ?_
       case g1 => unfold maxLen; omega
       case g2 => omega
       case g3 => exact HB6.out.size
       intro A7 c7 w7 ho7 hg7
       simp only [Nat.zero_add] at ho7 ⊢
       have HB7 := hid (HB6.out.grown hg7 HB6.out.size (fun k hk => (HO6.out.lt k hk).1))
       clear ho7 hg7)
    | (go_at_call 13
       ((with_reducible refine (bytes_eq _ 0 0 _ _ _ _ 0 [] rfl lies_nil lies_nil (Nat.zero_le _)).mono ?_); rintro e w8 ⟨rfl, HB8⟩)
       have HBF := bel_trans (bel_trans HB5 HB7) HB8))
  go_ret
  exact ⟨rfl, HBF.out⟩
end Go.Proofs.YtoedhblihodgdaaDoor
