import Derived.Test.YthaecflakefklaaFLE
namespace Go.Proofs.Ythaecflakefklaa
open Go.RowKit

/-! Layer 15: FlowIs, the walk. -/
theorem told_len (t : Tm) (op : Int) : (toldF t op).length ≤ 1 := by unfold toldF; split <;> simp
theorem mark_len (t : Tm) (s h : Bool) (u l k : Int) : (markF t s h u l k).2.length ≤ 1 := by
  have h9 := told_len t 9
  have h8 := told_len t 8
  unfold markF
  by_cases e1 : h = false
  · rw [if_pos e1]
    by_cases e2 : hasN t.f 40 = true ∧ k ≤ u
    · rw [if_pos e2]; exact h9
    · rw [if_neg e2]; exact Nat.zero_le _
  rw [if_neg e1]
  by_cases e2 : l < u
  · rw [if_pos e2]; exact Nat.zero_le _
  rw [if_neg e2]
  by_cases e3 : hasN t.f 40 = true
  · rw [if_pos e3]; exact h8
  · rw [if_neg e3]; exact Nat.zero_le _
theorem ask_len (t : Tm) (s h : Bool) (a : Int) : (askF t s h a).2.1.length ≤ 1 := by
  have h9 := told_len t 9
  have h8 := told_len t 8
  unfold askF
  by_cases e1 : a = 1
  · rw [if_pos e1]; exact Nat.zero_le _
  rw [if_neg e1]
  by_cases e2 : a = 2
  · rw [if_pos e2]; exact Nat.zero_le _
  rw [if_neg e2]
  by_cases e3 : a = 3
  · rw [if_pos e3]; exact h9
  rw [if_neg e3]
  by_cases e4 : a = 4
  · rw [if_pos e4]; exact h8
  rw [if_neg e4]; exact Nat.zero_le _
theorem len_le {l : List UInt8} {n : Nat} (h : l.length = n) (h1 : l.length ≤ 1) : n ≤ maxLen := by
  have : (1 : Nat) ≤ maxLen := by unfold maxLen; omega
  omega
theorem two_new (u : World) (a b : Array Value) (T1 T2 : TypeId) : Hid (Box ((u.alloc (.cells a T1)).alloc (.cells b T2)).drew u.heap.size T1 a) ∧ Hid (Box ((u.alloc (.cells a T1)).alloc (.cells b T2)).drew (u.heap.size + 1) T2 b) ∧ Hid (Below u.heap.size u ((u.alloc (.cells a T1)).alloc (.cells b T2)).drew) := by
  refine ⟨hid (box_al (box_nw rfl)), hid ?_, hid (((Below.refl _ u).alloc (Nat.le_refl _) _).alloc (by simp) _).drew⟩
  have := Box.new (u.alloc (.cells a T1)) T2 b
  rwa [World.size_alloc] at this
theorem sizeAsked : (Try.prog.info? 30).map (·.size) = some 31 := by kernel_rfl
theorem ldF {ops : Array Oper} {rest : List Oper} {o : Oper} {a : Act} {w : World} {Q : Exit → Act → World → Prop} (hw : Region.wanted o (yielded ops a.tmps) = true) (x : Operand) (ho : o.op = .load 26 x) (g : Nat) (hx : a.eval x = .pointer (some ⟨g, 0, none⟩)) (t : Tm) (hl : t.c.length = 19) {T : TypeId} {V : Array Value} (hb : Hid (Box w g T V)) (hc : Hid (∀ (j : Nat) (v : Value), t.cl[j]? = some v → V[j]? = some v))
    (h : wpList Try.prog ops Q rest (a.put o.dst (.agg t.cs)) w) : wpList Try.prog ops Q (o :: rest) a w :=
  BigFrame.wpList_want hw fun _ hK => by
    obtain ⟨r1, r2⟩ := front_R hl hb.out hc.out
    obtain ⟨dst, op, ty, pos, after, gd⟩ := o
    obtain rfl : op = .load 26 x := ho
    rw [wp_ldR (by rw [hx]; exact r1), hx, r2]
    exact hK _ _ h
set_option maxRecDepth 100000 in
set_option maxHeartbeats 8000000 in
theorem fis_walk (w : World) (t : Tm) (ht : t.Ok) (s h : Bool) (c : UInt8) (used low high what : Int) :
    Calls Try.prog 3 #[.agg (tmV t [.bool s, .bool h, .int .u8 (c.toNat : Int), .int .i64 used, .int .i64 low, .int .i64 high, .int .i64 what])] w fun e w' => e = .returned (.bool true) ∧ Hid (Below w.heap.size w w') := by
  have hl := ht.len
  obtain ⟨r, hr⟩ : ∃ r : List Value, r = [.bool s, .bool h, .int .u8 (c.toNat : Int), .int .i64 used, .int .i64 low, .int .i64 high, .int .i64 what] := ⟨_, rfl⟩
  rw [← hr]
  have hsz : Hid ((Try.prog.info? 30).map (·.size) = some (tmV t r).size) := hid (by rw [tmV_size ht, hr]; exact sizeAsked)
  have HB0 : Hid (Box (w.alloc (.cells (tmV t r) 30)) w.heap.size 30 (tmV t r)) := hid (Box.new w 30 _)
  have HK0 : Hid (Below w.heap.size w (w.alloc (.cells (tmV t r) 30))) := hid ((Below.refl _ w).alloc (Nat.le_refl _) _)
  have F24 : Hid ((tmV t r)[24]? = some (.bool s)) := hid (tmV_back ht (j := 0) (by rw [hr]; rfl))
  have F25 : Hid ((tmV t r)[25]? = some (.bool h)) := hid (tmV_back ht (j := 1) (by rw [hr]; rfl))
  have F26 : Hid ((tmV t r)[26]? = some (.int .u8 (c.toNat : Int))) := hid (tmV_back ht (j := 2) (by rw [hr]; rfl))
  have F27 : Hid ((tmV t r)[27]? = some (.int .i64 used)) := hid (tmV_back ht (j := 3) (by rw [hr]; rfl))
  have F28 : Hid ((tmV t r)[28]? = some (.int .i64 low)) := hid (tmV_back ht (j := 4) (by rw [hr]; rfl))
  have F29 : Hid ((tmV t r)[29]? = some (.int .i64 high)) := hid (tmV_back ht (j := 5) (by rw [hr]; rfl))
  have F30 : Hid ((tmV t r)[30]? = some (.int .i64 what)) := hid (tmV_back ht (j := 6) (by rw [hr]; rfl))
  generalize hV : tmV t r = V at hsz HB0 HK0 F24 F25 F26 F27 F28 F29 F30 ⊢
  have F0 : Hid (∀ (j : Nat) (v : Value), t.cl[j]? = some v → V[j]? = some v) := hid (by rw [← hV]; exact tmV_front r)
  clear hV hr
  obtain ⟨ty, e1⟩ : ∃ ty, Hid (typedF t s h c = ty) := ⟨_, hid rfl⟩
  obtain ⟨⟨mf, ml⟩, e2⟩ : ∃ z, Hid (markF t s h used low high = z) := ⟨_, hid rfl⟩
  obtain ⟨⟨af, al, an⟩, e3⟩ : ∃ z, Hid (askF t s h what = z) := ⟨_, hid rfl⟩
  have lm : Hid (ml.length ≤ 1) := hid (by have := mark_len t s h used low high; rwa [e2.out] at this)
  have la : Hid (al.length ≤ 1) := hid (by have := ask_len t s h what; rwa [e3.out] at this)
  obtain ⟨⟨ta, tb⟩, tc⟩ := ty
  obtain ⟨ma, mb⟩ := mf
  obtain ⟨aa, ab⟩ := af
  go_enter Try.func3, Try.ntmps3
  go_wp2_with (first
    | (refine bxT (by rfl) 30 _ (by rfl) _ (by rfl) hsz.out ?_)
    | (go_at_call 7
       (with_reducible refine (alive_any _).mono ?_)
       rintro e v1 ⟨rfl, k1⟩
       have B1 := bel_t HK0 k1.out
       have H1 := boxA HB0 k1.out
       have c24 : v1.cell? ⟨w.heap.size, 24, none⟩ = some (.bool s) := (Box.cell H1.out 24).trans F24.out
       have c25 : v1.cell? ⟨w.heap.size, 25, none⟩ = some (.bool h) := (Box.cell H1.out 25).trans F25.out
       have d24 := cell_al c24
       have d25 := cell_al c25
       have f24 := fun o o2 => cell_al (cell_al c24 o) o2
       have f25 := fun o o2 => cell_al (cell_al c25 o) o2))
  go_cut [3, 4] (fun a b wx => ∃ g3 g4, a = .pointer (some ⟨g3, 0, none⟩) ∧ b = .pointer (some ⟨g4, 0, none⟩) ∧ Hid (Box wx g3 32 #[.bool s, .bool h]) ∧ Hid (Box wx g4 33 #[.bool s, .bool h]) ∧ Hid (Below v1.heap.size v1 wx))
  case first =>
   as_aux_lemma =>
    go_region
    all_goals
      go_wp2_with fail
      go_meet
      first
        | (obtain ⟨x1, x2, x3⟩ := two_new v1 #[.bool s, .bool h] #[.bool s, .bool h] 32 33
           exact ⟨_, _, rfl, rfl, x1, x2, x3⟩)
        | (obtain ⟨x1, x2, x3⟩ := two_new v1 #[.bool s, .bool h] #[.bool s, .bool h] 33 32
           exact ⟨_, _, rfl, rfl, x2, x1, x3⟩)
  case rest =>
  obtain ⟨g3, g4, rfl, rfl, M2, N2, k2⟩ := hcut
  obtain ⟨v2, hv2⟩ : ∃ v2, v2 = wc := ⟨_, rfl⟩
  subst hv2
  have B2 := bel_t B1 k2.out
  have H2 := boxA H1 k2.out
  clear c24 c25 d24 d25 f24 f25 k1 k2 B1 H1 HB0 HK0
  have c26 : World.cell? v2 ⟨w.heap.size, 26, none⟩ = some (.int .u8 (c.toNat : Int)) := (Box.cell H2.out 26).trans F26.out
  have m0 : World.cell? v2 ⟨g3, 0, none⟩ = some (.bool s) := by simpa using M2.out.cell 0
  have m1 : World.cell? v2 ⟨g3, 1, none⟩ = some (.bool h) := by simpa using M2.out.cell 1
  go_upto_region 4 with fail
  go_cut [5, 6] (fun a b wx => ∃ g, a = .pointer (some ⟨g, 0, none⟩) ∧ b = .bool tc ∧ Hid (Box wx g 32 #[.bool ta, .bool tb]) ∧ Hid (Below v2.heap.size v2 wx))
  case first =>
   as_aux_lemma =>
    go_wp2_with (first
      | (refine ldF (by rfl) _ (by rfl) _ (by rfl) t hl H2 F0 ?_)
      | (go_at_call 8
         (with_reducible refine (typedp_any _ t ht s h c e1).mono ?_)
         rintro e vx ⟨rfl, kx⟩))
    go_meet
    exact ⟨_, rfl, rfl, bx_new vx _ _, bel_t kx (bel_new1 vx _)⟩
  case rest =>
  obtain ⟨g5, rfl, rfl, X4, k⟩ := hcut
  obtain ⟨v3, hvx⟩ : ∃ v3, v3 = wc := ⟨_, rfl⟩
  subst hvx
  have B3 := bel_t B2 k.out
  have H3 := boxA H2 k.out
  have M3 := boxA M2 k.out
  have N3 := boxA N2 k.out
  clear k B2 H2 M2 N2 c26 m0 m1
  have c26 : World.cell? v3 ⟨w.heap.size, 26, none⟩ = some (.int .u8 (c.toNat : Int)) := (Box.cell H3.out 26).trans F26.out
  have m0 : World.cell? v3 ⟨g4, 0, none⟩ = some (.bool s) := by simpa using N3.out.cell 0
  have m1 : World.cell? v3 ⟨g4, 1, none⟩ = some (.bool h) := by simpa using N3.out.cell 1
  go_upto_region 5 with fail
  go_cut [7, 8] (fun a b wx => ∃ g, a = .pointer (some ⟨g, 0, none⟩) ∧ b = .bool tc ∧ Hid (Box wx g 33 #[.bool ta, .bool tb]) ∧ Hid (Below v3.heap.size v3 wx))
  case first =>
   as_aux_lemma =>
    go_wp2_with (first
      | (refine ldF (by rfl) _ (by rfl) _ (by rfl) t hl H3 F0 ?_)
      | (go_at_call 9
         (with_reducible refine (typedr_any _ t ht s h c e1).mono ?_)
         rintro e vx ⟨rfl, kx⟩))
    go_meet
    exact ⟨_, rfl, rfl, bx_new vx _ _, bel_t kx (bel_new1 vx _)⟩
  case rest =>
  obtain ⟨g7, rfl, rfl, X5, k⟩ := hcut
  obtain ⟨v4, hvx⟩ : ∃ v4, v4 = wc := ⟨_, rfl⟩
  subst hvx
  have B4 := bel_t B3 k.out
  have H4 := boxA H3 k.out
  have M4 := boxA M3 k.out
  have N4 := boxA N3 k.out
  have X4 := boxA X4 k.out
  clear k B3 H3 M3 N3 c26 m0 m1
  have c27 : World.cell? v4 ⟨w.heap.size, 27, none⟩ = some (.int .i64 used) := (Box.cell H4.out 27).trans F27.out
  have c28 : World.cell? v4 ⟨w.heap.size, 28, none⟩ = some (.int .i64 low) := (Box.cell H4.out 28).trans F28.out
  have c29 : World.cell? v4 ⟨w.heap.size, 29, none⟩ = some (.int .i64 high) := (Box.cell H4.out 29).trans F29.out
  have m0 : World.cell? v4 ⟨g3, 0, none⟩ = some (.bool s) := by simpa using M4.out.cell 0
  have m1 : World.cell? v4 ⟨g3, 1, none⟩ = some (.bool h) := by simpa using M4.out.cell 1
  go_upto_region 6 with fail
  go_cut [9, 10] (fun a b wx => ∃ g A n x, a = .pointer (some ⟨g, 0, none⟩) ∧ b = .slice A n x ∧ Hid (ml.length = n) ∧ Hid (SlB wx wx.heap.size A x ml) ∧ Hid (Box wx g 32 #[.bool ma, .bool mb]) ∧ Hid (Below v4.heap.size v4 wx))
  case first =>
   as_aux_lemma =>
    go_wp2_with (first
      | (refine ldF (by rfl) _ (by rfl) _ (by rfl) t hl H4 F0 ?_)
      | (go_at_call 10
         (with_reducible refine (markp_any _ t ht s h used low high e2).mono ?_)
         rintro e vx ⟨Ax, nx, dx, rfl, hx, Sx, kx⟩))
    go_meet
    exact ⟨_, _, _, _, rfl, rfl, hx, slb_up Sx (bel_new1 vx _), bx_new vx _ _, bel_t kx (bel_new1 vx _)⟩
  case rest =>
  obtain ⟨g9, A6, n6, d6, rfl, rfl, h6, S6, X6, k⟩ := hcut
  obtain ⟨v5, hvx⟩ : ∃ v5, v5 = wc := ⟨_, rfl⟩
  subst hvx
  have B5 := bel_t B4 k.out
  have H5 := boxA H4 k.out
  have M5 := boxA M4 k.out
  have N5 := boxA N4 k.out
  have X4 := boxA X4 k.out
  have X5 := boxA X5 k.out
  clear k B4 H4 M4 N4 c27 c28 c29 m0 m1
  have c27 : World.cell? v5 ⟨w.heap.size, 27, none⟩ = some (.int .i64 used) := (Box.cell H5.out 27).trans F27.out
  have c28 : World.cell? v5 ⟨w.heap.size, 28, none⟩ = some (.int .i64 low) := (Box.cell H5.out 28).trans F28.out
  have c29 : World.cell? v5 ⟨w.heap.size, 29, none⟩ = some (.int .i64 high) := (Box.cell H5.out 29).trans F29.out
  have m0 : World.cell? v5 ⟨g4, 0, none⟩ = some (.bool s) := by simpa using N5.out.cell 0
  have m1 : World.cell? v5 ⟨g4, 1, none⟩ = some (.bool h) := by simpa using N5.out.cell 1
  go_upto_region 7 with fail
  go_cut [11, 12] (fun a b wx => ∃ g A n x, a = .pointer (some ⟨g, 0, none⟩) ∧ b = .slice A n x ∧ Hid (ml.length = n) ∧ Hid (SlB wx wx.heap.size A x ml) ∧ Hid (Box wx g 33 #[.bool ma, .bool mb]) ∧ Hid (Below v5.heap.size v5 wx))
  case first =>
   as_aux_lemma =>
    go_wp2_with (first
      | (refine ldF (by rfl) _ (by rfl) _ (by rfl) t hl H5 F0 ?_)
      | (go_at_call 11
         (with_reducible refine (markr_any _ t ht s h used low high e2).mono ?_)
         rintro e vx ⟨Ax, nx, dx, rfl, hx, Sx, kx⟩))
    go_meet
    exact ⟨_, _, _, _, rfl, rfl, hx, slb_up Sx (bel_new1 vx _), bx_new vx _ _, bel_t kx (bel_new1 vx _)⟩
  case rest =>
  obtain ⟨g11, A7, n7, d7, rfl, rfl, h7, S7, X7, k⟩ := hcut
  obtain ⟨v6, hvx⟩ : ∃ v6, v6 = wc := ⟨_, rfl⟩
  subst hvx
  have B6 := bel_t B5 k.out
  have H6 := boxA H5 k.out
  have M6 := boxA M5 k.out
  have N6 := boxA N5 k.out
  have X4 := boxA X4 k.out
  have X5 := boxA X5 k.out
  have X6 := boxA X6 k.out
  have S6 := slb_up S6 k.out
  clear k B5 H5 M5 N5 c27 c28 c29 m0 m1
  have c30 : World.cell? v6 ⟨w.heap.size, 30, none⟩ = some (.int .i64 what) := (Box.cell H6.out 30).trans F30.out
  have m0 : World.cell? v6 ⟨g3, 0, none⟩ = some (.bool s) := by simpa using M6.out.cell 0
  have m1 : World.cell? v6 ⟨g3, 1, none⟩ = some (.bool h) := by simpa using M6.out.cell 1
  go_upto_region 8 with fail
  go_cut [13, 14, 15] (fun a b d wx => ∃ g A n x, a = .pointer (some ⟨g, 0, none⟩) ∧ b = .slice A n x ∧ d = .int .i64 an ∧ Hid (al.length = n) ∧ Hid (SlB wx wx.heap.size A x al) ∧ Hid (Box wx g 32 #[.bool aa, .bool ab]) ∧ Hid (Below v6.heap.size v6 wx))
  case first =>
   as_aux_lemma =>
    go_wp2_with (first
      | (refine ldF (by rfl) _ (by rfl) _ (by rfl) t hl H6 F0 ?_)
      | (go_at_call 12
         (with_reducible refine (askp_any _ t ht s h what e3).mono ?_)
         rintro e vx ⟨Ax, nx, dx, rfl, hx, Sx, kx⟩))
    go_meet
    exact ⟨_, _, _, _, rfl, rfl, rfl, hx, slb_up Sx (bel_new1 vx _), bx_new vx _ _, bel_t kx (bel_new1 vx _)⟩
  case rest =>
  obtain ⟨g13, A8, n8, d8, rfl, rfl, rfl, h8, S8, X8, k⟩ := hcut
  obtain ⟨v7, hvx⟩ : ∃ v7, v7 = wc := ⟨_, rfl⟩
  subst hvx
  have B7 := bel_t B6 k.out
  have H7 := boxA H6 k.out
  have M7 := boxA M6 k.out
  have N7 := boxA N6 k.out
  have X4 := boxA X4 k.out
  have X5 := boxA X5 k.out
  have X6 := boxA X6 k.out
  have X7 := boxA X7 k.out
  have S6 := slb_up S6 k.out
  have S7 := slb_up S7 k.out
  clear k B6 H6 M6 N6 c30 m0 m1
  have c30 : World.cell? v7 ⟨w.heap.size, 30, none⟩ = some (.int .i64 what) := (Box.cell H7.out 30).trans F30.out
  have m0 : World.cell? v7 ⟨g4, 0, none⟩ = some (.bool s) := by simpa using N7.out.cell 0
  have m1 : World.cell? v7 ⟨g4, 1, none⟩ = some (.bool h) := by simpa using N7.out.cell 1
  go_upto_region 9 with fail
  go_cut [16, 17, 18] (fun a b d wx => ∃ g A n x, a = .pointer (some ⟨g, 0, none⟩) ∧ b = .slice A n x ∧ d = .int .i64 an ∧ Hid (al.length = n) ∧ Hid (SlB wx wx.heap.size A x al) ∧ Hid (Box wx g 33 #[.bool aa, .bool ab]) ∧ Hid (Below v7.heap.size v7 wx))
  case first =>
   as_aux_lemma =>
    go_wp2_with (first
      | (refine ldF (by rfl) _ (by rfl) _ (by rfl) t hl H7 F0 ?_)
      | (go_at_call 13
         (with_reducible refine (askr_any _ t ht s h what e3).mono ?_)
         rintro e vx ⟨Ax, nx, dx, rfl, hx, Sx, kx⟩))
    go_meet
    exact ⟨_, _, _, _, rfl, rfl, rfl, hx, slb_up Sx (bel_new1 vx _), bx_new vx _ _, bel_t kx (bel_new1 vx _)⟩
  case rest =>
  obtain ⟨g16, A9, n9, d9, rfl, rfl, rfl, h9, S9, X9, k⟩ := hcut
  obtain ⟨v8, hvx⟩ : ∃ v8, v8 = wc := ⟨_, rfl⟩
  subst hvx
  have B8 := bel_t B7 k.out
  have H8 := boxA H7 k.out
  have M8 := boxA M7 k.out
  have N8 := boxA N7 k.out
  have X4 := boxA X4 k.out
  have X5 := boxA X5 k.out
  have X6 := boxA X6 k.out
  have X7 := boxA X7 k.out
  have X8 := boxA X8 k.out
  have S6 := slb_up S6 k.out
  have S7 := slb_up S7 k.out
  have S8 := slb_up S8 k.out
  clear k B7 H7 M7 N7 c30 m0 m1
  clear H8 M8 N8 F0 hsz e1 e2 e3 F24 F25 F26 F27 F28 F29 F30
  have x40 : World.cell? v8 ⟨g5, 0, none⟩ = some (.bool ta) := by simpa using X4.out.cell 0
  have x41 : World.cell? v8 ⟨g5, 1, none⟩ = some (.bool tb) := by simpa using X4.out.cell 1
  have x50 : World.cell? v8 ⟨g7, 0, none⟩ = some (.bool ta) := by simpa using X5.out.cell 0
  have x51 : World.cell? v8 ⟨g7, 1, none⟩ = some (.bool tb) := by simpa using X5.out.cell 1
  have x60 : World.cell? v8 ⟨g9, 0, none⟩ = some (.bool ma) := by simpa using X6.out.cell 0
  have x61 : World.cell? v8 ⟨g9, 1, none⟩ = some (.bool mb) := by simpa using X6.out.cell 1
  have x70 : World.cell? v8 ⟨g11, 0, none⟩ = some (.bool ma) := by simpa using X7.out.cell 0
  have x71 : World.cell? v8 ⟨g11, 1, none⟩ = some (.bool mb) := by simpa using X7.out.cell 1
  go_wp2_with (first
    | (go_at_call 14
       (first
         | ((with_reducible refine (bytes_two _ A6 A7 d6 d7 n6 n7 ml ml h6.out h7.out rfl S6 S7 (len_le h6.out lm.out)).mono ?_)
            rintro e v9 ⟨rfl, k9⟩
            have B9 := bel_t B8 k9.out
            have S8 := slb_up S8 k9.out
            have S9 := slb_up S9 k9.out
            have y80 : v9.cell? ⟨g13, 0, none⟩ = some (.bool aa) := by simpa using (boxA X8 k9.out).out.cell 0
            have y81 : v9.cell? ⟨g13, 1, none⟩ = some (.bool ab) := by simpa using (boxA X8 k9.out).out.cell 1
            have y90 : v9.cell? ⟨g16, 0, none⟩ = some (.bool aa) := by simpa using (boxA X9 k9.out).out.cell 0
            have y91 : v9.cell? ⟨g16, 1, none⟩ = some (.bool ab) := by simpa using (boxA X9 k9.out).out.cell 1
            clear k9)
         | ((with_reducible refine (bytes_two _ A8 A9 d8 d9 n8 n9 al al h8.out h9.out rfl S8 S9 (len_le h8.out la.out)).mono ?_)
            rintro e va ⟨rfl, ka⟩
            have Ba := bel_t B9 ka.out
            clear ka))))
  go_ret
  exact ⟨rfl, Ba⟩
end Go.Proofs.Ythaecflakefklaa
