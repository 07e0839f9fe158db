import Derived.Test.YtdcohhfbifiemaaMB
namespace Go.Proofs.Ytdcohhfbifiemaa
open Go.RowKit Go.Maps

theorem ins_at : ∀ {R : List Tm} {x : Tm} {j : Nat}, (∀ i y, i < j → R[i]? = some y → lt y x = true) → j ≤ R.length → (∀ y, R[j]? = some y → lt y x = false) → ins x R = R.take j ++ x :: R.drop j
  | [], x, j, _, h2, _ => by
    have : j = 0 := by simpa using h2
    subst this
    rfl
  | y :: r, x, 0, _, _, h3 => by
    have := h3 y rfl
    simp [ins, this]
  | y :: r, x, j + 1, h1, h2, h3 => by
    have := h1 0 y (by omega) rfl
    rw [ins, if_pos this]
    simp only [List.take_succ_cons, List.drop_succ_cons, List.cons_append]
    rw [ins_at (fun i z hi hz => h1 (i + 1) z (by omega) hz) (by simpa using h2) (fun z hz => h3 z hz)]
theorem mset_end {w w2 w7 : World} {G n0 c0 n7 c7 base j : Nat} {A0 A7 : Option Addr} {R : List Tm} {id d : Int} (hb : Box w G 29 #[.slice A0 n0 c0]) (k2 : But [] w w2) (k7 : But [] w2 w7) (hin : ins (id, d) R = R.take j ++ (id, d) :: R.drop j)
    (ho : w7.ownsRow base 43 2 (.slice A7 n7 c7) n7 (mv (R.take j) ++ [.int .i64 id, .int .i64 d] ++ mv (R.drop j))) : MdK w (w7.setCell ⟨G, 0, none⟩ (.slice A7 n7 c7)) G (ins (id, d) R) := by
  have e : mv (ins (id, d) R) = mv (R.take j) ++ [.int .i64 id, .int .i64 d] ++ mv (R.drop j) := by
    rw [hin, mv_app]
    simp [mv, tv]
  rw [← e] at ho
  exact md_store hb (k2.same k7) (Ro.of_own ho)
theorem rem_le (id : Int) (S : List Tm) : (rem id S).length ≤ S.length := List.length_filter_le _ _
/-- A literal that was laid ahead of a row of the call's own stays where that row grows. -/
theorem lit_kept {w0 w5 : World} {base : Nat} {x y : Value} (_h : (((w0.alloc (.cells #[x, y] 43)).alloc (.cells #[] 43)).ownsRow base 43 2 (.slice (some ⟨w0.heap.size + 1, 0, none⟩) 0 0) 0 [])) (hg : ((w0.alloc (.cells #[x, y] 43)).alloc (.cells #[] 43)).grownBy w5 (Value.slice (some ⟨w0.heap.size + 1, 0, none⟩) 0 0).ownBlock) :
    Lies w5 (w5.heap.size + 1) (some ⟨w0.heap.size, 0, none⟩) [x, y] := fun _ => by
  have hb : Box ((w0.alloc (.cells #[x, y] 43)).alloc (.cells #[] 43)) w0.heap.size 43 #[x, y] := ((But.refl [] _).alloc _).box (Box.new w0 43 #[x, y]) (by simp)
  have hb5 := hb.same (hg.block _ hb.lt (by simp [Value.ownBlock]))
  exact ⟨_, _, rfl, by have := hb5.lt; omega, fun j u hu => by rw [Nat.zero_add, hb5.cell]; simpa using hu⟩
theorem lit_kept2 {w0 w5 : World} {x y : Value} (hg : ((w0.alloc (.cells #[] 43)).alloc (.cells #[x, y] 43)).grownBy w5 (Value.slice (some ⟨w0.heap.size, 0, none⟩) 0 0).ownBlock) :
    Lies w5 (w5.heap.size + 1) (some ⟨w0.heap.size + 1, 0, none⟩) [x, y] := fun _ => by
  have hb : Box ((w0.alloc (.cells #[] 43)).alloc (.cells #[x, y] 43)) (w0.heap.size + 1) 43 #[x, y] := by have := Box.new (w0.alloc (.cells #[] 43)) 43 #[x, y]; simpa using this
  have hb5 := hb.same (hg.block _ hb.lt (by simp [Value.ownBlock]))
  exact ⟨_, _, rfl, by have := hb5.lt; omega, fun j u hu => by rw [Nat.zero_add, hb5.cell]; simpa using hu⟩
section
variable (w : World)
set_option maxHeartbeats 4000000 in
set_option maxRecDepth 100000 in
theorem mset_full {G : Nat} {S : List Tm} {id d : Int} (h : Hid (Md w G S)) (hn : S.length = 256) (hh : Hid (has id S = false)) : Calls Try.prog 10 #[.pointer (some ⟨G, 0, none⟩), .int .i64 id, .int .i64 d] w fun e w' => e = .returned (.int .i64 6) ∧ Hid (MdK w w' G S) := by
  obtain ⟨A, c, hb, hr⟩ := h.out
  have HB := hid hb
  have HR := hid hr
  have c0 : w.cell? ⟨G, 0, none⟩ = some (.slice A S.length c) := hb.cell 0
  have hn1 : S.length ≤ 1000 := by omega
  have HN := hid hn
  clear hb hr hn
  go_enter Try.func10, Try.ntmps10
  go_wp2_with (first
    | (go_at_call 21
       refine (cut_any w HR hn1).mono ?_
       rintro e w1 ⟨A1, n1, c1, rfl, HO1, HB1⟩
       rw [hh.out]
       have hl1 : n1 = 256 := by
         have h1 := HO1.out.1
         rw [mv_len, rem_none (has_false hh.out), HN.out] at h1
         omega
       subst hl1))
  go_ret
  exact ⟨rfl, h.out.keep0 (But.of_below HB1.out []), But.of_below HB1.out [G]⟩
set_option maxHeartbeats 8000000 in
set_option maxRecDepth 100000 in
theorem mset_yes {G : Nat} {S : List Tm} {id d : Int} (h : Hid (Md w G S)) (hn : S.length ≤ 256) (hh : Hid (has id S = true ∨ S.length < 256)) : Calls Try.prog 10 #[.pointer (some ⟨G, 0, none⟩), .int .i64 id, .int .i64 d] w fun e w' => e = .returned (.int .i64 0) ∧ Hid (MdK w w' G (ins (id, d) (rem id S))) := by
  obtain ⟨i0, hi0, hz0, hz1, hz2⟩ := info_parts Try.info43
  obtain ⟨A, c, hb, hr⟩ := h.out
  have HB := hid hb
  have HR := hid hr
  have c0 : w.cell? ⟨G, 0, none⟩ = some (.slice A S.length c) := hb.cell 0
  have hn1 : S.length ≤ 1000 := by omega
  clear hb hr
  obtain ⟨v, hv⟩ : ∃ v, has id S = v := ⟨_, rfl⟩
  have HV := hid hv
  have hrl := rem_le id S
  obtain ⟨R, hR⟩ : ∃ R, rem id S = R := ⟨_, rfl⟩
  rw [hR] at hrl ⊢
  go_enter Try.func10, Try.ntmps10
  go_wp2_with (first
    | (go_at_call 21
       refine (cut_any w HR hn1).mono ?_
       rintro e w1 ⟨A1, n1, c1, rfl, HO1, HB1⟩
       rw [hv]
       have ho1 := HO1.out
       rw [hR] at ho1
       have HO1 := hid ho1
       have hl1 : R.length = n1 := by
         have h1 := HO1.out.1
         rw [mv_len] at h1
         omega
       have hn256 : n1 ≤ 256 := by omega
       have HL1 := hid hl1
       have t1 : v = false → ((n1 : Int) == 256) = false := fun e => by
         subst e
         have h2 := hh.out
         rw [hv] at h2
         simp at h2 ⊢
         omega
       clear ho1
       cases v))
  all_goals
    have HX2 : Hid (Box (w1.alloc (.cells #[.int .i64 id, .int .i64 d] 43)) w1.heap.size 43 #[.int .i64 id, .int .i64 d]) := Box.new _ _ _
    have HO2 : Hid ((w1.alloc (.cells #[.int .i64 id, .int .i64 d] 43)).ownsRow w.heap.size 43 2 (.slice A1 n1 c1) n1 (mv R)) := hid (((But.refl [] w1).alloc _).own HO1.out (by simp))
    have HK2 : Hid (But [] w (w1.alloc (.cells #[.int .i64 id, .int .i64 d] 43))) := hid ((But.of_below HB1.out []).alloc _)
    have HG2 := hid (HK2.out.box HB.out (by simp))
    generalize (w1.alloc (.cells #[.int .i64 id, .int .i64 d] 43)) = w2 at HX2 HO2 HK2 HG2 ⊢
    generalize w1.heap.size = g at HX2 ⊢
    clear HO1 HB1 t1 hv HV c0 HR hl1 hh hR hrl
    have HR2 := hid (Ro.of_own HO2.out)
    go_loopw [10] (fun v wr => ∃ (j : Nat), v = .int .i64 j ∧ j ≤ n1 ∧ w2 = wr ∧ Hid (∀ i y, i < j → R[i]? = some y → lt y (id, d) = true)) (fun v _ => n1 - (intOf v).toNat)
    case atStart => exact ⟨0, rfl, Nat.zero_le _, rfl, fun i y hi => absurd hi (by omega)⟩
    case round =>
      obtain ⟨j, rfl, hj, hwr, HLT⟩ := hrel
      subst hwr
      by_cases hjn : j < n1
      · obtain ⟨y, hy⟩ : ∃ y, R[j]? = some y := ⟨_, List.getElem?_eq_getElem (by rw [HL1.out]; omega)⟩
        obtain ⟨b, o, rfl, q0, q1⟩ := HR2.out.at hy
        have hi1 : 0 ≤ (j : Int) ∧ (j : Int) < n1 := by omega
        have HY := hid hy
        obtain ⟨y1, y2⟩ := y
        simp only at q0 q1
        clear hy
        by_cases hlt : lt (y1, y2) (id, d) = true
        · have HLT2 : Hid (∀ i y, i < j + 1 → R[i]? = some y → lt y (id, d) = true) := hid (fun i z hi hz => by
            by_cases e : i = j
            · subst e
              rw [HY.out] at hz
              injection hz with hz
              subst hz
              exact hlt
            · exact HLT.out i z (by omega) hz)
          unfold lt at hlt
          simp only at hlt
          by_cases hdd : y2 = d
          · rw [if_pos hdd] at hlt
            have hlt' : y1 < id := by simpa using hlt
            have tg1 : ¬ (y2 < d) := by omega
            have tg2 : (y2 == d) = true := by simp [hdd]
            clear hdd hlt
            go_wp2
            go_roundw
            case rel => exact ⟨j + 1, by go_num, by omega, trivial, HLT2⟩
            case measure => simp [intOf]; omega
          · rw [if_neg hdd] at hlt
            have hlt' : y2 < d := by simpa using hlt
            clear hdd hlt
            go_wp2
            go_roundw
            case rel => exact ⟨j + 1, by go_num, by omega, trivial, HLT2⟩
            case measure => simp [intOf]; omega
        · have HIN : Hid (ins (id, d) R = R.take j ++ (id, d) :: R.drop j) := hid (ins_at HLT.out (by rw [HL1.out]; omega) (fun z hz => by rw [HY.out] at hz; injection hz with hz; subst hz; simpa using hlt))
          unfold lt at hlt
          simp only at hlt
          have tg1 : ¬ (y2 < d) := fun e => by
            rw [if_neg (by omega)] at hlt
            simp at hlt
            omega
          by_cases hdd : y2 = d
          · rw [if_pos hdd] at hlt
            have tg2 : (y2 == d) = true := by simp [hdd]
            have tg3 : ¬ (y1 < id) := by simpa using hlt
            clear hdd hlt
            rcases HO2.out.2 with ⟨hv0, h00⟩ | ⟨ga, cap, cur, hv0, _⟩
            · exact absurd hv0 (by simp)
            · injection hv0 with ha1 ha2 ha3
              injection ha1 with ha1
              injection ha1 with hb1 ho1 _
              subst hb1
              subst ho1
              subst ha3
              simp only [Nat.zero_add] at q0 q1
              have hcc : j ≤ c1 := by have := HR2.out.le; omega
              have HLT1 : Hid (∀ W, But [] w2 W → Lies W w2.heap.size (some ⟨b, 0, none⟩) (mv (R.take j))) := hid (fun W k => k.lies (HR2.out.take j (by omega)).lies (Nat.le_refl _) (by simp))
              have HLT3 : Hid (∀ W, But [] w2 W → Lies W w2.heap.size (if c1 = j then some ⟨b, 0, none⟩ else some ⟨b, j * 2, none⟩) (mv (R.drop j))) := hid (fun W k => by
                  have e : (if c1 = j then some (⟨b, 0, none⟩ : Addr) else some ⟨b, j * 2, none⟩) = some (if c1 = j then ⟨b, 0, none⟩ else (⟨b, 0, none⟩ : Addr).add (j * 2)) := by split <;> simp [Addr.add]
                  rw [e]
                  exact k.lies (HR2.out.drop j (by omega)).lies (Nat.le_refl _) (by simp))
              have hlt1 : (mv (R.take j)).length = j * 2 := by rw [mv_len, List.length_take]; have := HL1.out; omega
              have hlt3 : (mv (R.drop j)).length = (n1 - j) * 2 := by rw [mv_len, List.length_drop]; have := HL1.out; omega
              have HE1 : Hid ((w2.drew.alloc (.cells #[] 43)).ownsRow w2.heap.size 43 2 (.slice (some ⟨w2.heap.size, 0, none⟩) 0 0) 0 []) := World.ownsRow_lit w2.drew #[] 0 (Nat.le_refl _) (Nat.zero_le _) (by simp)
              have HKE1 : Hid (But [] w2 (w2.drew.alloc (.cells #[] 43))) := hid (((But.refl [] w2).drew).alloc _)
              have HE2 : Hid (((w2.drew.alloc (.cells #[] 43)).alloc (.cells #[.int .i64 id, .int .i64 d] 43)).ownsRow w2.heap.size 43 2 (.slice (some ⟨w2.heap.size, 0, none⟩) 0 0) 0 []) := hid (((But.refl [] _).alloc _).own HE1.out (by simp))
              have HKE2 : Hid (But [] w2 ((w2.drew.alloc (.cells #[] 43)).alloc (.cells #[.int .i64 id, .int .i64 d] 43))) := hid (HKE1.out.alloc _)
              have HE3 : Hid (((w2.drew.alloc (.cells #[.int .i64 id, .int .i64 d] 43)).alloc (.cells #[] 43)).ownsRow w2.heap.size 43 2 (.slice (some ⟨w2.heap.size + 1, 0, none⟩) 0 0) 0 []) := hid (by have := World.ownsRow_lit (w2.drew.alloc (.cells #[.int .i64 id, .int .i64 d] 43)) (base := w2.heap.size) (e := 43) (size := 2) #[] 0 (by simp) (Nat.zero_le _) (by simp); simpa using this)
              have HKE3 : Hid (But [] w2 ((w2.drew.alloc (.cells #[.int .i64 id, .int .i64 d] 43)).alloc (.cells #[] 43))) := hid ((((But.refl [] w2).drew).alloc _).alloc _)
              have g0 : w2.cell? ⟨g, 0, none⟩ = some (.int .i64 id) := HX2.out.cell 0
              have g1 : w2.cell? ⟨g, 1, none⟩ = some (.int .i64 d) := HX2.out.cell 1
              have g2 : ∀ o, (w2.alloc o).cell? ⟨g, 0, none⟩ = some (.int .i64 id) := fun o => ((((But.refl [] w2).alloc o).box HX2.out (by simp))).cell 0
              have g3 : ∀ o, (w2.alloc o).cell? ⟨g, 1, none⟩ = some (.int .i64 d) := fun o => ((((But.refl [] w2).alloc o).box HX2.out (by simp))).cell 1
              have g4 : ∀ o, (w2.drew.alloc o).cell? ⟨g, 0, none⟩ = some (.int .i64 id) := fun o => (((((But.refl [] w2).drew).alloc o).box HX2.out (by simp))).cell 0
              have g5 : ∀ o, (w2.drew.alloc o).cell? ⟨g, 1, none⟩ = some (.int .i64 d) := fun o => (((((But.refl [] w2).drew).alloc o).box HX2.out (by simp))).cell 1
              go_wp2
              go_region_law (first
                | (refine step_app _ rfl (.tmp 64) (.tmp 67) 27 rfl w2.heap.size 43 i0 _ 2 16 Try.underlying27 hi0 hz0 hz1 hz2 rfl (by decide) (some ⟨_, 0, none⟩) 0 0 [] rfl ?own1 w2.heap.size (some ⟨b, 0, none⟩) j c1 (mv (R.take j)) rfl hlt1 ?lies1 (mv_one _) (by unfold maxLen; omega) (by omega) ?base1 ?_
                   case own1 => first | exact HE1.out | exact HE2.out | exact HE3.out
                   case lies1 => first | exact HLT1.out _ HKE1.out | exact HLT1.out _ HKE2.out | exact HLT1.out _ HKE3.out
                   case base1 => first | exact HKE1.out.size | exact HKE2.out.size | exact HKE3.out.size
                   intro A5 c5 w5 ho5 hg5
                   have HK5 : Hid (But [] w2 w5) := hid (by first | exact HKE1.out.grown hg5 (fun k hk => .inr (HE1.out.lt k hk).1) | exact HKE2.out.grown hg5 (fun k hk => .inr (HE2.out.lt k hk).1) | exact HKE3.out.grown hg5 (fun k hk => .inr (HE3.out.lt k hk).1))
                   have HX5 := hid (HK5.out.box HX2.out (by simp))
                   have g50 : w5.cell? ⟨g, 0, none⟩ = some (.int .i64 id) := HX5.out.cell 0
                   have g51 : w5.cell? ⟨g, 1, none⟩ = some (.int .i64 d) := HX5.out.cell 1
                   have HO5 : Hid (w5.ownsRow w2.heap.size 43 2 (.slice A5 j c5) j (mv (R.take j))) := hid (by simpa using ho5)
                   have HS5 : Hid (w5.heap.size + 1 ≤ w5.heap.size + 1) := hid (Nat.le_refl _)
                   try have HLX : Hid (Lies w5 (w5.heap.size + 1) (some ⟨w2.heap.size, 0, none⟩) [.int .i64 id, .int .i64 d]) := hid (lit_kept (w0 := w2.drew) HE3.out hg5)
                   try have HLX : Hid (Lies w5 (w5.heap.size + 1) (some ⟨w2.heap.size + 1, 0, none⟩) [.int .i64 id, .int .i64 d]) := hid (lit_kept2 (w0 := w2.drew) hg5)
                   clear ho5 hg5)
                | (refine step_app _ rfl (.tmp 68) (.tmp 70) 27 rfl w2.heap.size 43 i0 _ 2 16 Try.underlying27 hi0 hz0 hz1 hz2 rfl (by decide) A5 j c5 (mv (R.take j)) rfl ?own2 (w5.heap.size + 1) (some ⟨_, 0, none⟩) 1 1 [.int .i64 id, .int .i64 d] rfl rfl ?lies2 (by simp [Value.oneCell']) (by unfold maxLen; omega) (by omega) ?base2 ?_
                   case own2 => first | exact HO5.out | exact ((But.refl [] w5).alloc _).own HO5.out (by simp)
                   case lies2 => first | exact HLX.out | exact lies_lit w5 #[.int .i64 id, .int .i64 d] 43
                   case base2 => first | exact HK5.out.size | exact (HK5.out.alloc _).size
                   intro A6 c6 w6 ho6 hg6
                   have HK6 : Hid (But [] w2 w6) := hid (by first | exact HK5.out.grown hg6 (fun k hk => .inr (HO5.out.lt k hk).1) | exact (HK5.out.alloc _).grown hg6 (fun k hk => .inr (HO5.out.lt k hk).1))
                   have HO6 := hid ho6
                   clear ho6 hg6)
                | (refine step_app _ rfl (.tmp 71) (.tmp 74) 27 rfl w2.heap.size 43 i0 _ 2 16 Try.underlying27 hi0 hz0 hz1 hz2 rfl (by decide) A6 (j + 1) c6 (mv (R.take j) ++ [.int .i64 id, .int .i64 d]) rfl HO6.out w2.heap.size (if c1 = j then some ⟨b, 0, none⟩ else some ⟨b, j * 2, none⟩) (n1 - j) (c1 - j) (mv (R.drop j)) rfl hlt3 (HLT3.out _ HK6.out) (mv_one _) (by unfold maxLen; omega) (by omega) HK6.out.size ?_
                   intro A7 c7 w7 ho7 hg7
                   have hk7 : But [] w2 w7 := HK6.out.grown hg7 (fun k hk => .inr (HO6.out.lt k hk).1)
                   have hx7 := hk7.box HG2.out (by simp)
                   have c70 : w7.cell? ⟨G, 0, none⟩ = some (.slice A S.length c) := hx7.cell 0
                   have f70 : w7.frozen? ⟨G, 0, none⟩ = false := hx7.frozen 0
                   have HK7 := hid hk7
                   have HO7 := hid ho7
                   clear ho7 hg7 hk7 hx7))
              all_goals
                go_wp2
                all_goals
                  go_ret
                  exact ⟨rfl, mset_end HB.out HK2.out HK7.out HIN.out HO7.out⟩
          · have tg2 : (y2 == d) = false := by simpa using hdd
            clear hdd hlt
            rcases HO2.out.2 with ⟨hv0, h00⟩ | ⟨ga, cap, cur, hv0, _⟩
            · exact absurd hv0 (by simp)
            · injection hv0 with ha1 ha2 ha3
              injection ha1 with ha1
              injection ha1 with hb1 ho1 _
              subst hb1
              subst ho1
              subst ha3
              simp only [Nat.zero_add] at q0 q1
              have hcc : j ≤ c1 := by have := HR2.out.le; omega
              have HLT1 : Hid (∀ W, But [] w2 W → Lies W w2.heap.size (some ⟨b, 0, none⟩) (mv (R.take j))) := hid (fun W k => k.lies (HR2.out.take j (by omega)).lies (Nat.le_refl _) (by simp))
              have HLT3 : Hid (∀ W, But [] w2 W → Lies W w2.heap.size (if c1 = j then some ⟨b, 0, none⟩ else some ⟨b, j * 2, none⟩) (mv (R.drop j))) := hid (fun W k => by
                  have e : (if c1 = j then some (⟨b, 0, none⟩ : Addr) else some ⟨b, j * 2, none⟩) = some (if c1 = j then ⟨b, 0, none⟩ else (⟨b, 0, none⟩ : Addr).add (j * 2)) := by split <;> simp [Addr.add]
                  rw [e]
                  exact k.lies (HR2.out.drop j (by omega)).lies (Nat.le_refl _) (by simp))
              have hlt1 : (mv (R.take j)).length = j * 2 := by rw [mv_len, List.length_take]; have := HL1.out; omega
              have hlt3 : (mv (R.drop j)).length = (n1 - j) * 2 := by rw [mv_len, List.length_drop]; have := HL1.out; omega
              have HE1 : Hid ((w2.drew.alloc (.cells #[] 43)).ownsRow w2.heap.size 43 2 (.slice (some ⟨w2.heap.size, 0, none⟩) 0 0) 0 []) := World.ownsRow_lit w2.drew #[] 0 (Nat.le_refl _) (Nat.zero_le _) (by simp)
              have HKE1 : Hid (But [] w2 (w2.drew.alloc (.cells #[] 43))) := hid (((But.refl [] w2).drew).alloc _)
              have HE2 : Hid (((w2.drew.alloc (.cells #[] 43)).alloc (.cells #[.int .i64 id, .int .i64 d] 43)).ownsRow w2.heap.size 43 2 (.slice (some ⟨w2.heap.size, 0, none⟩) 0 0) 0 []) := hid (((But.refl [] _).alloc _).own HE1.out (by simp))
              have HKE2 : Hid (But [] w2 ((w2.drew.alloc (.cells #[] 43)).alloc (.cells #[.int .i64 id, .int .i64 d] 43))) := hid (HKE1.out.alloc _)
              have HE3 : Hid (((w2.drew.alloc (.cells #[.int .i64 id, .int .i64 d] 43)).alloc (.cells #[] 43)).ownsRow w2.heap.size 43 2 (.slice (some ⟨w2.heap.size + 1, 0, none⟩) 0 0) 0 []) := hid (by have := World.ownsRow_lit (w2.drew.alloc (.cells #[.int .i64 id, .int .i64 d] 43)) (base := w2.heap.size) (e := 43) (size := 2) #[] 0 (by simp) (Nat.zero_le _) (by simp); simpa using this)
              have HKE3 : Hid (But [] w2 ((w2.drew.alloc (.cells #[.int .i64 id, .int .i64 d] 43)).alloc (.cells #[] 43))) := hid ((((But.refl [] w2).drew).alloc _).alloc _)
              have g0 : w2.cell? ⟨g, 0, none⟩ = some (.int .i64 id) := HX2.out.cell 0
              have g1 : w2.cell? ⟨g, 1, none⟩ = some (.int .i64 d) := HX2.out.cell 1
              have g2 : ∀ o, (w2.alloc o).cell? ⟨g, 0, none⟩ = some (.int .i64 id) := fun o => ((((But.refl [] w2).alloc o).box HX2.out (by simp))).cell 0
              have g3 : ∀ o, (w2.alloc o).cell? ⟨g, 1, none⟩ = some (.int .i64 d) := fun o => ((((But.refl [] w2).alloc o).box HX2.out (by simp))).cell 1
              have g4 : ∀ o, (w2.drew.alloc o).cell? ⟨g, 0, none⟩ = some (.int .i64 id) := fun o => (((((But.refl [] w2).drew).alloc o).box HX2.out (by simp))).cell 0
              have g5 : ∀ o, (w2.drew.alloc o).cell? ⟨g, 1, none⟩ = some (.int .i64 d) := fun o => (((((But.refl [] w2).drew).alloc o).box HX2.out (by simp))).cell 1
              go_wp2
              go_region_law (first
                | (refine step_app _ rfl (.tmp 64) (.tmp 67) 27 rfl w2.heap.size 43 i0 _ 2 16 Try.underlying27 hi0 hz0 hz1 hz2 rfl (by decide) (some ⟨_, 0, none⟩) 0 0 [] rfl ?own1 w2.heap.size (some ⟨b, 0, none⟩) j c1 (mv (R.take j)) rfl hlt1 ?lies1 (mv_one _) (by unfold maxLen; omega) (by omega) ?base1 ?_
                   case own1 => first | exact HE1.out | exact HE2.out | exact HE3.out
                   case lies1 => first | exact HLT1.out _ HKE1.out | exact HLT1.out _ HKE2.out | exact HLT1.out _ HKE3.out
                   case base1 => first | exact HKE1.out.size | exact HKE2.out.size | exact HKE3.out.size
                   intro A5 c5 w5 ho5 hg5
                   have HK5 : Hid (But [] w2 w5) := hid (by first | exact HKE1.out.grown hg5 (fun k hk => .inr (HE1.out.lt k hk).1) | exact HKE2.out.grown hg5 (fun k hk => .inr (HE2.out.lt k hk).1) | exact HKE3.out.grown hg5 (fun k hk => .inr (HE3.out.lt k hk).1))
                   have HX5 := hid (HK5.out.box HX2.out (by simp))
                   have g50 : w5.cell? ⟨g, 0, none⟩ = some (.int .i64 id) := HX5.out.cell 0
                   have g51 : w5.cell? ⟨g, 1, none⟩ = some (.int .i64 d) := HX5.out.cell 1
                   have HO5 : Hid (w5.ownsRow w2.heap.size 43 2 (.slice A5 j c5) j (mv (R.take j))) := hid (by simpa using ho5)
                   have HS5 : Hid (w5.heap.size + 1 ≤ w5.heap.size + 1) := hid (Nat.le_refl _)
                   try have HLX : Hid (Lies w5 (w5.heap.size + 1) (some ⟨w2.heap.size, 0, none⟩) [.int .i64 id, .int .i64 d]) := hid (lit_kept (w0 := w2.drew) HE3.out hg5)
                   try have HLX : Hid (Lies w5 (w5.heap.size + 1) (some ⟨w2.heap.size + 1, 0, none⟩) [.int .i64 id, .int .i64 d]) := hid (lit_kept2 (w0 := w2.drew) hg5)
                   clear ho5 hg5)
                | (refine step_app _ rfl (.tmp 68) (.tmp 70) 27 rfl w2.heap.size 43 i0 _ 2 16 Try.underlying27 hi0 hz0 hz1 hz2 rfl (by decide) A5 j c5 (mv (R.take j)) rfl ?own2 (w5.heap.size + 1) (some ⟨_, 0, none⟩) 1 1 [.int .i64 id, .int .i64 d] rfl rfl ?lies2 (by simp [Value.oneCell']) (by unfold maxLen; omega) (by omega) ?base2 ?_
                   case own2 => first | exact HO5.out | exact ((But.refl [] w5).alloc _).own HO5.out (by simp)
                   case lies2 => first | exact HLX.out | exact lies_lit w5 #[.int .i64 id, .int .i64 d] 43
                   case base2 => first | exact HK5.out.size | exact (HK5.out.alloc _).size
                   intro A6 c6 w6 ho6 hg6
                   have HK6 : Hid (But [] w2 w6) := hid (by first | exact HK5.out.grown hg6 (fun k hk => .inr (HO5.out.lt k hk).1) | exact (HK5.out.alloc _).grown hg6 (fun k hk => .inr (HO5.out.lt k hk).1))
                   have HO6 := hid ho6
                   clear ho6 hg6)
                | (refine step_app _ rfl (.tmp 71) (.tmp 74) 27 rfl w2.heap.size 43 i0 _ 2 16 Try.underlying27 hi0 hz0 hz1 hz2 rfl (by decide) A6 (j + 1) c6 (mv (R.take j) ++ [.int .i64 id, .int .i64 d]) rfl HO6.out w2.heap.size (if c1 = j then some ⟨b, 0, none⟩ else some ⟨b, j * 2, none⟩) (n1 - j) (c1 - j) (mv (R.drop j)) rfl hlt3 (HLT3.out _ HK6.out) (mv_one _) (by unfold maxLen; omega) (by omega) HK6.out.size ?_
                   intro A7 c7 w7 ho7 hg7
                   have hk7 : But [] w2 w7 := HK6.out.grown hg7 (fun k hk => .inr (HO6.out.lt k hk).1)
                   have hx7 := hk7.box HG2.out (by simp)
                   have c70 : w7.cell? ⟨G, 0, none⟩ = some (.slice A S.length c) := hx7.cell 0
                   have f70 : w7.frozen? ⟨G, 0, none⟩ = false := hx7.frozen 0
                   have HK7 := hid hk7
                   have HO7 := hid ho7
                   clear ho7 hg7 hk7 hx7))
              all_goals
                go_wp2
                all_goals
                  go_ret
                  exact ⟨rfl, mset_end HB.out HK2.out HK7.out HIN.out HO7.out⟩
      · have hje : j = n1 := by omega
        have HJE := hid hje
        have t9 : ¬ ((j : Int) < n1) := by omega
        have HIN : Hid (ins (id, d) R = R.take j ++ (id, d) :: R.drop j) := hid (ins_at HLT.out (by rw [HL1.out]; omega) (fun z hz => by rw [List.getElem?_eq_none (by rw [HL1.out]; omega)] at hz; cases hz))
        clear hje
        rcases HO2.out.2 with ⟨hv0, h00⟩ | ⟨ga, cap, cur, hv0, _⟩
        · injection hv0 with ha1 ha2 ha3
          subst ha1
          subst ha3
          subst h00
          have hj0 : j = 0 := by omega
          subst hj0
          have hR0 : R = [] := List.eq_nil_of_length_eq_zero HL1.out
          subst hR0
          have HE1 : Hid ((w2.drew.alloc (.cells #[] 43)).ownsRow w2.heap.size 43 2 (.slice (some ⟨w2.heap.size, 0, none⟩) 0 0) 0 []) := World.ownsRow_lit w2.drew #[] 0 (Nat.le_refl _) (Nat.zero_le _) (by simp)
          have HKE1 : Hid (But [] w2 (w2.drew.alloc (.cells #[] 43))) := hid (((But.refl [] w2).drew).alloc _)
          have HE2 : Hid (((w2.drew.alloc (.cells #[] 43)).alloc (.cells #[.int .i64 id, .int .i64 d] 43)).ownsRow w2.heap.size 43 2 (.slice (some ⟨w2.heap.size, 0, none⟩) 0 0) 0 []) := hid (((But.refl [] _).alloc _).own HE1.out (by simp))
          have HKE2 : Hid (But [] w2 ((w2.drew.alloc (.cells #[] 43)).alloc (.cells #[.int .i64 id, .int .i64 d] 43))) := hid (HKE1.out.alloc _)
          have HE3 : Hid (((w2.drew.alloc (.cells #[.int .i64 id, .int .i64 d] 43)).alloc (.cells #[] 43)).ownsRow w2.heap.size 43 2 (.slice (some ⟨w2.heap.size + 1, 0, none⟩) 0 0) 0 []) := hid (by have := World.ownsRow_lit (w2.drew.alloc (.cells #[.int .i64 id, .int .i64 d] 43)) (base := w2.heap.size) (e := 43) (size := 2) #[] 0 (by simp) (Nat.zero_le _) (by simp); simpa using this)
          have HKE3 : Hid (But [] w2 ((w2.drew.alloc (.cells #[.int .i64 id, .int .i64 d] 43)).alloc (.cells #[] 43))) := hid ((((But.refl [] w2).drew).alloc _).alloc _)
          have g0 : w2.cell? ⟨g, 0, none⟩ = some (.int .i64 id) := HX2.out.cell 0
          have g1 : w2.cell? ⟨g, 1, none⟩ = some (.int .i64 d) := HX2.out.cell 1
          have g2 : ∀ o, (w2.alloc o).cell? ⟨g, 0, none⟩ = some (.int .i64 id) := fun o => ((((But.refl [] w2).alloc o).box HX2.out (by simp))).cell 0
          have g3 : ∀ o, (w2.alloc o).cell? ⟨g, 1, none⟩ = some (.int .i64 d) := fun o => ((((But.refl [] w2).alloc o).box HX2.out (by simp))).cell 1
          have g4 : ∀ o, (w2.drew.alloc o).cell? ⟨g, 0, none⟩ = some (.int .i64 id) := fun o => (((((But.refl [] w2).drew).alloc o).box HX2.out (by simp))).cell 0
          have g5 : ∀ o, (w2.drew.alloc o).cell? ⟨g, 1, none⟩ = some (.int .i64 d) := fun o => (((((But.refl [] w2).drew).alloc o).box HX2.out (by simp))).cell 1
          go_wp2
          go_region_law (first
            | (refine step_app _ rfl (.tmp 64) (.tmp 67) 27 rfl w2.heap.size 43 i0 _ 2 16 Try.underlying27 hi0 hz0 hz1 hz2 rfl (by decide) (some ⟨_, 0, none⟩) 0 0 [] rfl ?own1 w2.heap.size none 0 0 [] rfl rfl ?lies1 (by simp) (by unfold maxLen; omega) (by omega) ?base1 ?_
               case own1 => first | exact HE1.out | exact HE2.out | exact HE3.out
               case lies1 => exact Lies.nil_
               case base1 => first | exact HKE1.out.size | exact HKE2.out.size | exact HKE3.out.size
               intro A5 c5 w5 ho5 hg5
               have HK5 : Hid (But [] w2 w5) := hid (by first | exact HKE1.out.grown hg5 (fun k hk => .inr (HE1.out.lt k hk).1) | exact HKE2.out.grown hg5 (fun k hk => .inr (HE2.out.lt k hk).1) | exact HKE3.out.grown hg5 (fun k hk => .inr (HE3.out.lt k hk).1))
               have HX5 := hid (HK5.out.box HX2.out (by simp))
               have g50 : w5.cell? ⟨g, 0, none⟩ = some (.int .i64 id) := HX5.out.cell 0
               have g51 : w5.cell? ⟨g, 1, none⟩ = some (.int .i64 d) := HX5.out.cell 1
               have HO5 : Hid (w5.ownsRow w2.heap.size 43 2 (.slice A5 0 c5) 0 []) := hid (by simpa using ho5)
               have HS5 : Hid (w5.heap.size + 1 ≤ w5.heap.size + 1) := hid (Nat.le_refl _)
               try have HLX : Hid (Lies w5 (w5.heap.size + 1) (some ⟨w2.heap.size, 0, none⟩) [.int .i64 id, .int .i64 d]) := hid (lit_kept (w0 := w2.drew) HE3.out hg5)
               try have HLX : Hid (Lies w5 (w5.heap.size + 1) (some ⟨w2.heap.size + 1, 0, none⟩) [.int .i64 id, .int .i64 d]) := hid (lit_kept2 (w0 := w2.drew) hg5)
               clear ho5 hg5)
            | (refine step_app _ rfl (.tmp 68) (.tmp 70) 27 rfl w2.heap.size 43 i0 _ 2 16 Try.underlying27 hi0 hz0 hz1 hz2 rfl (by decide) A5 0 c5 [] rfl ?own2 (w5.heap.size + 1) (some ⟨_, 0, none⟩) 1 1 [.int .i64 id, .int .i64 d] rfl rfl ?lies2 (by simp [Value.oneCell']) (by unfold maxLen; omega) (by omega) ?base2 ?_
               case own2 => first | exact HO5.out | exact ((But.refl [] w5).alloc _).own HO5.out (by simp)
               case lies2 => first | exact HLX.out | exact lies_lit w5 #[.int .i64 id, .int .i64 d] 43
               case base2 => first | exact HK5.out.size | exact (HK5.out.alloc _).size
               intro A6 c6 w6 ho6 hg6
               have HK6 : Hid (But [] w2 w6) := hid (by first | exact HK5.out.grown hg6 (fun k hk => .inr (HO5.out.lt k hk).1) | exact (HK5.out.alloc _).grown hg6 (fun k hk => .inr (HO5.out.lt k hk).1))
               have HO6 : Hid (w6.ownsRow w2.heap.size 43 2 (.slice A6 1 c6) 1 [.int .i64 id, .int .i64 d]) := hid (by simpa using ho6)
               clear ho6 hg6)
            | (refine step_app _ rfl (.tmp 71) (.tmp 74) 27 rfl w2.heap.size 43 i0 _ 2 16 Try.underlying27 hi0 hz0 hz1 hz2 rfl (by decide) A6 1 c6 [.int .i64 id, .int .i64 d] rfl HO6.out w2.heap.size none 0 0 [] rfl rfl Lies.nil_ (by simp) (by unfold maxLen; omega) (by omega) HK6.out.size ?_
               intro A7 c7 w7 ho7 hg7
               have hk7 : But [] w2 w7 := HK6.out.grown hg7 (fun k hk => .inr (HO6.out.lt k hk).1)
               have hx7 := hk7.box HG2.out (by simp)
               have c70 : w7.cell? ⟨G, 0, none⟩ = some (.slice A S.length c) := hx7.cell 0
               have f70 : w7.frozen? ⟨G, 0, none⟩ = false := hx7.frozen 0
               have HK7 := hid hk7
               have HO7 := hid ho7
               clear ho7 hg7 hk7 hx7))
          all_goals
            go_wp2
            all_goals
              go_ret
              exact ⟨rfl, mset_end HB.out HK2.out HK7.out HIN.out (by simpa [mv] using HO7.out)⟩
        · injection hv0 with ha1 ha2 ha3
          subst ha1
          subst ha3
          have hcc : j ≤ c1 := by have := HR2.out.le; omega
          have HLT1 : Hid (∀ W, But [] w2 W → Lies W w2.heap.size (some ⟨ga, 0, none⟩) (mv (R.take j))) := hid (fun W k => k.lies (HR2.out.take j (by omega)).lies (Nat.le_refl _) (by simp))
          have HLT3 : Hid (∀ W, But [] w2 W → Lies W w2.heap.size (if c1 = j then some ⟨ga, 0, none⟩ else some ⟨ga, j * 2, none⟩) (mv (R.drop j))) := hid (fun W k => by
              have e : (if c1 = j then some (⟨ga, 0, none⟩ : Addr) else some ⟨ga, j * 2, none⟩) = some (if c1 = j then ⟨ga, 0, none⟩ else (⟨ga, 0, none⟩ : Addr).add (j * 2)) := by split <;> simp [Addr.add]
              rw [e]
              exact k.lies (HR2.out.drop j (by omega)).lies (Nat.le_refl _) (by simp))
          have hlt1 : (mv (R.take j)).length = j * 2 := by rw [mv_len, List.length_take]; have := HL1.out; omega
          have hlt3 : (mv (R.drop j)).length = (n1 - j) * 2 := by rw [mv_len, List.length_drop]; have := HL1.out; omega
          have HE1 : Hid ((w2.drew.alloc (.cells #[] 43)).ownsRow w2.heap.size 43 2 (.slice (some ⟨w2.heap.size, 0, none⟩) 0 0) 0 []) := World.ownsRow_lit w2.drew #[] 0 (Nat.le_refl _) (Nat.zero_le _) (by simp)
          have HKE1 : Hid (But [] w2 (w2.drew.alloc (.cells #[] 43))) := hid (((But.refl [] w2).drew).alloc _)
          have HE2 : Hid (((w2.drew.alloc (.cells #[] 43)).alloc (.cells #[.int .i64 id, .int .i64 d] 43)).ownsRow w2.heap.size 43 2 (.slice (some ⟨w2.heap.size, 0, none⟩) 0 0) 0 []) := hid (((But.refl [] _).alloc _).own HE1.out (by simp))
          have HKE2 : Hid (But [] w2 ((w2.drew.alloc (.cells #[] 43)).alloc (.cells #[.int .i64 id, .int .i64 d] 43))) := hid (HKE1.out.alloc _)
          have HE3 : Hid (((w2.drew.alloc (.cells #[.int .i64 id, .int .i64 d] 43)).alloc (.cells #[] 43)).ownsRow w2.heap.size 43 2 (.slice (some ⟨w2.heap.size + 1, 0, none⟩) 0 0) 0 []) := hid (by have := World.ownsRow_lit (w2.drew.alloc (.cells #[.int .i64 id, .int .i64 d] 43)) (base := w2.heap.size) (e := 43) (size := 2) #[] 0 (by simp) (Nat.zero_le _) (by simp); simpa using this)
          have HKE3 : Hid (But [] w2 ((w2.drew.alloc (.cells #[.int .i64 id, .int .i64 d] 43)).alloc (.cells #[] 43))) := hid ((((But.refl [] w2).drew).alloc _).alloc _)
          have g0 : w2.cell? ⟨g, 0, none⟩ = some (.int .i64 id) := HX2.out.cell 0
          have g1 : w2.cell? ⟨g, 1, none⟩ = some (.int .i64 d) := HX2.out.cell 1
          have g2 : ∀ o, (w2.alloc o).cell? ⟨g, 0, none⟩ = some (.int .i64 id) := fun o => ((((But.refl [] w2).alloc o).box HX2.out (by simp))).cell 0
          have g3 : ∀ o, (w2.alloc o).cell? ⟨g, 1, none⟩ = some (.int .i64 d) := fun o => ((((But.refl [] w2).alloc o).box HX2.out (by simp))).cell 1
          have g4 : ∀ o, (w2.drew.alloc o).cell? ⟨g, 0, none⟩ = some (.int .i64 id) := fun o => (((((But.refl [] w2).drew).alloc o).box HX2.out (by simp))).cell 0
          have g5 : ∀ o, (w2.drew.alloc o).cell? ⟨g, 1, none⟩ = some (.int .i64 d) := fun o => (((((But.refl [] w2).drew).alloc o).box HX2.out (by simp))).cell 1
          go_wp2
          go_region_law (first
            | (refine step_app _ rfl (.tmp 64) (.tmp 67) 27 rfl w2.heap.size 43 i0 _ 2 16 Try.underlying27 hi0 hz0 hz1 hz2 rfl (by decide) (some ⟨_, 0, none⟩) 0 0 [] rfl ?own1 w2.heap.size (some ⟨ga, 0, none⟩) j c1 (mv (R.take j)) rfl hlt1 ?lies1 (mv_one _) (by unfold maxLen; omega) (by omega) ?base1 ?_
               case own1 => first | exact HE1.out | exact HE2.out | exact HE3.out
               case lies1 => first | exact HLT1.out _ HKE1.out | exact HLT1.out _ HKE2.out | exact HLT1.out _ HKE3.out
               case base1 => first | exact HKE1.out.size | exact HKE2.out.size | exact HKE3.out.size
               intro A5 c5 w5 ho5 hg5
               have HK5 : Hid (But [] w2 w5) := hid (by first | exact HKE1.out.grown hg5 (fun k hk => .inr (HE1.out.lt k hk).1) | exact HKE2.out.grown hg5 (fun k hk => .inr (HE2.out.lt k hk).1) | exact HKE3.out.grown hg5 (fun k hk => .inr (HE3.out.lt k hk).1))
               have HX5 := hid (HK5.out.box HX2.out (by simp))
               have g50 : w5.cell? ⟨g, 0, none⟩ = some (.int .i64 id) := HX5.out.cell 0
               have g51 : w5.cell? ⟨g, 1, none⟩ = some (.int .i64 d) := HX5.out.cell 1
               have HO5 : Hid (w5.ownsRow w2.heap.size 43 2 (.slice A5 j c5) j (mv (R.take j))) := hid (by simpa using ho5)
               have HS5 : Hid (w5.heap.size + 1 ≤ w5.heap.size + 1) := hid (Nat.le_refl _)
               try have HLX : Hid (Lies w5 (w5.heap.size + 1) (some ⟨w2.heap.size, 0, none⟩) [.int .i64 id, .int .i64 d]) := hid (lit_kept (w0 := w2.drew) HE3.out hg5)
               try have HLX : Hid (Lies w5 (w5.heap.size + 1) (some ⟨w2.heap.size + 1, 0, none⟩) [.int .i64 id, .int .i64 d]) := hid (lit_kept2 (w0 := w2.drew) hg5)
               clear ho5 hg5)
            | (refine step_app _ rfl (.tmp 68) (.tmp 70) 27 rfl w2.heap.size 43 i0 _ 2 16 Try.underlying27 hi0 hz0 hz1 hz2 rfl (by decide) A5 j c5 (mv (R.take j)) rfl ?own2 (w5.heap.size + 1) (some ⟨_, 0, none⟩) 1 1 [.int .i64 id, .int .i64 d] rfl rfl ?lies2 (by simp [Value.oneCell']) (by unfold maxLen; omega) (by omega) ?base2 ?_
               case own2 => first | exact HO5.out | exact ((But.refl [] w5).alloc _).own HO5.out (by simp)
               case lies2 => first | exact HLX.out | exact lies_lit w5 #[.int .i64 id, .int .i64 d] 43
               case base2 => first | exact HK5.out.size | exact (HK5.out.alloc _).size
               intro A6 c6 w6 ho6 hg6
               have HK6 : Hid (But [] w2 w6) := hid (by first | exact HK5.out.grown hg6 (fun k hk => .inr (HO5.out.lt k hk).1) | exact (HK5.out.alloc _).grown hg6 (fun k hk => .inr (HO5.out.lt k hk).1))
               have HO6 := hid ho6
               clear ho6 hg6)
            | (refine step_app _ rfl (.tmp 71) (.tmp 74) 27 rfl w2.heap.size 43 i0 _ 2 16 Try.underlying27 hi0 hz0 hz1 hz2 rfl (by decide) A6 (j + 1) c6 (mv (R.take j) ++ [.int .i64 id, .int .i64 d]) rfl HO6.out w2.heap.size (if c1 = j then some ⟨ga, 0, none⟩ else some ⟨ga, j * 2, none⟩) (n1 - j) (c1 - j) (mv (R.drop j)) rfl hlt3 (HLT3.out _ HK6.out) (mv_one _) (by unfold maxLen; omega) (by omega) HK6.out.size ?_
               intro A7 c7 w7 ho7 hg7
               have hk7 : But [] w2 w7 := HK6.out.grown hg7 (fun k hk => .inr (HO6.out.lt k hk).1)
               have hx7 := hk7.box HG2.out (by simp)
               have c70 : w7.cell? ⟨G, 0, none⟩ = some (.slice A S.length c) := hx7.cell 0
               have f70 : w7.frozen? ⟨G, 0, none⟩ = false := hx7.frozen 0
               have HK7 := hid hk7
               have HO7 := hid ho7
               clear ho7 hg7 hk7 hx7))
          all_goals
            go_wp2
            all_goals
              go_ret
              exact ⟨rfl, mset_end HB.out HK2.out HK7.out HIN.out HO7.out⟩
end
end Go.Proofs.Ytdcohhfbifiemaa
