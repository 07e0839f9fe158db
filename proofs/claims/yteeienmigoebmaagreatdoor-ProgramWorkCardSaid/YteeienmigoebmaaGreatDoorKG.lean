import Derived.Test.YteeienmigoebmaaGreatDoorKF
namespace Go.Proofs.YteeienmigoebmaaGreatDoor
namespace L19
open Go.RowKit L18

/-! Layer 19, the program's side: a program's name. -/
theorem own_block {w w2 : World} {base e size n : Nat} {v : Value} {xs : List Value} (h : w.ownsRow base e size v n xs) (hb : ∀ k, v.ownBlock = some k → w2.heap[k]? = w.heap[k]?) : w2.ownsRow base e size v n xs := by
  refine ⟨h.1, ?_⟩
  rcases h.2 with hn | ⟨g, cap, cur, rfl, hbg, hg, rest⟩
  · exact .inl hn
  · exact .inr ⟨g, cap, cur, rfl, hbg, (hb g rfl).trans hg, rest⟩
/-- One more operation of the last program. -/
theorem RdS.op {w w2 : World} {g base n c bl b q c5 : Nat} {A5 : Option Addr} {Xs : List PgX} {nm : List UInt8} {ops : List OpV} {oA : Option Addr} {oc : Nat} {o : OpV} (h : RdS w g base (some ⟨b, 0, none⟩) n c bl (Xs ++ [((nm, ops), oA, oc)])) (hq : ops.length = q) (hr : w2.ownsRow bl 46 4 (.slice A5 (q + 1) c5) (q + 1) (opsC ops ++ opsC [o])) (hk : Kept bl [46] w w2) :
    RdS (w2.setCell ⟨b, (n - 1) * 2 + 1, none⟩ (.slice A5 (q + 1) c5)) g base (some ⟨b, 0, none⟩) n c bl (Xs ++ [((nm, ops ++ [o]), A5, c5)]) := by
  subst hq
  have hlen : Xs.length = n - 1 := by have := h.len; rw [List.length_append] at this; simp at this; omega
  have hrow := hk.own h.row (by decide)
  obtain ⟨_, cs, hxb⟩ := own_box hrow b rfl
  have hbg : Box w2 g 103 (rdA (.slice (some ⟨b, 0, none⟩) n c)) := hk.box h.box (by decide)
  have hat : (Xs ++ [((nm, ops), oA, oc)])[n - 1]? = some ((nm, ops), oA, oc) := by rw [← hlen]; simp
  have hs := (hrow.stored ((n - 1) * 2 + 1) (.slice A5 (ops ++ [o]).length c5)).1
  rw [pgs_put hat] at hs
  have hset : (Xs ++ [((nm, ops), oA, oc)]).set (n - 1) ((nm, ops ++ [o]), A5, c5) = Xs ++ [((nm, ops ++ [o]), A5, c5)] := by rw [← hlen]; simp
  rw [hset] at hs
  have hol : (ops ++ [o]).length = ops.length + 1 := by simp
  have hsz : (w2.setCell ⟨b, (n - 1) * 2 + 1, none⟩ (.slice A5 (ops.length + 1) c5)).heap.size = w2.heap.size := by simp [World.setCell]
  rw [hol] at hs
  refine ⟨((Kept.refl b [43] w2).store hxb (Nat.le_refl _) (by simp) _).box hbg (by decide), h.gb, by have := h.len; simp at this ⊢; omega, hs, ?_, ?_, h.bb, by rw [hsz]; exact Nat.le_trans h.bw hk.size⟩
  · intro y hy
    rw [List.dropLast_concat] at hy
    obtain ⟨h1, h2⟩ := h.old y (by rw [List.dropLast_concat]; exact hy)
    refine ⟨own_other hxb (by decide) (own_block h1 fun k hk2 => hk.block k (h1.lt k hk2).2 (.inl (h2 k hk2))), h2⟩
  · intro y hy
    rw [List.getLast?_concat] at hy
    obtain rfl := Option.some.inj hy
    show World.ownsRow _ bl _ 4 (.slice A5 (ops ++ [o]).length c5) (ops ++ [o]).length (opsC (ops ++ [o]))
    rw [hol, opsC_append]
    exact own_other hxb (by decide) hr
/-- What reading a line leaves. -/
def TookS (u0 w : World) (g : Nat) (X : List PgX) : Prop := ∃ A n c bl, Hid (RdS w g u0.heap.size A n c bl X) ∧ Hid (Below u0.heap.size u0 w)
theorem infoPG : (Tryz.prog.info? 43).map (fun i => (i.zero, i.size, i.bytes)) = some (some (.agg #[.string ⟨#[]⟩, .slice none 0 0]), 2, 40) := by kernel_rfl
section
variable {u0 w : World} {g n c bl : Nat} {A : Option Addr} {X : List PgX}
set_option maxRecDepth 100000 in
set_option maxHeartbeats 8000000 in
theorem name_yes (HB : Hid (Below u0.heap.size u0 w)) (hS : Hid (RdS w g u0.heap.size A n c bl X)) (hn : n ≤ 262144) {nm : List UInt8} (hl : nm.length ≤ 262144) (hp : Hid (nm.all prB = true)) :
    Calls Tryz.prog 73 #[.pointer (some ⟨g, 0, none⟩), .string (bs (32 :: nm))] w fun e w' => e = .returned (.bool true) ∧ TookS u0 w' g (X ++ [((nm, []), none, 0)]) := by
  obtain ⟨m, hm⟩ : ∃ m, nm.length = m := ⟨_, rfl⟩
  have hsz : (bs nm).size = m := by rw [bs_size, hm]
  go_enter Tryz.func73, Tryz.ntmps73
  go_wp2_with (first
    | (go_at_call 78
       (with_reducible refine (prefix_yes _ nm).mono ?_)
       rintro e w1 ⟨rfl, hw⟩
       obtain rfl := hw.symm))
  go_loopw [17] (fun i wr => ∃ k : Nat, k ≤ m ∧ i = .int .i64 (k : Int) ∧ wr = w) (fun i _ => m - (intOf i).toNat)
  case atStart => exact ⟨0, by omega, rfl, rfl⟩
  case round =>
    obtain ⟨k, hk, rfl, hw⟩ := hrel
    obtain rfl := hw.symm
    by_cases hlt : k < m
    · have hi : (k : Int) < m := by omega
      obtain ⟨x, hx⟩ : ∃ x, nm[k]? = some x := ⟨_, List.getElem?_eq_getElem (by omega)⟩
      have hx1 : (bs nm)[k]? = some x := by rw [bs_at, hx]
      have hx2 : ∀ h : k < (bs nm).size, (bs nm)[k]'h = x := fun h => by
        rw [getElem?_pos (bs nm) k h] at hx1
        exact Option.some.inj hx1
      have hv : Hid (prB x = true) := hid (List.all_eq_true.1 hp.out x (List.mem_of_getElem? hx))
      have hw7 : IntKind.i64.wrap ((k : Int) + 1) = (k : Int) + 1 := IntWalk.i64_in _ (by omega)
      clear hx hx1
      go_wp2_with (first
        | (go_at_call 88
           (with_reducible refine (visible_any _ hv).mono ?_)
           rintro e w1 ⟨rfl, hw⟩
           obtain rfl := hw.symm))
      go_roundw
      case rel => exact ⟨k + 1, by omega, by go_num, by trivial⟩
      case measure => simp [intOf] <;> omega
    · obtain rfl : k = m := by omega
      have hi : ¬ (k : Int) < (k : Int) := by omega
      have hgb : u0.heap.size ≤ g := hS.out.gb
      have hmx : n + 1 ≤ maxLen := by unfold maxLen; omega
      have SZ : ∀ W, Below w.heap.size w W → Hid (RdS W g u0.heap.size A n c bl X) := fun W h => rds_up hS h
      have BZ : ∀ W, Below w.heap.size w W → Hid (Below u0.heap.size u0 W) := fun W h => bel_3 HB (hid h)
      have cz : ∀ W, Below w.heap.size w W → W.cell? ⟨g, 96, none⟩ = some (.slice A n c) := fun W h => (SZ W h).out.cell
      have c0 := cz w (Below.refl _ _)
      have c1 := cz w.drew (bel_d (Below.refl _ _))
      have HU := hid HB.out.size
      clear hp hm hsz
      go_upto_region 10 with fail
      go_region_law ((first
        | (go_simp
           go_at_call 89
           (with_reducible refine (clone_any _ hl).mono ?_)
           rintro e w5 ⟨rfl, C5⟩
           have b5 : Below w.heap.size w w5 := Below.trans (by repeat (first | exact Below.refl _ _ | with_reducible apply bel_d)) (C5.out.mono (Below.size (by repeat (first | exact Below.refl _ _ | with_reducible apply bel_d))))
           have y5 := cz w5 b5
           have b6 : Below w.heap.size w (w5.alloc (.cells #[.string (bs nm), .slice none 0 0] 43)) := b5.alloc b5.size _
           have y6 := cz _ b6
           have S6 := SZ _ b6
           have B6 := BZ _ b6)
        | (refine step_row 27 43 2 40 _ Tryz.underlying27 infoPG rfl (by decide) (by rfl) (.tmp 30) (.tmp 34) rfl u0.heap.size n 1 c A (pgsC X) (pgsC [((nm, []), none, 0)]) rfl (hid S6.out.row) B6.out.size _ 1 rfl (hid (lies_row w5 43 (pgsC [((nm, []), none, 0)]) #[.string (bs nm), .slice none 0 0] _ rfl rfl)) rfl (pgsC_one _) hmx (by omega) ?_
           intro A7 c7 u7 o7 k7 g7
           have x7 : Hid (Box u7 g 103 (rdA (.slice A n c))) := hid (k7.out.box S6.out.box (by decide))
           have y7 : u7.cell? ⟨g, 96, none⟩ = some (.slice A n c) := (x7.out.cell 96).trans (rdA_96 _)
           have f7 : u7.frozen? ⟨g, 96, none⟩ = false := x7.out.frozen 96
           have R7 := hid (S6.out.name o7.out k7.out)
           have B7 : Hid (Below u0.heap.size u0 (u7.setCell ⟨g, 96, none⟩ (.slice A7 (n + 1) c7))) := hid ((B6.out.trans (k7.out.below B6.out.size)).setCell (p := ⟨g, 96, none⟩) hgb _)
           clear o7 k7 g7)))
      all_goals
        go_wp2
        go_ret
        exact ⟨rfl, A7, _, c7, _, R7, B7⟩
set_option maxRecDepth 100000 in
set_option maxHeartbeats 8000000 in
theorem name_no (w : World) {b : List UInt8} (hl : b.length ≤ 262144) (hb : Hid (b.head? ≠ some 32 ∨ ∃ nm, b = 32 :: nm ∧ nm.all prB = false)) :
    Calls Tryz.prog 73 #[.pointer (some ⟨g, 0, none⟩), .string (bs b)] w fun e w' => e = .returned (.bool false) ∧ Hid (Below w.heap.size w w') := by
  rcases hb.out with h | ⟨nm, rfl, hp⟩
  · have HH := hid h
    clear hb h
    go_enter Tryz.func73, Tryz.ntmps73
    go_wp2_with (first
      | (go_at_call 78
         (with_reducible refine (prefix_no _ HH).mono ?_)
         rintro e w1 ⟨rfl, hw⟩
         obtain rfl := hw.symm))
    go_ret
    exact ⟨rfl, hid (Below.refl _ _)⟩
  · have HP := hid hp
    clear hb hp
    obtain ⟨m, hm⟩ : ∃ m, nm.length = m := ⟨_, rfl⟩
    have hsz : (bs nm).size = m := by rw [bs_size, hm]
    go_enter Tryz.func73, Tryz.ntmps73
    have hm9 : m ≤ 262144 := by rw [← hm]; simp at hl; omega
    go_wp2_with (first
      | (go_at_call 78
         (with_reducible refine (prefix_yes _ nm).mono ?_)
         rintro e w1 ⟨rfl, hw⟩
         obtain rfl := hw.symm))
    go_loopw [17] (fun i wr => ∃ k : Nat, k ≤ m ∧ i = .int .i64 (k : Int) ∧ wr = w ∧ Hid ((nm.drop k).all prB = false)) (fun i _ => m - (intOf i).toNat)
    case atStart => exact ⟨0, by omega, rfl, rfl, by simpa using HP⟩
    case round =>
      obtain ⟨k, hk, rfl, hw, HD⟩ := hrel
      obtain rfl := hw.symm
      by_cases hlt : k < m
      · have hi : (k : Int) < m := by omega
        obtain ⟨x, hx⟩ : ∃ x, nm[k]? = some x := ⟨_, List.getElem?_eq_getElem (by omega)⟩
        have hx1 : (bs nm)[k]? = some x := by rw [bs_at, hx]
        have hx2 : ∀ h : k < (bs nm).size, (bs nm)[k]'h = x := fun h => by
          rw [getElem?_pos (bs nm) k h] at hx1
          exact Option.some.inj hx1
        have hd : nm.drop k = x :: nm.drop (k + 1) := by
          obtain ⟨h1, h2⟩ := List.getElem?_eq_some_iff.1 hx
          rw [List.drop_eq_getElem_cons h1, h2]
        have HD2 := HD.out
        rw [hd, List.all_cons] at HD2
        obtain ⟨v, hv⟩ : ∃ z, Hid (prB x = z) := ⟨_, hid rfl⟩
        rw [hv.out] at HD2
        have hw7 : IntKind.i64.wrap ((k : Int) + 1) = (k : Int) + 1 := IntWalk.i64_in _ (by omega)
        clear hx hx1 hd HD
        cases v
        · clear HD2
          go_wp2_with (first
            | (go_at_call 88
               (with_reducible refine (visible_any _ hv).mono ?_)
               rintro e w1 ⟨rfl, hw⟩
               obtain rfl := hw.symm))
          go_ret
          exact ⟨rfl, hid (Below.refl _ _)⟩
        · have HD3 : Hid ((nm.drop (k + 1)).all prB = false) := hid (by simpa using HD2)
          clear HD2
          go_wp2_with (first
            | (go_at_call 88
               (with_reducible refine (visible_any _ hv).mono ?_)
               rintro e w1 ⟨rfl, hw⟩
               obtain rfl := hw.symm))
          go_roundw
          case rel => exact ⟨k + 1, by omega, by go_num, by trivial, HD3⟩
          case measure => simp [intOf] <;> omega
      · obtain rfl : k = m := by omega
        have := HD.out
        rw [List.drop_of_length_le (by omega)] at this
        simp at this
end
end L19
end Go.Proofs.YteeienmigoebmaaGreatDoor
namespace Go.Proofs.YteeienmigoebmaaGreatDoor
namespace L19
open Go.RowKit L18

/-! Layer 19, the program's side: a line is read. -/
def progX : List UInt8 := [112, 114, 111, 103]
theorem step_prog {s : List UInt8} {r : List (List UInt8)} (h : cutL 32 s = progX :: r) (acc : List ProgV) :
    (∃ nm, s.drop 4 = 32 :: nm ∧ nm.all prB = true ∧ stepP s acc = some (acc ++ [(nm, [])])) ∨ (((s.drop 4).head? ≠ some 32 ∨ ∃ nm, s.drop 4 = 32 :: nm ∧ nm.all prB = false) ∧ stepP s acc = none) := by
  obtain ⟨_, hs⟩ := cut_split 32 s progX r h
  rcases hs with ⟨rfl, rfl⟩ | ⟨_, y, rfl, hy⟩
  · right
    refine ⟨.inl (by simp [progX]), ?_⟩
    unfold stepP
    rw [if_neg (by decide), opOf_is h]
    have : kindOf progX = none := by decide
    rw [this]
    rfl
  · have e1 : (progX ++ 32 :: y).drop 4 = 32 :: y := by simp [progX]
    have e2 : (progX ++ 32 :: y).take 5 = progW := by simp [progX, progW]
    have e3 : (progX ++ 32 :: y).drop 5 = y := by simp [progX]
    unfold stepP
    rw [if_pos e2, e3, e1]
    by_cases hp : y.all prB = true
    · exact .inl ⟨y, rfl, hp, by rw [if_pos hp]⟩
    · exact .inr ⟨.inr ⟨y, rfl, by simpa using hp⟩, by rw [if_neg hp]⟩
theorem step_other {s x : List UInt8} {r : List (List UInt8)} (h : cutL 32 s = x :: r) (hx : x ≠ progX) (acc : List ProgV) : stepP s acc = match opOf s with
  | none => none
  | some o => if acc = [] then none else some (addO acc o) := by
  have hne : ¬ s.take 5 = progW := by
    intro e
    have e3 : s = progX ++ 32 :: s.drop 5 := by
      conv => lhs; rw [← List.take_append_drop 5 s, e]
      rfl
    rw [e3, cut_app _ (by decide)] at h
    injection h with h _
    exact hx h.symm
  unfold stepP
  rw [if_neg hne]
  rfl
section
variable {u0 w : World} {g n c bl : Nat} {A : Option Addr} {X : List PgX}
set_option maxRecDepth 100000 in
set_option maxHeartbeats 8000000 in
theorem take_prog_yes (H0 : Hid (TabX u0)) (HB : Hid (Below u0.heap.size u0 w)) (hS : Hid (RdS w g u0.heap.size A n c bl X)) (hn : n ≤ 262144) {s nm : List UInt8} {r : List (List UInt8)} (hl : s.length ≤ 262144) (hc : Hid (cutL 32 s = progX :: r)) (hd : Hid (s.drop 4 = 32 :: nm)) (hp : Hid (nm.all prB = true)) :
    Calls Tryz.prog 54 #[.pointer (some ⟨g, 0, none⟩), .string (bs s)] w fun e w' => e = .returned (.bool true) ∧ TookS u0 w' g (X ++ [((nm, []), none, 0)]) := by
  have Hw := TabX.below H0 HB.out
  obtain ⟨y, hy⟩ : ∃ z, Hid (joinL 32 r = z) := ⟨_, hid rfl⟩
  obtain ⟨bb, hb⟩ : ∃ z, Hid ((!r.isEmpty) = z) := ⟨_, hid rfl⟩
  have hnl : nm.length ≤ 262144 := by
    have := congrArg List.length hd.out
    rw [List.length_drop, List.length_cons] at this
    omega
  obtain ⟨m, hm⟩ : ∃ m, s.length = m := ⟨_, rfl⟩
  have hsz : (bs s).size = m := by rw [bs_size, hm]
  have hdr : (bs s).extract 4 m = bs (32 :: nm) := by rw [bs_drop s 4 hm, hd.out]
  have hm4 : (4 : Int) ≤ m := by
    have := congrArg List.length hd.out
    rw [List.length_drop, List.length_cons] at this
    omega
  have t1 : ((bs progX).toList == [112, 114, 111, 103]) = true := by rw [ByteArray.toList_eq]; rfl
  have hp4 : (bs progX).size = 4 := rfl
  go_enter Tryz.func54, Tryz.ntmps54
  go_wp2_with (first
    | (go_at_call 53
       (with_reducible refine (cut_any Hw hl hc hy hb).mono ?_)
       rintro e w1 ⟨rfl, C1⟩
       have S1 := rds_up hS C1.out
       have B1 := bel_3 HB C1)
    | (go_at_call 73
       (with_reducible refine (name_yes B1 S1 hn hnl hp).mono ?_)
       rintro e w2 ⟨rfl, T2⟩))
  go_ret
  exact ⟨rfl, T2⟩
set_option maxRecDepth 100000 in
set_option maxHeartbeats 8000000 in
theorem take_prog_no (H0 : Hid (TabX u0)) (HB : Hid (Below u0.heap.size u0 w)) {s : List UInt8} {r : List (List UInt8)} (hl : s.length ≤ 262144) (hc : Hid (cutL 32 s = progX :: r)) (hd : Hid ((s.drop 4).head? ≠ some 32 ∨ ∃ nm, s.drop 4 = 32 :: nm ∧ nm.all prB = false)) :
    Calls Tryz.prog 54 #[.pointer (some ⟨g, 0, none⟩), .string (bs s)] w fun e w' => e = .returned (.bool false) ∧ Hid (Below w.heap.size w w') := by
  have Hw := TabX.below H0 HB.out
  obtain ⟨y, hy⟩ : ∃ z, Hid (joinL 32 r = z) := ⟨_, hid rfl⟩
  obtain ⟨bb, hb⟩ : ∃ z, Hid ((!r.isEmpty) = z) := ⟨_, hid rfl⟩
  obtain ⟨m, hm⟩ : ∃ m, s.length = m := ⟨_, rfl⟩
  have hsz : (bs s).size = m := by rw [bs_size, hm]
  have hsl := (cut_split 32 s progX r hc.out).2
  have hm4n : 4 ≤ m := by
    rcases hsl with ⟨_, rfl⟩ | ⟨_, z, rfl, _⟩
    · rw [← hm]; simp [progX]
    · rw [← hm]; simp [progX]
  have hm4 : (4 : Int) ≤ m := by omega
  have hdr : (bs s).extract 4 m = bs (s.drop 4) := bs_drop s 4 hm
  have hdl : (s.drop 4).length ≤ 262144 := by rw [List.length_drop]; omega
  have t1 : ((bs progX).toList == [112, 114, 111, 103]) = true := by rw [ByteArray.toList_eq]; rfl
  have hp4 : (bs progX).size = 4 := rfl
  clear hsl
  go_enter Tryz.func54, Tryz.ntmps54
  go_wp2_with (first
    | (go_at_call 53
       (with_reducible refine (cut_any Hw hl hc hy hb).mono ?_)
       rintro e w1 ⟨rfl, C1⟩)
    | (go_at_call 73
       (with_reducible refine (name_no _ hdl hd).mono ?_)
       rintro e w2 ⟨rfl, C2⟩))
  go_ret
  exact ⟨rfl, bel_3 C1 C2⟩
theorem not_prog {x : List UInt8} (h : x ≠ progX) : ((bs x).toList == [112, 114, 111, 103]) = false := by
  have : ((bs x).toList == (bs progX).toList) = decide (x = progX) := str_eqb x progX
  rw [show (bs progX).toList = [112, 114, 111, 103] from by rw [ByteArray.toList_eq]; rfl] at this
  rw [this]
  simpa using h
set_option maxRecDepth 100000 in
set_option maxHeartbeats 8000000 in
theorem take_word_no (H0 : Hid (TabX u0)) (HB : Hid (Below u0.heap.size u0 w)) (hS : Hid (RdS w g u0.heap.size A n c bl X)) {s x : List UInt8} {r : List (List UInt8)} (hl : s.length ≤ 262144) (hc : Hid (cutL 32 s = x :: r)) (hx : Hid (x ≠ progX)) (hk : Hid (kindOf x = none)) :
    Calls Tryz.prog 54 #[.pointer (some ⟨g, 0, none⟩), .string (bs s)] w fun e w' => e = .returned (.bool false) ∧ Hid (Below w.heap.size w w') := by
  have Hw := TabX.below H0 HB.out
  obtain ⟨y, hy⟩ : ∃ z, Hid (joinL 32 r = z) := ⟨_, hid rfl⟩
  obtain ⟨bb, hb⟩ : ∃ z, Hid ((!r.isEmpty) = z) := ⟨_, hid rfl⟩
  obtain ⟨m, hm⟩ : ∃ m, s.length = m := ⟨_, rfl⟩
  have hsz : (bs s).size = m := by rw [bs_size, hm]
  have hsl := (cut_split 32 s x r hc.out).2
  obtain ⟨q, hq⟩ : ∃ q, x.length = q := ⟨_, rfl⟩
  have hqm : (q : Int) ≤ m := by
    rcases hsl with ⟨_, rfl⟩ | ⟨_, z, rfl, _⟩
    · omega
    · rw [← hm, ← hq]; simp; omega
  have hq0 : (0 : Int) ≤ q := by omega
  have hxs : (bs x).size = q := by rw [bs_size, hq]
  have t1 := not_prog hx.out
  have HS : Hid ((Tryz.prog.info? 61).map (·.size) = some zrow.size) := hid (row_sz 1)
  have HF := hid (fun W => named_no W hk.out)
  clear hsl
  go_enter Tryz.func54, Tryz.ntmps54
  go_wp2_with (first
    | (go_at_call 53
       (with_reducible refine (cut_any Hw hl hc hy hb).mono ?_)
       rintro e w1 ⟨rfl, C1⟩
       have S1 := rds_up hS C1.out
       have X1 := hid S1.out.box)
    | (refine ldM (by rfl) _ (by rfl) _ (by rfl) 103 _ X1 ?_)
    | (go_at_call 74
       (with_reducible refine (HF.out _).mono ?_)
       rintro e w2 ⟨rfl, C2⟩
       have X5 : Hid (Box (w2.alloc (.cells #[.int .i64 0, .string ⟨#[]⟩, .nilFunc, .nilFunc, .nilFunc, .nilFunc] 61)) w2.heap.size 61 zrow) := hid (Box.new w2 _ _)
       have K5 : Hid (Below w.heap.size w (w2.alloc (.cells #[.int .i64 0, .string ⟨#[]⟩, .nilFunc, .nilFunc, .nilFunc, .nilFunc] 61))) := hid ((bel_3 C1 C2).out.alloc (bel_3 C1 C2).out.size _))
    | (refine stG HS.out zrow_one (by rfl) _ _ (by rfl) _ (by rfl) (by rfl) 61 zrow X5 rfl ?_
       intro w8 X8 hw8
       have K8 := set_up K5 hw8 (bel_3 C1 C2).out.size))
  go_ret
  exact ⟨rfl, K8⟩
end
end L19
end Go.Proofs.YteeienmigoebmaaGreatDoor
namespace Go.Proofs.YteeienmigoebmaaGreatDoor
namespace L19
open Go.RowKit L18

/-! Layer 19, the program's side: an operation's line is read. -/
section
variable {u0 w : World} {g n c bl : Nat} {A : Option Addr} {X : List PgX}
set_option maxRecDepth 100000 in
set_option maxHeartbeats 8000000 in
theorem take_empty (H0 : Hid (TabX u0)) (HB : Hid (Below u0.heap.size u0 w)) (hS : Hid (RdS w g u0.heap.size A 0 c bl X)) {s x : List UInt8} {r : List (List UInt8)} (hl : s.length ≤ 262144) (hc : Hid (cutL 32 s = x :: r)) (hx : Hid (x ≠ progX)) {k : Nat} (hk : Hid (kindOf x = some k)) :
    Calls Tryz.prog 54 #[.pointer (some ⟨g, 0, none⟩), .string (bs s)] w fun e w' => e = .returned (.bool false) ∧ Hid (Below w.heap.size w w') := by
  have Hw := TabX.below H0 HB.out
  obtain ⟨y, hy⟩ : ∃ z, Hid (joinL 32 r = z) := ⟨_, hid rfl⟩
  obtain ⟨bb, hb⟩ : ∃ z, Hid ((!r.isEmpty) = z) := ⟨_, hid rfl⟩
  obtain ⟨m, hm⟩ : ∃ m, s.length = m := ⟨_, rfl⟩
  have hsz : (bs s).size = m := by rw [bs_size, hm]
  have hsl := (cut_split 32 s x r hc.out).2
  obtain ⟨q, hq⟩ : ∃ q, x.length = q := ⟨_, rfl⟩
  have hqm : (q : Int) ≤ m := by
    rcases hsl with ⟨_, rfl⟩ | ⟨_, z, rfl, _⟩
    · omega
    · rw [← hm, ← hq]; simp; omega
  have hq0 : (0 : Int) ≤ q := by omega
  have hxs : (bs x).size = q := by rw [bs_size, hq]
  have t1 := not_prog hx.out
  obtain ⟨R, hR⟩ : ∃ z, rowA k = z := ⟨_, rfl⟩
  obtain ⟨f1, hf1⟩ : ∃ z, rdN k = z := ⟨_, rfl⟩
  obtain ⟨AA, hA⟩ : ∃ z, arA k = z := ⟨_, rfl⟩
  have c0 := row_c0 k
  have c2 := row_c2 k
  have HS : Hid ((Tryz.prog.info? 61).map (·.size) = some (rowA k).size) := hid (row_sz k)
  have HO : Hid ((rowA k).all (·.oneCell') = true) := hid (row_one k)
  have HZ : Hid (zrow.size = (rowA k).size) := hid rfl
  rw [hR] at c0 c2 HS HO HZ
  rw [hf1, hA] at c2
  obtain ⟨_, hk1, hk2⟩ := kind_word hk.out
  have hcf := rd_call hk2 hf1
  have HF := hid (fun W => named_yes W hk.out hR)
  clear hsl
  go_enter Tryz.func54, Tryz.ntmps54
  go_wp2_with (first
    | (go_at_call 53
       (with_reducible refine (cut_any Hw hl hc hy hb).mono ?_)
       rintro e w1 ⟨rfl, C1⟩
       have S1 := rds_up hS C1.out
       have X1 := hid S1.out.box)
    | (refine ldM (by rfl) _ (by rfl) _ (by rfl) 103 _ X1 ?_)
    | (go_at_call 74
       (with_reducible refine (HF.out _).mono ?_)
       rintro e w2 ⟨rfl, C2⟩
       have X5 : Hid (Box (w2.alloc (.cells #[.int .i64 0, .string ⟨#[]⟩, .nilFunc, .nilFunc, .nilFunc, .nilFunc] 61)) w2.heap.size 61 zrow) := hid (Box.new w2 _ _)
       have K5 : Hid (Below w.heap.size w (w2.alloc (.cells #[.int .i64 0, .string ⟨#[]⟩, .nilFunc, .nilFunc, .nilFunc, .nilFunc] 61))) := hid ((bel_3 C1 C2).out.alloc (bel_3 C1 C2).out.size _))
    | (refine stG HS.out HO.out (by rfl) _ _ (by rfl) _ (by rfl) (by rfl) 61 zrow X5 HZ.out ?_
       intro w8 X8 hw8
       have K8 := set_up K5 hw8 (bel_3 C1 C2).out.size
       have S8 := rds_up hS K8.out
       have y96 := S8.out.cell
       have y2 : w8.cell? ⟨w2.heap.size, 2, none⟩ = some (.func (.func f1) AA #[]) := (X8.out.cell 2).trans c2
       have y0 : w8.cell? ⟨w2.heap.size, 0, none⟩ = some (.int .i64 (k : Int)) := (X8.out.cell 0).trans c0))
  go_ret
  exact ⟨rfl, K8⟩
set_option maxRecDepth 100000 in
set_option maxHeartbeats 8000000 in
theorem take_bad (H0 : Hid (TabX u0)) (HB : Hid (Below u0.heap.size u0 w)) (hS : Hid (RdS w g u0.heap.size A n c bl X)) (hn : 0 < n) {s x : List UInt8} {r : List (List UInt8)} (hl : s.length ≤ 262144) (hc : Hid (cutL 32 s = x :: r)) (hx : Hid (x ≠ progX)) {k : Nat} (hk : Hid (kindOf x = some k)) (ht : Hid (tailR (argN k) (s.drop x.length) = none)) :
    Calls Tryz.prog 54 #[.pointer (some ⟨g, 0, none⟩), .string (bs s)] w fun e w' => e = .returned (.bool false) ∧ Hid (Below w.heap.size w w') := by
  have Hw := TabX.below H0 HB.out
  obtain ⟨y, hy⟩ : ∃ z, Hid (joinL 32 r = z) := ⟨_, hid rfl⟩
  obtain ⟨bb, hb⟩ : ∃ z, Hid ((!r.isEmpty) = z) := ⟨_, hid rfl⟩
  obtain ⟨m, hm⟩ : ∃ m, s.length = m := ⟨_, rfl⟩
  have hsz : (bs s).size = m := by rw [bs_size, hm]
  have hsl := (cut_split 32 s x r hc.out).2
  obtain ⟨q, hq⟩ : ∃ q, x.length = q := ⟨_, rfl⟩
  have hqm : (q : Int) ≤ m := by
    rcases hsl with ⟨_, rfl⟩ | ⟨_, z, rfl, _⟩
    · omega
    · rw [← hm, ← hq]; simp; omega
  have hq0 : (0 : Int) ≤ q := by omega
  have hxs : (bs x).size = q := by rw [bs_size, hq]
  have t1 := not_prog hx.out
  obtain ⟨R, hR⟩ : ∃ z, rowA k = z := ⟨_, rfl⟩
  obtain ⟨f1, hf1⟩ : ∃ z, rdN k = z := ⟨_, rfl⟩
  obtain ⟨AA, hA⟩ : ∃ z, arA k = z := ⟨_, rfl⟩
  have c0 := row_c0 k
  have c2 := row_c2 k
  have HS : Hid ((Tryz.prog.info? 61).map (·.size) = some (rowA k).size) := hid (row_sz k)
  have HO : Hid ((rowA k).all (·.oneCell') = true) := hid (row_one k)
  have HZ : Hid (zrow.size = (rowA k).size) := hid rfl
  rw [hR] at c0 c2 HS HO HZ
  rw [hf1, hA] at c2
  obtain ⟨_, hk1, hk2⟩ := kind_word hk.out
  have hcf := rd_call hk2 hf1
  have HF := hid (fun W => named_yes W hk.out hR)
  have hn1 : ((n : Int) == 0) = false := by simp; omega
  have hdr : (bs s).extract q m = bs (s.drop x.length) := by rw [hq]; exact bs_drop s q hm
  have hdl : (s.drop x.length).length ≤ 262144 := by rw [List.length_drop]; omega
  have HP : Hid (∀ W, Hid (TabX W) → Calls Tryz.prog f1 (AA.push (.string (bs (s.drop x.length)))) W fun e w' => e = .returned (.tuple #[.agg #[.int .i64 0, .int .i64 0, .int .i64 0, .string ⟨#[]⟩], .bool false]) ∧ Hid (Below W.heap.size W w')) := hid (fun W HT => rd_any HT hk2 hdl ht hf1 hA)
  generalize s.drop x.length = bh at *
  clear hsl hR hf1 hA
  go_enter Tryz.func54, Tryz.ntmps54
  go_wp2_with (first
    | (go_at_call 53
       (with_reducible refine (cut_any Hw hl hc hy hb).mono ?_)
       rintro e w1 ⟨rfl, C1⟩
       have S1 := rds_up hS C1.out
       have X1 := hid S1.out.box)
    | (refine ldM (by rfl) _ (by rfl) _ (by rfl) 103 _ X1 ?_)
    | (go_at_call 74
       (with_reducible refine (HF.out _).mono ?_)
       rintro e w2 ⟨rfl, C2⟩
       have X5 : Hid (Box (w2.alloc (.cells #[.int .i64 0, .string ⟨#[]⟩, .nilFunc, .nilFunc, .nilFunc, .nilFunc] 61)) w2.heap.size 61 zrow) := hid (Box.new w2 _ _)
       have K5 : Hid (Below w.heap.size w (w2.alloc (.cells #[.int .i64 0, .string ⟨#[]⟩, .nilFunc, .nilFunc, .nilFunc, .nilFunc] 61))) := hid ((bel_3 C1 C2).out.alloc (bel_3 C1 C2).out.size _))
    | (refine stG HS.out HO.out (by rfl) _ _ (by rfl) _ (by rfl) (by rfl) 61 zrow X5 HZ.out ?_
       intro w8 X8 hw8
       have K8 := set_up K5 hw8 (bel_3 C1 C2).out.size
       have S8 := rds_up hS K8.out
       have y96 := S8.out.cell
       have y2 : w8.cell? ⟨w2.heap.size, 2, none⟩ = some (.func (.func f1) AA #[]) := (X8.out.cell 2).trans c2
       have y0 : w8.cell? ⟨w2.heap.size, 0, none⟩ = some (.int .i64 (k : Int)) := (X8.out.cell 0).trans c0)
    | ((with_reducible refine (HP.out w8 (TabX.below Hw K8.out)).mono ?_)
       rintro e w9 ⟨rfl, C9⟩))
  go_ret
  exact ⟨rfl, hid ((bel_3 K8 C9).out.alloc (bel_3 K8 C9).out.size _)⟩
end
end L19
end Go.Proofs.YteeienmigoebmaaGreatDoor
