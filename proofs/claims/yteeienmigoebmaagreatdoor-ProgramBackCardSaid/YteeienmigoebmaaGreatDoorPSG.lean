import Derived.Test.YteeienmigoebmaaGreatDoorPSF
namespace Go.Proofs.YteeienmigoebmaaGreatDoor
namespace L19
open Go.RowKit L18

/-! Layer 19: the document's Print. -/
def printP (l : List ProgV) : List UInt8 × Int := if checkP l ≠ 0 then ([], checkP l) else (printT l, 0)
theorem print_take {l : List ProgV} {k : Nat} {p : ProgV} (h : l[k]? = some p) : printT (l.take (k + 1)) = printT (l.take k) ++ ended ((progW ++ p.1) :: p.2.map opLine) := by
  rw [take_at h]
  unfold printT
  rw [← ended_append]
  congr 1
  simp [linesP]
theorem ended_snoc (a : List (List UInt8)) (x : List UInt8) : ended (a ++ [x]) = ended a ++ (x ++ [10]) := by simp [ended]
theorem word_len {k : Nat} (h1 : 1 ≤ k) (h2 : k ≤ 16) : (word k).length ≤ 7 := by
  rcases kinds h1 h2 with rfl | rfl | rfl | rfl | rfl | rfl | rfl | rfl | rfl | rfl | rfl | rfl | rfl | rfl | rfl | rfl <;> decide
theorem right_text {o : OpV} {i all : Int} (h : rightO o i all = true) : o.2.2.2.length ≤ 1024 := by
  obtain ⟨ka, kb, kc⟩ := right_kind h
  obtain ⟨y1, a, b, t⟩ := o
  simp only at ka kb kc ⊢
  obtain ⟨k, rfl⟩ : ∃ z : Nat, y1 = (z : Int) := ⟨y1.toNat, kc.symm⟩
  rw [Int.toNat_natCast] at ka kb
  rw [right_split ka (by omega) rfl, Bool.and_eq_true] at h
  obtain ⟨h1, h2⟩ := h
  by_cases h9 : argN k = 9
  · have h23 : k = 2 ∨ k = 3 := by
      rcases kinds ka (by omega) with rfl | rfl | rfl | rfl | rfl | rfl | rfl | rfl | rfl | rfl | rfl | rfl | rfl | rfl | rfl | rfl <;> first | (left; rfl) | (right; rfl) | exact absurd h9 (by decide)
    rcases h23 with rfl | rfl <;> simpa [kindB] using h2
  · unfold badO at h1
    have he : t.isEmpty = true := by
      cases hq : t.isEmpty
      · rw [hq] at h1
        simp [h9] at h1
      · rfl
    rw [List.isEmpty_iff] at he
    subst he
    simp
section
variable {w : World}
set_option maxRecDepth 100000 in
set_option maxHeartbeats 8000000 in
theorem rprint_any {A : Option Addr} {n c : Nat} {X : List PgX} (hl : Hid (PgM w w.heap.size A c X)) (hn : Hid (X.length = n)) {s : List UInt8} {e0 : Int} (he : Hid (printP (prL X) = (s, e0))) :
    Calls Tryz.prog 11 #[.slice A n c] w fun e w' => e = .returned (.tuple #[.string (bs s), .int .i64 e0]) ∧ Hid (Below w.heap.size w w') := by
  obtain ⟨ck, hck⟩ : ∃ z, Hid (checkP (prL X) = z) := ⟨_, hid rfl⟩
  go_enter Tryz.func11, Tryz.ntmps11
  by_cases h0 : ¬ ck = 0
  · have h5 : [] = s ∧ ck = e0 := by
      have := he.out
      unfold printP at this
      rw [hck.out, if_pos h0] at this
      injection this with h1 h2
      exact ⟨h1, h2⟩
    obtain ⟨rfl, rfl⟩ := h5
    go_wp2_with (first
      | (go_at_call 22
         (with_reducible refine (checkr_any _ A n c X hl hn.out hck).mono ?_)
         rintro e w1 ⟨rfl, B1⟩))
    go_ret2
    exact ⟨rfl, B1⟩
  have h1 : ck = 0 := by simpa using h0
  subst h1
  clear h0
  have h5 : printT (prL X) = s ∧ 0 = e0 := by
    have := he.out
    unfold printP at this
    rw [hck.out, if_neg (by simp)] at this
    injection this with h1 h2
    exact ⟨h1, h2⟩
  obtain ⟨hs, rfl⟩ := h5
  have HS := hid hs
  have hn32 : n ≤ 32 := by
    have := (check_scan hck.out).2.1
    rw [prL_len, hn.out] at this
    exact this
  clear he hs
  go_wp2_with (first
      | (go_at_call 22
         (with_reducible refine (checkr_any _ A n c X hl hn.out hck).mono ?_)
         rintro e w1 ⟨rfl, B1⟩
         have L1 := pg_up hl B1.out))
  go_loopw [5, 17] (fun x y wr => ∃ (k : Nat) (r : List UInt8), y = .int .i64 k ∧ k ≤ n ∧ x = .string (bs r) ∧ r.length ≤ k * 1000000 ∧ Hid (printT ((prL X).take k) = r) ∧ Hid (Below w1.heap.size w1 wr)) (fun _ y _ => n - (intOf y).toNat)
  case atStart => exact ⟨0, [], rfl, Nat.zero_le _, rfl, by simp, hid rfl, hid (Below.refl _ _)⟩
  case round =>
    obtain ⟨k, r, rfl, hk, rfl, hr, HR, HB⟩ := hrel
    have hw7 : IntKind.i64.wrap ((k : Int) + 1) = (k : Int) + 1 := IntWalk.i64_in _ (by omega)
    by_cases hlt : k < n
    · have hi : (k : Int) < n := by omega
      obtain ⟨b, o, x, hA, hx, c0, c1, hS⟩ := (pg_up L1 HB.out).out.at (k := k) (by rw [hn.out]; exact hlt)
      subst hA
      have hxk : (prL X)[k]? = some x.1 := by simp [prL, hx]
      have hch := check_at hck.out hxk
      have HT := hid (print_take hxk)
      obtain ⟨⟨nm, ops⟩, oA, oc⟩ := x
      simp only at c0 c1 hS HT hch
      obtain ⟨q, hq⟩ : ∃ z, Hid (ops.length = z) := ⟨_, hid rfl⟩
      rw [hq.out] at c1
      have S0 := hid hS
      have hq64 : q ≤ 64 := by rw [← hq.out]; exact hch.2.1
      have HRO : Hid (∀ o ∈ ops, rightO o k (prL X).length = true) := hid hch.2.2
      have hnl : nm.length ≤ 64 := by
        have := hch.1
        unfold namedB at this
        simp at this
        omega
      clear hch hS hx hxk
      have k1 : ∀ ob, Below wr.heap.size wr (wr.alloc ob) := fun ob => (Below.refl _ wr).alloc (Nat.le_refl _) ob
      obtain ⟨x1, hx1⟩ : ∃ z, progW ++ nm = z := ⟨_, rfl⟩
      obtain ⟨x2, hx2⟩ : ∃ z, x1 ++ [10] = z := ⟨_, rfl⟩
      obtain ⟨r1, hr1⟩ : ∃ z, r ++ x2 = z := ⟨_, rfl⟩
      have l1 : x1.length = 5 + nm.length := by rw [← hx1, List.length_append]; rfl
      have l2 : x2.length = x1.length + 1 := by rw [← hx2, List.length_append]; rfl
      have l3 : r1.length = r.length + x2.length := by rw [← hr1, List.length_append]
      have s1 : ¬ 9223372036854775807 < (⟨#[112, 114, 111, 103, 32]⟩ : ByteArray).size + (bs nm).size := cat_ok (a := progW) (b := nm) (by simp [progW]; omega)
      have e1 : (⟨#[112, 114, 111, 103, 32]⟩ : ByteArray) ++ bs nm = bs x1 := by rw [← hx1]; exact (bs_app progW nm).symm
      have s2 : ¬ 9223372036854775807 < (bs x1).size + (⟨#[10]⟩ : ByteArray).size := cat_ok (a := x1) (b := [10]) (by simp; omega)
      have e2 : bs x1 ++ (⟨#[10]⟩ : ByteArray) = bs x2 := by rw [← hx2]; exact (bs_app x1 [10]).symm
      have s3 : ¬ 9223372036854775807 < (bs r).size + (bs x2).size := cat_ok (a := r) (b := x2) (by omega)
      have e3 : bs r ++ bs x2 = bs r1 := by rw [← hr1]; exact (bs_app _ _).symm
      have HR1 : Hid (r1 = r ++ (progW ++ nm ++ [10])) := hid (by rw [← hr1, ← hx2, ← hx1])
      have hr1b : r1.length ≤ k * 1000000 + 100 := by omega
      clear l1 l2 l3 hx1 hx2 hr1
      go_upto_region 9 with fail
      have S1 := ops_up S0 (k1 (.cells #[.string (bs nm), .slice oA q oc] 52))
      have B2 := bel_t HB (k1 (.cells #[.string (bs nm), .slice oA q oc] 52))
      have G1 := hid (Box.new wr 52 #[.string (bs nm), .slice oA q oc])
      generalize wr.alloc (.cells #[.string (bs nm), .slice oA q oc] 52) = u1 at S1 B2 G1 ⊢
      have d0 := G1.out.cell 0
      have d1 := G1.out.cell 1
      generalize wr.heap.size = g1 at G1 d0 d1 ⊢
      clear k1 c0 c1 S0 HB s1 s2 s3 e1 e2 e3
      clear wr
      go_wp2
      go_loopw [5, 30] (fun x y wq => ∃ (j : Nat) (r2 : List UInt8), y = .int .i64 j ∧ j ≤ q ∧ x = .string (bs r2) ∧ r2.length ≤ k * 1000000 + 100 + j * 10000 ∧ Hid (r2 = r1 ++ ended ((ops.take j).map opLine)) ∧ Hid (Below u1.heap.size u1 wq)) (fun _ y _ => q - (intOf y).toNat)
      case atStart => exact ⟨0, r1, rfl, Nat.zero_le _, rfl, by omega, hid (by simp [ended]), hid (Below.refl _ _)⟩
      case round =>
        obtain ⟨j, r2, rfl, hj, rfl, hl2, HR2, HBj⟩ := hrel
        have hw8 : IntKind.i64.wrap ((j : Int) + 1) = (j : Int) + 1 := IntWalk.i64_in _ (by omega)
        by_cases hjq : j < q
        · have hij : (j : Int) < q := by omega
          obtain ⟨b9, o9, y, hA9, hy, f0, f1, f2, f3⟩ := (ops_up S1 HBj.out).out.at (k := j) (by rw [hq.out]; exact hjq)
          subst hA9
          have HY := hid (take_at hy)
          have hry := HRO.out y (List.mem_of_getElem? hy)
          clear hy
          obtain ⟨y1, y2, y3, t⟩ := y
          simp only at f0 f1 f2 f3
          obtain ⟨ka, kb, kc⟩ := right_kind hry
          obtain ⟨a1, a2, a3, a4⟩ := right_a hry (by rw [prL_len, hn.out]; omega) (by omega)
          have ht := right_text hry
          simp only at ka kb kc a1 a2 a3 a4 ht
          obtain ⟨kk, rfl⟩ : ∃ z : Nat, y1 = (z : Int) := ⟨y1.toNat, kc.symm⟩
          obtain ⟨a, rfl⟩ : ∃ z : Nat, y2 = (z : Int) := ⟨y2.toNat, by omega⟩
          obtain ⟨bb, rfl⟩ : ∃ z : Nat, y3 = (z : Int) := ⟨y3.toNat, by omega⟩
          rw [Int.toNat_natCast] at ka kb
          have ha6 : a ≤ 999999 := by omega
          have hb6 : bb ≤ 999999 := by omega
          clear kc a1 a2 a3 a4 hry
          have hk16 : kk ≤ 16 := by omega
          obtain ⟨wd, hwd⟩ : ∃ z, Hid (word kk = z) := ⟨_, hid rfl⟩
          have hwl : wd.length ≤ 7 := by rw [← hwd.out]; exact word_len ka hk16
          obtain ⟨N, hN⟩ : ∃ z, Hid (argN kk = z) := ⟨_, hid rfl⟩
          have hN4 : N = 0 ∨ N = 1 ∨ N = 2 ∨ N = 9 := by rw [← hN.out]; exact arg_four ka hk16
          have hixw : ∀ W, (Instr.index 75 (.agg wordsV) (.int .i64 kk)).run Tryz.prog W = .ok (.string (bs wd)) W := by rw [← hwd.out]; exact index_words ka hk16
          have hixa : ∀ W, (Instr.index 77 (.agg argsV) (.int .i64 kk)).run Tryz.prog W = .ok (.int .i64 N) W := by rw [← hN.out]; exact index_args ka hk16
          have HOL : Hid (opLine ((kk : Int), (a : Int), (bb : Int), t) = wd ++ (if N = 1 then 32 :: digits a else if N = 2 then 32 :: (digits a ++ 32 :: digits bb) else if N = 9 then 32 :: escaped t else [])) := hid (by
            unfold opLine
            simp only [Int.toNat_natCast]
            rw [hwd.out, hN.out])
          obtain ⟨r3, hr3⟩ : ∃ z, r2 ++ wd = z := ⟨_, rfl⟩
          have l3 : r3.length = r2.length + wd.length := by rw [← hr3, List.length_append]
          have s3 : ¬ 9223372036854775807 < (bs r2).size + (bs wd).size := cat_ok (a := r2) (b := wd) (by omega)
          have e3 : bs r2 ++ bs wd = bs r3 := by rw [← hr3]; exact (bs_app _ _).symm
          go_upto_region 12 with fail
          have K2 : Below wr.heap.size wr (wr.alloc (.cells #[.int .i64 kk, .int .i64 a, .int .i64 bb, .string (bs t)] 53)) := (Below.refl _ wr).alloc (Nat.le_refl _) _
          have G2 := hid (Box.new wr 53 #[.int .i64 kk, .int .i64 a, .int .i64 bb, .string (bs t)])
          have B3 := bel_t HBj K2
          generalize wr.alloc (.cells #[.int .i64 kk, .int .i64 a, .int .i64 bb, .string (bs t)] 53) = u2 at G2 B3 ⊢
          generalize wr.heap.size = g2 at G2 ⊢
          clear K2 f0 f1 f2 f3 HBj
          have f0 : u2.cell? ⟨g2, 0, none⟩ = some (.int .i64 kk) := G2.out.cell 0
          go_cut [5] (fun z wx => z = .string (bs r3) ∧ Hid (Below u2.heap.size u2 wx))
          case first =>
            go_region_held3 (fun W => W.cell? ⟨g2, 0, none⟩ = some (.int .i64 kk)) (first | exact x1 | (simp; exact f0) | exact f0) ((first
              | (go_at_call 23
                 (with_reducible refine (wordsr_any _).mono ?_)
                 rintro e w5 ⟨rfl, C1⟩
                 have E1 : Below u2.heap.size u2 w5 := Below.trans ((Below.refl _ u2).drew) C1.out
                 have x1 : w5.cell? ⟨g2, 0, none⟩ = some (.int .i64 kk) := (box_below G2.out E1).cell 0)))
            all_goals
              go_wp2_with fail
              go_meet
              exact ⟨rfl, hid E1⟩
          case rest =>
          obtain ⟨rfl, E1⟩ := hcut
          have G3 : Hid (Box wc g2 53 #[.int .i64 kk, .int .i64 a, .int .i64 bb, .string (bs t)]) := hid (box_below G2.out E1.out)
          have B4 := bel_t B3 E1.out
          clear s3 e3 E1 f0 G2 hixw B3
          generalize wc = u3 at G3 B4 ⊢
          have f0 : u3.cell? ⟨g2, 0, none⟩ = some (.int .i64 kk) := G3.out.cell 0
          go_upto_region 13 with fail
          go_cut [43] (fun z wx => z = .int .i64 N ∧ Hid (Below u3.heap.size u3 wx))
          case first =>
            go_region_held3 (fun W => W.cell? ⟨g2, 0, none⟩ = some (.int .i64 kk)) (first | exact x1 | (simp; exact f0) | exact f0) ((first
              | (go_at_call 24
                 (with_reducible refine (argsr_any _).mono ?_)
                 rintro e w5 ⟨rfl, C1⟩
                 have E1 : Below u3.heap.size u3 w5 := Below.trans ((Below.refl _ u3).drew) C1.out
                 have x1 : w5.cell? ⟨g2, 0, none⟩ = some (.int .i64 kk) := (box_below G3.out E1).cell 0)))
            all_goals
              go_wp2_with fail
              go_meet
              exact ⟨rfl, hid E1⟩
          case rest =>
          obtain ⟨rfl, E1⟩ := hcut
          have G4 : Hid (Box wc g2 53 #[.int .i64 kk, .int .i64 a, .int .i64 bb, .string (bs t)]) := hid (box_below G3.out E1.out)
          have B5 := bel_t B4 E1.out
          clear E1 f0 G3 hixa B4
          generalize wc = u4 at G4 B5 ⊢
          have f1 : u4.cell? ⟨g2, 1, none⟩ = some (.int .i64 a) := G4.out.cell 1
          have f2 : u4.cell? ⟨g2, 2, none⟩ = some (.int .i64 bb) := G4.out.cell 2
          have f3 : u4.cell? ⟨g2, 3, none⟩ = some (.string (bs t)) := G4.out.cell 3
          obtain ⟨da, hda⟩ : ∃ z, Hid (digits a = z) := ⟨_, hid rfl⟩
          obtain ⟨db, hdb⟩ : ∃ z, Hid (digits bb = z) := ⟨_, hid rfl⟩
          obtain ⟨et, het⟩ : ∃ z, Hid (escaped t = z) := ⟨_, hid rfl⟩
          have lda : da.length ≤ 6 := by rw [← hda.out]; exact digits_len 5 a (by omega)
          have ldb : db.length ≤ 6 := by rw [← hdb.out]; exact digits_len 5 bb (by omega)
          have let_ : et.length ≤ 3072 := by rw [← het.out]; have := esc_all t; omega
          rw [hda.out, hdb.out, het.out] at HOL
          have hwN := hN.out
          clear hN hwd
          rcases hN4 with rfl | rfl | rfl | rfl
          · obtain ⟨x5, hx5⟩ : ∃ z : List UInt8, [] = z := ⟨_, rfl⟩
            have HO5 : opLine ((kk : Int), (a : Int), (bb : Int), t) = wd ++ x5 := by rw [HOL.out, ← hx5]; simp
            have lx : x5.length = 0 := by rw [← hx5]; rfl
            obtain ⟨r4, hr4⟩ : ∃ z, r3 ++ x5 = z := ⟨_, rfl⟩
            obtain ⟨r5, hr5⟩ : ∃ z, r4 ++ [10] = z := ⟨_, rfl⟩
            have l4 : r4.length = r3.length + x5.length := by rw [← hr4, List.length_append]
            have l5 : r5.length = r4.length + 1 := by rw [← hr5, List.length_append]; rfl
            have s4 : ¬ 9223372036854775807 < (bs r3).size + (bs x5).size := cat_ok (a := r3) (b := x5) (by omega)
            have e4 : bs r3 ++ bs x5 = bs r4 := by rw [← hr4]; exact (bs_app _ _).symm
            have s5 : ¬ 9223372036854775807 < (bs r4).size + (⟨#[10]⟩ : ByteArray).size := cat_ok (a := r4) (b := [10]) (by simp; omega)
            have e5 : bs r4 ++ (⟨#[10]⟩ : ByteArray) = bs r5 := by rw [← hr5]; exact (bs_app r4 [10]).symm
            have HL : Hid (r5 = r1 ++ ended ((ops.take (j + 1)).map opLine)) := hid (by
              rw [HY.out, List.map_append, List.map_cons, List.map_nil, ended_snoc, ← List.append_assoc, ← HR2.out, HO5, ← hr5, ← hr4, ← hr3]
              simp [List.append_assoc])
            have hb5 : r5.length ≤ k * 1000000 + 100 + (j + 1) * 10000 := by omega
            have h34 : r3 = r4 := by rw [← hr4, ← hx5]; simp
            clear hr3 hr4 hr5 HO5 HOL hx5 l3 l4 l5
            subst h34
            clear s4 e4
            go_wp2
            go_roundw
            case rel => exact ⟨j + 1, r5, by go_num, by omega, rfl, hb5, HL, B5⟩
            case measure => simp [intOf] <;> omega
          · obtain ⟨x5, hx5⟩ : ∃ z, 32 :: da = z := ⟨_, rfl⟩
            have HO5 : opLine ((kk : Int), (a : Int), (bb : Int), t) = wd ++ x5 := by rw [HOL.out, ← hx5]; simp
            have lx : x5.length = 1 + da.length := by rw [← hx5, List.length_cons]; omega
            obtain ⟨r4, hr4⟩ : ∃ z, r3 ++ x5 = z := ⟨_, rfl⟩
            obtain ⟨r5, hr5⟩ : ∃ z, r4 ++ [10] = z := ⟨_, rfl⟩
            have l4 : r4.length = r3.length + x5.length := by rw [← hr4, List.length_append]
            have l5 : r5.length = r4.length + 1 := by rw [← hr5, List.length_append]; rfl
            have s4 : ¬ 9223372036854775807 < (bs r3).size + (bs x5).size := cat_ok (a := r3) (b := x5) (by omega)
            have e4 : bs r3 ++ bs x5 = bs r4 := by rw [← hr4]; exact (bs_app _ _).symm
            have s5 : ¬ 9223372036854775807 < (bs r4).size + (⟨#[10]⟩ : ByteArray).size := cat_ok (a := r4) (b := [10]) (by simp; omega)
            have e5 : bs r4 ++ (⟨#[10]⟩ : ByteArray) = bs r5 := by rw [← hr5]; exact (bs_app r4 [10]).symm
            have HL : Hid (r5 = r1 ++ ended ((ops.take (j + 1)).map opLine)) := hid (by
              rw [HY.out, List.map_append, List.map_cons, List.map_nil, ended_snoc, ← List.append_assoc, ← HR2.out, HO5, ← hr5, ← hr4, ← hr3]
              simp [List.append_assoc])
            have hb5 : r5.length ≤ k * 1000000 + 100 + (j + 1) * 10000 := by omega
            have s6 : ¬ 9223372036854775807 < (⟨#[32]⟩ : ByteArray).size + (bs da).size := cat_ok (a := [32]) (b := da) (by simp; omega)
            have e6 : (⟨#[32]⟩ : ByteArray) ++ bs da = bs x5 := by rw [← hx5]; exact (bs_app [32] da).symm
            clear hr3 hr4 hr5 HO5 HOL hx5 l3 l4 l5
            go_wp2_with (first
              | (go_at_call 25
                 (with_reducible refine (digitsr_any _ ha6 hda).mono ?_)
                 rintro e w6 ⟨rfl, C6⟩
                 have B6 := bel_t B5 C6.out))
            go_roundw
            case rel => exact ⟨j + 1, r5, by go_num, by omega, rfl, hb5, HL, B6⟩
            case measure => simp [intOf] <;> omega
          · obtain ⟨y1, hy1⟩ : ∃ z, 32 :: da = z := ⟨_, rfl⟩
            obtain ⟨y2, hy2⟩ : ∃ z, y1 ++ [32] = z := ⟨_, rfl⟩
            obtain ⟨x5, hx5⟩ : ∃ z, y2 ++ db = z := ⟨_, rfl⟩
            have HO5 : opLine ((kk : Int), (a : Int), (bb : Int), t) = wd ++ x5 := by rw [HOL.out, ← hx5, ← hy2, ← hy1]; simp
            have ly1 : y1.length = 1 + da.length := by rw [← hy1, List.length_cons]; omega
            have ly2 : y2.length = y1.length + 1 := by rw [← hy2, List.length_append]; rfl
            have lx : x5.length = y2.length + db.length := by rw [← hx5, List.length_append]
            obtain ⟨r4, hr4⟩ : ∃ z, r3 ++ x5 = z := ⟨_, rfl⟩
            obtain ⟨r5, hr5⟩ : ∃ z, r4 ++ [10] = z := ⟨_, rfl⟩
            have l4 : r4.length = r3.length + x5.length := by rw [← hr4, List.length_append]
            have l5 : r5.length = r4.length + 1 := by rw [← hr5, List.length_append]; rfl
            have s4 : ¬ 9223372036854775807 < (bs r3).size + (bs x5).size := cat_ok (a := r3) (b := x5) (by omega)
            have e4 : bs r3 ++ bs x5 = bs r4 := by rw [← hr4]; exact (bs_app _ _).symm
            have s5 : ¬ 9223372036854775807 < (bs r4).size + (⟨#[10]⟩ : ByteArray).size := cat_ok (a := r4) (b := [10]) (by simp; omega)
            have e5 : bs r4 ++ (⟨#[10]⟩ : ByteArray) = bs r5 := by rw [← hr5]; exact (bs_app r4 [10]).symm
            have HL : Hid (r5 = r1 ++ ended ((ops.take (j + 1)).map opLine)) := hid (by
              rw [HY.out, List.map_append, List.map_cons, List.map_nil, ended_snoc, ← List.append_assoc, ← HR2.out, HO5, ← hr5, ← hr4, ← hr3]
              simp [List.append_assoc])
            have hb5 : r5.length ≤ k * 1000000 + 100 + (j + 1) * 10000 := by omega
            have s6 : ¬ 9223372036854775807 < (⟨#[32]⟩ : ByteArray).size + (bs da).size := cat_ok (a := [32]) (b := da) (by simp; omega)
            have e6 : (⟨#[32]⟩ : ByteArray) ++ bs da = bs y1 := by rw [← hy1]; exact (bs_app [32] da).symm
            have s7 : ¬ 9223372036854775807 < (bs y1).size + (⟨#[32]⟩ : ByteArray).size := cat_ok (a := y1) (b := [32]) (by simp; omega)
            have e7 : bs y1 ++ (⟨#[32]⟩ : ByteArray) = bs y2 := by rw [← hy2]; exact (bs_app y1 [32]).symm
            have s8 : ¬ 9223372036854775807 < (bs y2).size + (bs db).size := cat_ok (a := y2) (b := db) (by omega)
            have e8 : bs y2 ++ bs db = bs x5 := by rw [← hx5]; exact (bs_app y2 db).symm
            clear hr3 hr4 hr5 HO5 HOL hx5 l3 l4 l5 hy1 hy2 ly1 ly2 lx
            have s6b : ¬ 9223372036854775807 < 1 + (bs da).size := s6
            have s7b : ¬ 9223372036854775807 < (bs y1).size + 1 := s7
            have bz : ∀ W, Below u4.heap.size u4 W → W.cell? ⟨g2, 1, none⟩ = some (.int .i64 a) ∧ W.cell? ⟨g2, 2, none⟩ = some (.int .i64 bb) := fun W h => ⟨(box_below G4.out h).cell 1, (box_below G4.out h).cell 2⟩
            go_upto_region 17 with fail
            go_region_held3 (fun W => W.cell? ⟨g2, 1, none⟩ = some (.int .i64 a) ∧ W.cell? ⟨g2, 2, none⟩ = some (.int .i64 bb)) (exact bz _ (by repeat (first | exact Below.refl _ _ | exact z7 | exact z6 | with_reducible apply bel_d))) ((first
              | (go_at_call 25
                 (first
                  | ((with_reducible refine (digitsr_any _ ha6 hda).mono ?_)
                     rintro e w6 ⟨rfl, C6⟩
                     have z6 : Below u4.heap.size u4 w6 := (by repeat (first | exact Below.refl _ _ | exact z7 | with_reducible apply bel_d) : Below u4.heap.size u4 _).trans (C6.out.mono (Below.size (by repeat (first | exact Below.refl _ _ | exact z7 | with_reducible apply bel_d))))
                     have B6 := bel_t B5 z6)
                  | ((with_reducible refine (digitsr_any _ hb6 hdb).mono ?_)
                     rintro e w7 ⟨rfl, C7⟩
                     have z7 : Below u4.heap.size u4 w7 := (by repeat (first | exact Below.refl _ _ | exact z6 | with_reducible apply bel_d) : Below u4.heap.size u4 _).trans (C7.out.mono (Below.size (by repeat (first | exact Below.refl _ _ | exact z6 | with_reducible apply bel_d))))
                     have B7 := bel_t B5 z7)))))
            all_goals
              go_wp2
              go_roundw
              case rel => first | exact ⟨j + 1, r5, by go_num, by omega, rfl, hb5, HL, B7⟩ | exact ⟨j + 1, r5, by go_num, by omega, rfl, hb5, HL, B6⟩
              case measure => simp [intOf] <;> omega
          · obtain ⟨x5, hx5⟩ : ∃ z, 32 :: et = z := ⟨_, rfl⟩
            have HO5 : opLine ((kk : Int), (a : Int), (bb : Int), t) = wd ++ x5 := by rw [HOL.out, ← hx5]; simp
            have lx : x5.length = 1 + et.length := by rw [← hx5, List.length_cons]; omega
            obtain ⟨r4, hr4⟩ : ∃ z, r3 ++ x5 = z := ⟨_, rfl⟩
            obtain ⟨r5, hr5⟩ : ∃ z, r4 ++ [10] = z := ⟨_, rfl⟩
            have l4 : r4.length = r3.length + x5.length := by rw [← hr4, List.length_append]
            have l5 : r5.length = r4.length + 1 := by rw [← hr5, List.length_append]; rfl
            have s4 : ¬ 9223372036854775807 < (bs r3).size + (bs x5).size := cat_ok (a := r3) (b := x5) (by omega)
            have e4 : bs r3 ++ bs x5 = bs r4 := by rw [← hr4]; exact (bs_app _ _).symm
            have s5 : ¬ 9223372036854775807 < (bs r4).size + (⟨#[10]⟩ : ByteArray).size := cat_ok (a := r4) (b := [10]) (by simp; omega)
            have e5 : bs r4 ++ (⟨#[10]⟩ : ByteArray) = bs r5 := by rw [← hr5]; exact (bs_app r4 [10]).symm
            have HL : Hid (r5 = r1 ++ ended ((ops.take (j + 1)).map opLine)) := hid (by
              rw [HY.out, List.map_append, List.map_cons, List.map_nil, ended_snoc, ← List.append_assoc, ← HR2.out, HO5, ← hr5, ← hr4, ← hr3]
              simp [List.append_assoc])
            have hb5 : r5.length ≤ k * 1000000 + 100 + (j + 1) * 10000 := by omega
            have s6 : ¬ 9223372036854775807 < (⟨#[32]⟩ : ByteArray).size + (bs et).size := cat_ok (a := [32]) (b := et) (by simp; omega)
            have e6 : (⟨#[32]⟩ : ByteArray) ++ bs et = bs x5 := by rw [← hx5]; exact (bs_app [32] et).symm
            have ht6 : t.length ≤ 1000000 := by omega
            clear hr3 hr4 hr5 HO5 HOL hx5 l3 l4 l5
            go_wp2_with (first
              | (go_at_call 26
                 (with_reducible refine (escr_any _ ht6 het).mono ?_)
                 rintro e w6 ⟨rfl, C6⟩
                 have B6 := bel_t B5 C6.out))
            go_roundw
            case rel => exact ⟨j + 1, r5, by go_num, by omega, rfl, hb5, HL, B6⟩
            case measure => simp [intOf] <;> omega
        · have hij : ¬ (j : Int) < q := by omega
          have e : ops.take j = ops := List.take_of_length_le (by rw [hq.out]; omega)
          have HR3 : Hid (printT ((prL X).take (k + 1)) = r2) := hid (by
            rw [HT.out, HR.out, HR2.out, HR1.out, e]
            simp [ended, List.append_assoc])
          have hb2 : r2.length ≤ (k + 1) * 1000000 := by omega
          clear e HR2 HT HR HR1
          go_wp2
          go_roundw
          case rel => exact ⟨k + 1, r2, by go_num, by omega, rfl, hb2, HR3, bel_t B2 HBj.out⟩
          case measure => simp [intOf] <;> omega
    · have hi : ¬ (k : Int) < n := by omega
      have e : (prL X).take k = prL X := List.take_of_length_le (by rw [prL_len, hn.out]; omega)
      rw [e, HS.out] at HR
      have hrs := HR.out
      subst hrs
      clear e HR
      go_wp2
      go_ret2
      exact ⟨rfl, bel_t B1 HB.out⟩
end
end L19
end Go.Proofs.YteeienmigoebmaaGreatDoor
