import Derived.Test.YteeienmigoebmaaGreatDoorPRE
namespace Go.Proofs.YteeienmigoebmaaGreatDoor
namespace L19
open Go.RowKit L18

theorem own_set {w : World} {g i t : Nat} {cs : Array Value} {v : Value} {base e size n : Nat} {x : Value} {xs : List Value} (hx : Box w g t cs) (ht : e ≠ t) (h : w.ownsRow base e size x n xs) : (w.setCell ⟨g, i, none⟩ v).ownsRow base e size x n xs :=
  ((Kept.refl g [t] w).store hx (Nat.le_refl _) (by simp) v).own h (by simpa using ht)
set_option maxRecDepth 100000 in
set_option maxHeartbeats 8000000 in
theorem to_any (w : World) (A : Option Addr) (n c : Nat) (X : List PgX) (hl : Hid (PgM w w.heap.size A c X)) (hn : X.length = n) (hm : Hid (FitX X)) :
    Calls Tryz.prog 9 #[.slice A n c] w fun e w' => ∃ A2 c2 Y, e = .returned (.slice A2 n c2) ∧ Hid (prL Y = prL X) ∧ Hid (PgN w' w.heap.size 43 46 A2 n c2 Y) ∧ Hid (Below w.heap.size w w') := by
  have HN := hid hn
  have hn40 : n * 40 ≤ 140737488351232 := by rw [← hn]; exact hm.out.1
  go_enter Tryz.func9, Tryz.ntmps9
  go_wp2
  go_loopw [3, 11] (fun o i wr => ∃ (k : Nat) (A2 : Option Addr) (c2 : Nat) (Y : List PgX), k ≤ n ∧ i = .int .i64 k ∧ o = .slice A2 k c2 ∧ Hid (prL Y = prL (X.take k)) ∧ Hid (PgN wr w.heap.size 43 46 A2 k c2 Y) ∧ Hid (Below w.heap.size w wr)) (fun _ i _ => n - (intOf i).toNat)
  case atStart => exact ⟨0, none, 0, [], Nat.zero_le _, rfl, rfl, hid rfl, hid (PgN.nil _ _ _ _), hid (Below.refl _ _)⟩
  case round =>
    obtain ⟨k, A2, c2, Y, hk, rfl, rfl, HQ, HO, HB⟩ := hrel
    by_cases hlt : k < n
    · have HLw := pg_up hl HB.out
      obtain ⟨b, o, x, hA, hr, d0, d1, hS⟩ := HLw.out.at (k := k) (by rw [hn]; exact hlt)
      subst hA
      have HT := hid (take_at hr)
      have hx40 : x.1.2.length * 40 ≤ 140737488351232 := hm.out.2 x (List.mem_of_getElem? hr)
      obtain ⟨⟨nm, ops⟩, oA, oc⟩ := x
      simp only at d0 d1 hS hx40
      obtain ⟨q, hq⟩ : ∃ z, Hid (ops.length = z) := ⟨_, hid rfl⟩
      rw [hq.out] at d1 hx40
      have S0 := hid hS
      have hi : (k : Int) < n := by omega
      clear hS hr
      go_wp2
      have k1 : Hid (Below wr.heap.size wr (wr.alloc (.cells #[.string (bs nm), .slice oA q oc] 51))) := hid ((Below.refl _ wr).alloc (Nat.le_refl _) _)
      have hs1 : (wr.alloc (.cells #[.string (bs nm), .slice oA q oc] 51)).heap.size = wr.heap.size + 1 := World.size_alloc _ _
      have G6 := hid (Box.new (wr.alloc (.cells #[.string (bs nm), .slice oA q oc] 51)) 43 #[.string (bs nm), .slice none 0 0])
      generalize hu1 : wr.alloc (.cells #[.string (bs nm), .slice oA q oc] 51) = u1 at k1 hs1 G6 ⊢
      have O1 := hid (HO.out.up k1.out)
      have S1 := ops_up S0 k1.out
      have B1 := bel_t HB k1.out
      have hz1 := B1.out.size
      have b2 : Below u1.heap.size u1 (u1.alloc (.cells #[.string (bs nm), .slice none 0 0] 43)) := (Below.refl _ u1).alloc (Nat.le_refl _) _
      rw [← hs1]
      have R0 : Hid ((u1.alloc (.cells #[.string (bs nm), .slice none 0 0] 43)).ownsRow (u1.heap.size + 1) 46 4 (.slice none 0 0) 0 (opsC (ops.take 0))) := hid (World.ownsRow_nil _ _ _ _)
      have B2 := hid b2
      clear hu1 b2
      generalize u1.alloc (.cells #[.string (bs nm), .slice none 0 0] 43) = u2 at G6 R0 B2 ⊢
      have hkx : k + 1 ≤ maxLen := by unfold maxLen; omega
      have hz2 := B2.out.size
      clear HO HB k1 HLw S0 hs1 d0 d1
      generalize wr.heap.size = gx
      clear wr
      go_loopw [21] (fun i wq => ∃ (j cj : Nat) (Aj : Option Addr), j ≤ q ∧ i = .int .i64 j ∧ Hid (Below u1.heap.size u1 wq) ∧ Hid (Box wq u1.heap.size 43 #[.string (bs nm), .slice Aj j cj]) ∧ Hid (wq.ownsRow (u1.heap.size + 1) 46 4 (.slice Aj j cj) j (opsC (ops.take j)))) (fun i _ => q - (intOf i).toNat)
      case atStart => exact ⟨0, 0, none, Nat.zero_le _, rfl, B2, G6, R0⟩
      case round =>
        obtain ⟨j, cj, Aj, hj, rfl, HBj, HGj, HRj⟩ := hrel
        by_cases hjq : j < q
        · have hij : (j : Int) < q := by omega
          obtain ⟨b9, o9, y, hA9, hy, e0, e1, e2, e3⟩ := (ops_up S1 HBj.out).out.at (k := j) (by rw [hq.out]; exact hjq)
          subst hA9
          have HY := hid (take_at hy)
          obtain ⟨y1, y2, y3, y4⟩ := y
          simp only at e0 e1 e2 e3
          have bx : ∀ o, (wr.alloc o).cell? ⟨u1.heap.size, 1, none⟩ = some (.slice Aj j cj) := fun o => (box_below HGj.out ((Below.refl _ wr).alloc (Nat.le_refl _) o)).cell 1
          have b8 : Below wr.heap.size wr ((wr.alloc (.cells #[.int .i64 y1, .int .i64 y2, .int .i64 y3, .string (bs y4)] 53)).alloc (.cells #[.int .i64 y1, .int .i64 y2, .int .i64 y3, .string (bs y4)] 46)) := ((Below.refl _ wr).alloc (Nat.le_refl _) _).alloc (by simp) _
          have R8 := hid (own_keep HRj.out b8)
          have L8 := hid (lies_row (wr.alloc (.cells #[.int .i64 y1, .int .i64 y2, .int .i64 y3, .string (bs y4)] 53)) 46 (opsC [(y1, y2, y3, y4)]) #[.int .i64 y1, .int .i64 y2, .int .i64 y3, .string (bs y4)] (wr.heap.size + 1) (World.size_alloc _ _).symm rfl)
          have hz8 : u1.heap.size + 1 ≤ ((wr.alloc (.cells #[.int .i64 y1, .int .i64 y2, .int .i64 y3, .string (bs y4)] 53)).alloc (.cells #[.int .i64 y1, .int .i64 y2, .int .i64 y3, .string (bs y4)] 46)).heap.size := by
            have := HGj.out.lt
            have := b8.size
            omega
          have X8 := hid (box_below HGj.out b8)
          have hB8 := hid (HBj.out.trans (b8.mono HBj.out.size))
          have hjx : j + 1 ≤ maxLen := by unfold maxLen; omega
          have hsz8 := World.size_alloc wr (.cells #[.int .i64 y1, .int .i64 y2, .int .i64 y3, .string (bs y4)] 53)
          clear hy b8
          go_wp2_with (first
            | (at_builtin
               (refine app_row 41 46 4 40 _ Tryz.underlying41 infoGO rfl (by decide) _ (by rfl) (.tmp 26) (.tmp 28) rfl (u1.heap.size + 1) j 1 cj Aj (opsC (ops.take j)) (opsC [(y1, y2, y3, y4)]) rfl R8 hz8 (some ⟨wr.heap.size + 1, 0, none⟩) 1 rfl L8 rfl (opsC_one _) hjx (by omega) ?_)
               intro A9 c9 v9 R9 k9
               have X9 := hid (k9.out.box X8.out (by decide))
               have c9' : v9.cell? ⟨u1.heap.size, 1, none⟩ = some (.slice Aj j cj) := X9.out.cell 1
               have f9 : v9.frozen? ⟨u1.heap.size, 1, none⟩ = false := X9.out.frozen 1
               have B9 := hid (hB8.out.trans ((k9.out.below hz8).mono (Nat.le_succ _)))))
          go_roundw
          case rel =>
            refine ⟨j + 1, c9, A9, by omega, by go_num, hid (B9.out.setCell (p := ⟨u1.heap.size, 1, none⟩) (Nat.le_refl _) _), hid (X9.out.store 1 _), hid ?_⟩
            rw [HY.out, opsC_append]
            exact own_set X9.out (by decide) R9.out
          case measure => simp [intOf] <;> omega
        · have hij : ¬ (j : Int) < q := by omega
          have hjq' : j = q := by omega
          have e : ops.take j = ops := List.take_of_length_le (by have := hq.out; omega)
          rw [e] at HRj
          subst hjq'
          have c0 : wr.cell? ⟨u1.heap.size, 0, none⟩ = some (.string (bs nm)) := HGj.out.cell 0
          have c1 : wr.cell? ⟨u1.heap.size, 1, none⟩ = some (.slice Aj j cj) := HGj.out.cell 1
          have b3 : Below u1.heap.size u1 (wr.alloc (.cells #[.string (bs nm), .slice Aj j cj] 43)) := HBj.out.alloc HBj.out.size _
          have O3 := hid (O1.out.up b3)
          have R3 := hid O3.out.row
          have hz3 : w.heap.size ≤ (wr.alloc (.cells #[.string (bs nm), .slice Aj j cj] 43)).heap.size := Nat.le_trans hz1 b3.size
          have L3 := hid (lies_row wr 43 (pgsC [((nm, ops), Aj, cj)]) #[.string (bs nm), .slice Aj j cj] wr.heap.size rfl (by rw [← hq.out]; rfl))
          have t3 := own_keep (own_mono HRj.out (Nat.le_trans hz1 (Nat.le_succ _))) ((Below.refl wr.heap.size wr).alloc (Nat.le_refl _) (.cells #[.string (bs nm), .slice Aj j cj] 43))
          have T3 := hid (own_n hq.out t3)
          have B3 := bel_t B1 b3
          clear t3 b3
          go_wp2_with (first
            | (at_builtin
               (refine app_row 27 43 2 40 _ Tryz.underlying27 infoGP rfl (by decide) _ (by rfl) (.tmp 32) (.tmp 34) rfl w.heap.size k 1 c2 A2 (pgsC Y) (pgsC [((nm, ops), Aj, cj)]) rfl R3 hz3 (some ⟨wr.heap.size, 0, none⟩) 1 rfl L3 rfl (pgsC_one _) hkx (by omega) ?_)
               intro A6 c6 u6 o6 k6))
          have N6 := hid (pg_snoc (x := ((nm, ops), Aj, cj)) O3.out T3.out k6.out (by decide) o6.out)
          have B6 : Hid (Below w.heap.size w u6) := hid (B3.out.trans (k6.out.below hz3))
          have Q6 : Hid (prL (Y ++ [((nm, ops), Aj, cj)]) = prL (X.take (k + 1))) := hid (by rw [HT.out, prL_append, prL_append, HQ.out]; rfl)
          go_roundw
          case rel => exact ⟨k + 1, A6, c6, _, by omega, by go_num, rfl, Q6, N6, B6⟩
          case measure => simp [intOf] <;> omega
    · have hkn : k = n := by omega
      have e : X.take k = X := List.take_of_length_le (by have := HN.out; omega)
      rw [e] at HQ
      subst hkn
      go_wp2
      go_ret
      exact ⟨A2, c2, Y, rfl, HQ, HO, HB⟩
set_option maxRecDepth 100000 in
set_option maxHeartbeats 8000000 in
theorem from_any (w : World) (A : Option Addr) (n c : Nat) (X : List PgX) (hl : Hid (PgM w w.heap.size A c X)) (hn : X.length = n) (hm : Hid (FitX X)) :
    Calls Tryz.prog 13 #[.slice A n c] w fun e w' => ∃ A2 c2 Y, e = .returned (.slice A2 n c2) ∧ Hid (prL Y = prL X) ∧ Hid (PgN w' w.heap.size 52 53 A2 n c2 Y) ∧ Hid (Below w.heap.size w w') := by
  have HN := hid hn
  have hn40 : n * 40 ≤ 140737488351232 := by rw [← hn]; exact hm.out.1
  go_enter Tryz.func13, Tryz.ntmps13
  go_wp2
  go_loopw [3, 11] (fun o i wr => ∃ (k : Nat) (A2 : Option Addr) (c2 : Nat) (Y : List PgX), k ≤ n ∧ i = .int .i64 k ∧ o = .slice A2 k c2 ∧ Hid (prL Y = prL (X.take k)) ∧ Hid (PgN wr w.heap.size 52 53 A2 k c2 Y) ∧ Hid (Below w.heap.size w wr)) (fun _ i _ => n - (intOf i).toNat)
  case atStart => exact ⟨0, none, 0, [], Nat.zero_le _, rfl, rfl, hid rfl, hid (PgN.nil _ _ _ _), hid (Below.refl _ _)⟩
  case round =>
    obtain ⟨k, A2, c2, Y, hk, rfl, rfl, HQ, HO, HB⟩ := hrel
    by_cases hlt : k < n
    · have HLw := pg_up hl HB.out
      obtain ⟨b, o, x, hA, hr, d0, d1, hS⟩ := HLw.out.at (k := k) (by rw [hn]; exact hlt)
      subst hA
      have HT := hid (take_at hr)
      have hx40 : x.1.2.length * 40 ≤ 140737488351232 := hm.out.2 x (List.mem_of_getElem? hr)
      obtain ⟨⟨nm, ops⟩, oA, oc⟩ := x
      simp only at d0 d1 hS hx40
      obtain ⟨q, hq⟩ : ∃ z, Hid (ops.length = z) := ⟨_, hid rfl⟩
      rw [hq.out] at d1 hx40
      have S0 := hid hS
      have hi : (k : Int) < n := by omega
      clear hS hr
      go_wp2
      have k1 : Hid (Below wr.heap.size wr (wr.alloc (.cells #[.string (bs nm), .slice oA q oc] 43))) := hid ((Below.refl _ wr).alloc (Nat.le_refl _) _)
      have hs1 : (wr.alloc (.cells #[.string (bs nm), .slice oA q oc] 43)).heap.size = wr.heap.size + 1 := World.size_alloc _ _
      have G6 := hid (Box.new (wr.alloc (.cells #[.string (bs nm), .slice oA q oc] 43)) 52 #[.string (bs nm), .slice none 0 0])
      generalize hu1 : wr.alloc (.cells #[.string (bs nm), .slice oA q oc] 43) = u1 at k1 hs1 G6 ⊢
      have O1 := hid (HO.out.up k1.out)
      have S1 := ops_up S0 k1.out
      have B1 := bel_t HB k1.out
      have hz1 := B1.out.size
      have b2 : Below u1.heap.size u1 (u1.alloc (.cells #[.string (bs nm), .slice none 0 0] 52)) := (Below.refl _ u1).alloc (Nat.le_refl _) _
      rw [← hs1]
      have R0 : Hid ((u1.alloc (.cells #[.string (bs nm), .slice none 0 0] 52)).ownsRow (u1.heap.size + 1) 53 4 (.slice none 0 0) 0 (opsC (ops.take 0))) := hid (World.ownsRow_nil _ _ _ _)
      have B2 := hid b2
      clear hu1 b2
      generalize u1.alloc (.cells #[.string (bs nm), .slice none 0 0] 52) = u2 at G6 R0 B2 ⊢
      have hkx : k + 1 ≤ maxLen := by unfold maxLen; omega
      have hz2 := B2.out.size
      clear HO HB k1 HLw S0 hs1 d0 d1
      generalize wr.heap.size = gx
      clear wr
      go_loopw [21] (fun i wq => ∃ (j cj : Nat) (Aj : Option Addr), j ≤ q ∧ i = .int .i64 j ∧ Hid (Below u1.heap.size u1 wq) ∧ Hid (Box wq u1.heap.size 52 #[.string (bs nm), .slice Aj j cj]) ∧ Hid (wq.ownsRow (u1.heap.size + 1) 53 4 (.slice Aj j cj) j (opsC (ops.take j)))) (fun i _ => q - (intOf i).toNat)
      case atStart => exact ⟨0, 0, none, Nat.zero_le _, rfl, B2, G6, R0⟩
      case round =>
        obtain ⟨j, cj, Aj, hj, rfl, HBj, HGj, HRj⟩ := hrel
        by_cases hjq : j < q
        · have hij : (j : Int) < q := by omega
          obtain ⟨b9, o9, y, hA9, hy, e0, e1, e2, e3⟩ := (ops_up S1 HBj.out).out.at (k := j) (by rw [hq.out]; exact hjq)
          subst hA9
          have HY := hid (take_at hy)
          obtain ⟨y1, y2, y3, y4⟩ := y
          simp only at e0 e1 e2 e3
          have bx : ∀ o, (wr.alloc o).cell? ⟨u1.heap.size, 1, none⟩ = some (.slice Aj j cj) := fun o => (box_below HGj.out ((Below.refl _ wr).alloc (Nat.le_refl _) o)).cell 1
          have b8 : Below wr.heap.size wr ((wr.alloc (.cells #[.int .i64 y1, .int .i64 y2, .int .i64 y3, .string (bs y4)] 46)).alloc (.cells #[.int .i64 y1, .int .i64 y2, .int .i64 y3, .string (bs y4)] 53)) := ((Below.refl _ wr).alloc (Nat.le_refl _) _).alloc (by simp) _
          have R8 := hid (own_keep HRj.out b8)
          have L8 := hid (lies_row (wr.alloc (.cells #[.int .i64 y1, .int .i64 y2, .int .i64 y3, .string (bs y4)] 46)) 53 (opsC [(y1, y2, y3, y4)]) #[.int .i64 y1, .int .i64 y2, .int .i64 y3, .string (bs y4)] (wr.heap.size + 1) (World.size_alloc _ _).symm rfl)
          have hz8 : u1.heap.size + 1 ≤ ((wr.alloc (.cells #[.int .i64 y1, .int .i64 y2, .int .i64 y3, .string (bs y4)] 46)).alloc (.cells #[.int .i64 y1, .int .i64 y2, .int .i64 y3, .string (bs y4)] 53)).heap.size := by
            have := HGj.out.lt
            have := b8.size
            omega
          have X8 := hid (box_below HGj.out b8)
          have hB8 := hid (HBj.out.trans (b8.mono HBj.out.size))
          have hjx : j + 1 ≤ maxLen := by unfold maxLen; omega
          have hsz8 := World.size_alloc wr (.cells #[.int .i64 y1, .int .i64 y2, .int .i64 y3, .string (bs y4)] 46)
          clear hy b8
          go_wp2_with (first
            | (at_builtin
               (refine app_row 49 53 4 40 _ Tryz.underlying49 infoRO rfl (by decide) _ (by rfl) (.tmp 26) (.tmp 28) rfl (u1.heap.size + 1) j 1 cj Aj (opsC (ops.take j)) (opsC [(y1, y2, y3, y4)]) rfl R8 hz8 (some ⟨wr.heap.size + 1, 0, none⟩) 1 rfl L8 rfl (opsC_one _) hjx (by omega) ?_)
               intro A9 c9 v9 R9 k9
               have X9 := hid (k9.out.box X8.out (by decide))
               have c9' : v9.cell? ⟨u1.heap.size, 1, none⟩ = some (.slice Aj j cj) := X9.out.cell 1
               have f9 : v9.frozen? ⟨u1.heap.size, 1, none⟩ = false := X9.out.frozen 1
               have B9 := hid (hB8.out.trans ((k9.out.below hz8).mono (Nat.le_succ _)))))
          go_roundw
          case rel =>
            refine ⟨j + 1, c9, A9, by omega, by go_num, hid (B9.out.setCell (p := ⟨u1.heap.size, 1, none⟩) (Nat.le_refl _) _), hid (X9.out.store 1 _), hid ?_⟩
            rw [HY.out, opsC_append]
            exact own_set X9.out (by decide) R9.out
          case measure => simp [intOf] <;> omega
        · have hij : ¬ (j : Int) < q := by omega
          have hjq' : j = q := by omega
          have e : ops.take j = ops := List.take_of_length_le (by have := hq.out; omega)
          rw [e] at HRj
          subst hjq'
          have c0 : wr.cell? ⟨u1.heap.size, 0, none⟩ = some (.string (bs nm)) := HGj.out.cell 0
          have c1 : wr.cell? ⟨u1.heap.size, 1, none⟩ = some (.slice Aj j cj) := HGj.out.cell 1
          have b3 : Below u1.heap.size u1 (wr.alloc (.cells #[.string (bs nm), .slice Aj j cj] 52)) := HBj.out.alloc HBj.out.size _
          have O3 := hid (O1.out.up b3)
          have R3 := hid O3.out.row
          have hz3 : w.heap.size ≤ (wr.alloc (.cells #[.string (bs nm), .slice Aj j cj] 52)).heap.size := Nat.le_trans hz1 b3.size
          have L3 := hid (lies_row wr 52 (pgsC [((nm, ops), Aj, cj)]) #[.string (bs nm), .slice Aj j cj] wr.heap.size rfl (by rw [← hq.out]; rfl))
          have t3 := own_keep (own_mono HRj.out (Nat.le_trans hz1 (Nat.le_succ _))) ((Below.refl wr.heap.size wr).alloc (Nat.le_refl _) (.cells #[.string (bs nm), .slice Aj j cj] 52))
          have T3 := hid (own_n hq.out t3)
          have B3 := bel_t B1 b3
          clear t3 b3
          go_wp2_with (first
            | (at_builtin
               (refine app_row 24 52 2 40 _ Tryz.underlying24 infoRP rfl (by decide) _ (by rfl) (.tmp 32) (.tmp 34) rfl w.heap.size k 1 c2 A2 (pgsC Y) (pgsC [((nm, ops), Aj, cj)]) rfl R3 hz3 (some ⟨wr.heap.size, 0, none⟩) 1 rfl L3 rfl (pgsC_one _) hkx (by omega) ?_)
               intro A6 c6 u6 o6 k6))
          have N6 := hid (pg_snoc (x := ((nm, ops), Aj, cj)) O3.out T3.out k6.out (by decide) o6.out)
          have B6 : Hid (Below w.heap.size w u6) := hid (B3.out.trans (k6.out.below hz3))
          have Q6 : Hid (prL (Y ++ [((nm, ops), Aj, cj)]) = prL (X.take (k + 1))) := hid (by rw [HT.out, prL_append, prL_append, HQ.out]; rfl)
          go_roundw
          case rel => exact ⟨k + 1, A6, c6, _, by omega, by go_num, rfl, Q6, N6, B6⟩
          case measure => simp [intOf] <;> omega
    · have hkn : k = n := by omega
      have e : X.take k = X := List.take_of_length_le (by have := HN.out; omega)
      rw [e] at HQ
      subst hkn
      go_wp2
      go_ret
      exact ⟨A2, c2, Y, rfl, HQ, HO, HB⟩
end L19
end Go.Proofs.YteeienmigoebmaaGreatDoor
