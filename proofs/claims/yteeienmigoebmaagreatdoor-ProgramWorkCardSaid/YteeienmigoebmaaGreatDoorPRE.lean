import Derived.Test.YteeienmigoebmaaGreatDoorPRD
namespace Go.Proofs.YteeienmigoebmaaGreatDoor
namespace L19
open Go.RowKit L18

/-! Layer 19: the law's helpers: programs in other types. -/
theorem infoRP : (Tryz.prog.info? 52).map (fun i => (i.zero, i.size, i.bytes)) = some (some (.agg #[.string ⟨#[]⟩, .slice none 0 0]), 2, 40) := by kernel_rfl
theorem infoRO : (Tryz.prog.info? 53).map (fun i => (i.zero, i.size, i.bytes)) = some (some (.agg #[.int .i64 0, .int .i64 0, .int .i64 0, .string ⟨#[]⟩]), 4, 40) := by kernel_rfl
theorem infoGP : (Tryz.prog.info? 43).map (fun i => (i.zero, i.size, i.bytes)) = some (some (.agg #[.string ⟨#[]⟩, .slice none 0 0]), 2, 40) := by kernel_rfl
theorem infoGO : (Tryz.prog.info? 46).map (fun i => (i.zero, i.size, i.bytes)) = some (some (.agg #[.int .i64 0, .int .i64 0, .int .i64 0, .string ⟨#[]⟩]), 4, 40) := by kernel_rfl
theorem own_n {w : World} {base E size n n' c : Nat} {A : Option Addr} {xs : List Value} (e : n' = n) (h : w.ownsRow base E size (.slice A n c) n xs) : w.ownsRow base E size (.slice A n' c) n' xs := by
  subst e
  exact h
/-- No more than memory holds. -/
def FitX (X : List PgX) : Prop := X.length * 40 ≤ 140737488351232 ∧ ∀ x ∈ X, x.1.2.length * 40 ≤ 140737488351232
set_option maxRecDepth 100000 in
set_option maxHeartbeats 4000000 in
theorem ref_any (w : World) (A : Option Addr) (n c : Nat) (X : List PgX) (hl : Hid (PgM w w.heap.size A c X)) (hn : X.length = n) (hm : Hid (FitX X)) :
    Calls Tryz.prog 7 #[.slice A n c] w fun e w' => ∃ A2 c2 Y, e = .returned (.slice A2 n c2) ∧ Hid (prL Y = prL X) ∧ Hid (PgN w' w.heap.size 52 53 A2 n c2 Y) ∧ Hid (Below w.heap.size w w') := by
  have HN := hid hn
  have hn40 : n * 40 ≤ 140737488351232 := by rw [← hn]; exact hm.out.1
  go_enter Tryz.func7, Tryz.ntmps7
  go_wp2
  go_loopw [3, 8] (fun o i wr => ∃ (k : Nat) (A2 : Option Addr) (c2 : Nat) (Y : List PgX), k ≤ n ∧ i = .int .i64 k ∧ o = .slice A2 k c2 ∧ Hid (prL Y = prL (X.take k)) ∧ Hid (PgN wr w.heap.size 52 53 A2 k c2 Y) ∧ Hid (Below w.heap.size w wr)) (fun _ i _ => n - (intOf i).toNat)
  case atStart => exact ⟨0, none, 0, [], Nat.zero_le _, rfl, rfl, hid rfl, hid (PgN.nil _ _ _ _), hid (Below.refl _ _)⟩
  case round =>
    obtain ⟨k, A2, c2, Y, hk, rfl, rfl, HQ, HO, HB⟩ := hrel
    by_cases hlt : k < n
    · have HLw := pg_up hl HB.out
      obtain ⟨b, o, x, hA, hr, d0, d1, hS⟩ := HLw.out.at (k := k) (by rw [hn]; exact hlt)
      subst hA
      have HT := hid (take_at hr)
      have hne : some wr.heap.size ≠ (Value.slice A2 k c2).ownBlock := fun e => by have := (HO.out.row.lt _ e.symm).2; omega
      have hx40 : x.1.2.length * 40 ≤ 140737488351232 := hm.out.2 x (List.mem_of_getElem? hr)
      obtain ⟨⟨nm, ops⟩, oA, oc⟩ := x
      simp only at d0 d1 hS hx40
      obtain ⟨q, hq⟩ : ∃ z, Hid (ops.length = z) := ⟨_, hid rfl⟩
      rw [hq.out] at d1 hx40
      have S0 := hid hS
      have hi : (k : Int) < n := by omega
      clear hS hr
      go_wp2
      have G1 : Hid (Box (wr.alloc (.cells #[.string (bs nm), .slice oA q oc] 51)) wr.heap.size 51 #[.string (bs nm), .slice oA q oc]) := hid (Box.new wr 51 _)
      have k1 : Hid (Below wr.heap.size wr (wr.alloc (.cells #[.string (bs nm), .slice oA q oc] 51))) := hid ((Below.refl _ wr).alloc (Nat.le_refl _) _)
      generalize wr.alloc (.cells #[.string (bs nm), .slice oA q oc] 51) = u1 at G1 k1 ⊢
      have O1 := hid (HO.out.up k1.out)
      have S1 := ops_up S0 k1.out
      have B1 := bel_t HB k1.out
      have hz1 := B1.out.size
      have bz : ∀ W, Below u1.heap.size u1 W → W.cell? ⟨wr.heap.size, 0, none⟩ = some (.string (bs nm)) ∧ W.cell? ⟨wr.heap.size, 1, none⟩ = some (.slice oA q oc) := fun W h => ⟨(box_below G1.out h).cell 0, (box_below G1.out h).cell 1⟩
      have hq4 : (opsC ops).length = q * 4 := by rw [opsC_len, hq.out]
      have hmx : 0 + q ≤ maxLen := by unfold maxLen; omega
      have hkx : k + 1 ≤ maxLen := by unfold maxLen; omega
      go_region_held3 (fun u => u.cell? ⟨wr.heap.size, 0, none⟩ = some (.string (bs nm)) ∧ u.cell? ⟨wr.heap.size, 1, none⟩ = some (.slice oA q oc)) (first | exact S6 | exact bz _ (by repeat (first | exact Below.refl _ _ | exact b5 | with_reducible apply bel_d | with_reducible apply bel_a))) ((first
        | (refine step_row 49 53 4 40 _ Tryz.underlying49 infoRO rfl (by decide) (by rfl) (.tmp 15) (.tmp 17) rfl u1.heap.size 0 q 0 _ [] (opsC ops) rfl (hid (own_lit0 ?c1 (Nat.le_refl _))) ?c2 oA oc rfl (hid ((S1.out.lies.below ?c3).more ?c4)) hq4 (opsC_one _) hmx (by omega) ?_
           case c1 => first | exact box_n rfl | exact box_d (box_n rfl)
           case c2 => exact Below.size (by repeat (first | exact Below.refl _ _ | with_reducible apply bel_d | with_reducible apply bel_a))
           case c3 => repeat (first | exact Below.refl _ _ | with_reducible apply bel_d | with_reducible apply bel_a)
           case c4 => exact Below.size (by repeat (first | exact Below.refl _ _ | with_reducible apply bel_d | with_reducible apply bel_a))
           intro A5 c5 u5 o5' k5 g5
           have o5 : Hid (u5.ownsRow u1.heap.size 53 4 (.slice A5 q c5) q (opsC ops)) := by simpa using o5'
           clear o5'
           have b5 : Below u1.heap.size u1 u5 := by
             refine Below.trans ?_ (k5.out.below ?_)
             · repeat (first | exact Below.refl _ _ | with_reducible apply bel_d | with_reducible apply bel_a)
             · exact Below.size (by repeat (first | exact Below.refl _ _ | with_reducible apply bel_d | with_reducible apply bel_a)))
        | (refine step_row 24 52 2 40 _ Tryz.underlying24 infoRP rfl (by decide) (by rfl) (.tmp 12) (.tmp 20) rfl w.heap.size k 1 c2 A2 (pgsC Y) (pgsC [((nm, ops), A5, c5)]) rfl (hid (own_keep O1.out.row ?d1)) ?d2 _ 1 rfl (hid (lies_row u5 52 (pgsC [((nm, ops), A5, c5)]) #[.string (bs nm), .slice A5 q c5] _ (by first | rfl | simp) (by rw [← hq.out]; rfl))) rfl (pgsC_one _) hkx (by omega) ?_
           case d1 => repeat (first | exact Below.refl _ _ | exact b5 | with_reducible apply bel_d | with_reducible apply bel_a)
           case d2 => exact Nat.le_trans hz1 (Below.size (by repeat (first | exact Below.refl _ _ | exact b5 | with_reducible apply bel_d | with_reducible apply bel_a)))
           intro A6 c6 u6 o6 k6 g6
           have b6 : Below u1.heap.size u1 (u5.alloc (.cells #[.string (bs nm), .slice A5 q c5] 52)) := by repeat (first | exact Below.refl _ _ | exact b5 | with_reducible apply bel_d | with_reducible apply bel_a)
           have S6 : u6.cell? ⟨wr.heap.size, 0, none⟩ = some (.string (bs nm)) ∧ u6.cell? ⟨wr.heap.size, 1, none⟩ = some (.slice oA q oc) := ⟨g6.out.cell (bz _ b6).1 hne, g6.out.cell (bz _ b6).2 hne⟩)))
      all_goals
        have t5 := own_keep (own_mono o5.out hz1) ((Below.refl u5.heap.size u5).alloc (Nat.le_refl _) (.cells #[.string (bs nm), .slice A5 q c5] 52))
        have N6 := hid (pg_snoc (x := ((nm, ops), A5, c5)) (O1.out.up b6) (own_n hq.out t5) k6.out (by decide) o6.out)
        have B6 : Hid (Below w.heap.size w u6) := hid ((bel_t B1 b6).out.trans (k6.out.below (Nat.le_trans hz1 b6.size)))
        have Q6 : Hid (prL (Y ++ [((nm, ops), A5, c5)]) = prL (X.take (k + 1))) := hid (by rw [HT.out, prL_append, prL_append, HQ.out]; rfl)
        clear bz o6 k6 b6 t5 o5 g6 S6 g5 k5
        go_wp2
        go_roundw
        case rel => exact ⟨k + 1, A6, c6, _, by omega, by go_num, rfl, Q6, N6, B6⟩
        case measure => simp [intOf] <;> omega
    · have hkn : k = n := by omega
      have e : X.take k = X := List.take_of_length_le (by have := HN.out; omega)
      rw [e] at HQ
      subst hkn
      go_wp2
      go_ret
      exact ⟨A2, c2, Y, rfl, HQ, HO, HB⟩
end L19
end Go.Proofs.YteeienmigoebmaaGreatDoor
