import Derived.Test.YthaecflakefklaaFLE
import Derived.Deep.LoopGhost
namespace Go.Proofs.Ythaecflakefklaa
open Go.RowKit

/-! Layer 15: FlowTyped, the walk. -/
theorem typed_facts {t : Tm} {s h a b tc : Bool} {c : UInt8} (e : typedF t s h c = ((a, b), tc)) :
    b = h ∧ ((hasN t.f 38 = false ∧ a = s ∧ tc = false) ∨ (hasN t.f 38 = true ∧ (isC t 8 c || isC t 9 c) = true ∧ tc = true) ∨
      (hasN t.f 38 = true ∧ (isC t 8 c || isC t 9 c) = false ∧ hasN t.f 39 = true ∧ a = false ∧ tc = false) ∨ (hasN t.f 38 = true ∧ (isC t 8 c || isC t 9 c) = false ∧ hasN t.f 39 = false ∧ a = s ∧ tc = false)) := by
  unfold typedF at e
  cases h38 : hasN t.f 38 <;> cases h8 : isC t 8 c <;> cases h9 : isC t 9 c <;> cases h39 : hasN t.f 39 <;> simp [h38, h8, h9, h39] at e ⊢ <;> obtain ⟨⟨rfl, rfl⟩, rfl⟩ := e <;> simp
theorem is_b (w : World) (t : Tm) (ht : t.Ok) (op : Int) (x : UInt8) {b : Bool} (hb : Hid (isC t op x = b)) : Calls Try.prog 15 #[.agg t.cs, .int .i64 op, .int .u8 (x.toNat : Int)] w fun e w' => e = .returned (.bool b) ∧ Hid (Below w.heap.size w w') := by
  rw [← hb.out]
  exact is_any w t ht op x
theorem two_st {u : World} {g : Nat} {T : TypeId} {a b x y : Bool} (h : Hid (Box u g T #[.bool a, .bool b])) : Hid (Box ((u.setCell ⟨g, 0, none⟩ (.bool x)).setCell ⟨g, 1, none⟩ (.bool y)) g T #[.bool x, .bool y]) := hid (by simpa using (h.out.store 0 (.bool x)).store 1 (.bool y))
theorem bel_two {w u : World} {g : Nat} {x y : Value} (h : Hid (Below w.heap.size w u)) (hg : w.heap.size ≤ g) : Hid (Below w.heap.size w ((u.setCell ⟨g, 0, none⟩ x).setCell ⟨g, 1, none⟩ y)) :=
  hid ((h.out.trans ((Turn.setCell u g 0 x).below (by omega))).trans ((Turn.setCell (u.setCell ⟨g, 0, none⟩ x) g 1 y).below (by omega)))
theorem box_two {u : World} {g k : Nat} {x y : Value} {T : TypeId} {cs : Array Value} (h : Hid (Box u k T cs)) (hg : k ≠ g) : Hid (Box ((u.setCell ⟨g, 0, none⟩ x).setCell ⟨g, 1, none⟩ y) k T cs) :=
  hid ((Turn.setCell (u.setCell ⟨g, 0, none⟩ x) g 1 y).box ((Turn.setCell u g 0 x).box h.out hg) hg)
set_option maxRecDepth 100000 in
set_option maxHeartbeats 8000000 in
theorem ftyped_walk (w : World) (t : Tm) (ht : t.Ok) (s h : Bool) (A : Option Addr) (c n : Nat) (bs : List UInt8) (hb : Hid (SlB w w.heap.size A c bs)) (hn : Hid (bs.length = n)) :
    Calls Try.prog 4 #[.agg t.cs, .agg #[.bool s, .bool h], .slice A n c] w fun e w' => e = .returned (.bool true) ∧ Hid (Below w.heap.size w w') := by
  have hs := cs_size ht.len
  have B0 : Hid (Below w.heap.size w ((w.alloc (.cells t.cs 26)).alloc (.cells #[.bool s, .bool h] 28))) := hid (((Below.refl _ w).alloc (Nat.le_refl _) _).alloc (by simp) _)
  have G0 : Hid (Box ((w.alloc (.cells t.cs 26)).alloc (.cells #[.bool s, .bool h] 28)) w.heap.size 26 t.cs) := hid (box_al (box_nw rfl))
  have F0 : Hid (Box ((w.alloc (.cells t.cs 26)).alloc (.cells #[.bool s, .bool h] 28)) (w.heap.size + 1) 28 #[.bool s, .bool h]) := hid (by
    have := Box.new (w.alloc (.cells t.cs 26)) 28 #[.bool s, .bool h]
    rwa [World.size_alloc] at this)
  by_cases h1 : 1000 < n
  · have k1 : (1000 : Int) < (n : Int) := by omega
    go_enter Try.func4, Try.ntmps4
    go_wp2_with (first
      | (refine bx26 (by rfl) _ (by rfl) _ (by rfl) hs ?_
         intro _)
      | (go_at_call 7
         (with_reducible refine (alive_any _).mono ?_)
         rintro e v1 ⟨rfl, k1⟩
         have B1 := bel_t B0 k1.out))
    go_ret
    exact ⟨rfl, B1⟩
  have k1 : ¬ (1000 : Int) < (n : Int) := by omega
  go_enter Try.func4, Try.ntmps4
  go_upto_region 5 with (first
      | (refine bx26 (by rfl) _ (by rfl) _ (by rfl) hs ?_
         intro _)
      | (go_at_call 7
         (with_reducible refine (alive_any _).mono ?_)
         rintro e v1 ⟨rfl, k1⟩
         have B1 := bel_t B0 k1.out
         have G1 := boxA G0 k1.out
         have f0 : v1.cell? ⟨w.heap.size + 1, 0, none⟩ = some (.bool s) := by simpa using (boxA F0 k1.out).out.cell 0
         have f1 : v1.cell? ⟨w.heap.size + 1, 1, none⟩ = some (.bool h) := by simpa using (boxA F0 k1.out).out.cell 1
         clear k1))
  go_cut [7] (fun a wx => ∃ gx, a = .pointer (some ⟨gx, 0, none⟩) ∧ w.heap.size < gx ∧ Hid (Box wx gx 32 #[.bool s, .bool h]) ∧ Hid (Box wx w.heap.size 26 t.cs) ∧ Hid (Below w.heap.size w wx))
  case first =>
    go_wp2_with fail
    go_meet
    exact ⟨_, rfl, Nat.lt_of_lt_of_le (by have := G1.out.lt; omega) (Nat.le_refl _), bx_new v1 _ _, boxA G1 (bel_new1 v1 _), bel_t B1 (bel_new1 v1 _)⟩
  case rest =>
  obtain ⟨gx, rfl, hgx, X2, G2, B2⟩ := hcut
  obtain ⟨v2, hv2⟩ : ∃ v2, v2 = wc := ⟨_, rfl⟩
  subst hv2
  clear f0 f1 B1 G1 F0 G0 B0
  go_wp2_with fail
  go_loopg [21] n (fun gk i wr => ∃ (k : Nat) (a : Bool), k + gk = n ∧ i = .int .i64 k ∧ Hid (Box wr gx 32 #[.bool a, .bool h]) ∧ Hid (Box wr w.heap.size 26 t.cs) ∧ Hid (Below w.heap.size w wr))
  case atStart => exact ⟨0, s, by omega, rfl, X2, G2, B2⟩
  case round =>
    obtain ⟨k, a, hk, rfl, X3, G3, B3⟩ := hrel
    have hL := slb_at hb B3
    by_cases hlt : k < n
    · obtain ⟨b0, o0, y, hA, hy, cy⟩ := slb_cell hL.out hn.out hlt
      subst hA
      obtain ⟨⟨⟨ta, tb⟩, tc⟩, e1⟩ : ∃ z, Hid (typedF t a h y = z) := ⟨_, hid rfl⟩
      obtain ⟨hth, hF⟩ := typed_facts e1.out
      subst hth
      have HF := hid hF
      clear hF
      obtain ⟨sp, hsp⟩ : ∃ sp, Hid ((isC t 8 y || isC t 9 y) = sp) := ⟨_, hid rfl⟩
      obtain ⟨i8, h8⟩ : ∃ b, Hid (isC t 8 y = b) := ⟨_, hid rfl⟩
      obtain ⟨i9, h9⟩ : ∃ b, Hid (isC t 9 y = b) := ⟨_, hid rfl⟩
      have hkn : (k : Int) < (n : Int) := by omega
      have x0 : World.cell? wr ⟨gx, 0, none⟩ = some (.bool a) := by simpa using X3.out.cell 0
      have x1 : World.cell? wr ⟨gx, 1, none⟩ = some (.bool tb) := by simpa using X3.out.cell 1
      go_upto_region 9 with fail
      go_cut [9, 10, 11] (fun q1 q2 q3 wx => ∃ gy, q1 = .int .u8 (y.toNat : Int) ∧ q2 = .pointer (some ⟨gy, 0, none⟩) ∧ q3 = .bool tc ∧ Hid (Box wx gy 32 #[.bool ta, .bool tb]) ∧ Hid (Below wr.heap.size wr wx))
      case first =>
        go_wp2_with (first
          | (refine ld26 (by rfl) _ (by rfl) _ (by rfl) t.cs G3.out hs ?_)
          | (go_at_call 8
             (with_reducible refine (typedp_any _ t ht a tb y e1).mono ?_)
             rintro e vx ⟨rfl, kx⟩))
        go_meet
        exact ⟨_, rfl, rfl, rfl, bx_new vx _ _, bel_t kx (bel_new1 vx _)⟩
      case rest =>
      obtain ⟨gy, rfl, rfl, rfl, Y4, k4⟩ := hcut
      obtain ⟨v4, hv4⟩ : ∃ v4, v4 = wc := ⟨_, rfl⟩
      subst hv4
      have X4 := boxA X3 k4.out
      have G4 := boxA G3 k4.out
      have B4 := bel_t B3 k4.out
      clear k4 X3 G3 B3 x0 x1 cy hb hL hy
      go_upto_region 10 with fail
      go_cut [12] (fun q1 wx => q1 = .bool sp ∧ Hid (Below v4.heap.size v4 wx))
      case first =>
        cases i8
        · cases i9
          · obtain rfl : false = sp := by rw [← hsp.out, h8.out, h9.out]; rfl
            go_wp2_with (first
              | (refine ld26 (by rfl) _ (by rfl) _ (by rfl) t.cs G4.out hs ?_)
              | (refine ld26 (by rfl) _ (by rfl) _ (by rfl) t.cs G4'.out hs ?_)
              | (go_at_call 15
                 (first
                   | ((with_reducible refine (is_b _ t ht 8 y h8).mono ?_)
                      rintro e vx ⟨rfl, kx⟩
                      have G4' := boxA G4 kx.out
                      clear G4)
                   | ((with_reducible refine (is_b _ t ht 9 y h9).mono ?_)
                      rintro e vy ⟨rfl, ky⟩
                      have kz := bel_t kx ky.out))))
            go_meet
            exact ⟨rfl, kz⟩
          · obtain rfl : true = sp := by rw [← hsp.out, h8.out, h9.out]; rfl
            go_wp2_with (first
              | (refine ld26 (by rfl) _ (by rfl) _ (by rfl) t.cs G4.out hs ?_)
              | (refine ld26 (by rfl) _ (by rfl) _ (by rfl) t.cs G4'.out hs ?_)
              | (go_at_call 15
                 (first
                   | ((with_reducible refine (is_b _ t ht 8 y h8).mono ?_)
                      rintro e vx ⟨rfl, kx⟩
                      have G4' := boxA G4 kx.out
                      clear G4)
                   | ((with_reducible refine (is_b _ t ht 9 y h9).mono ?_)
                      rintro e vy ⟨rfl, ky⟩
                      have kz := bel_t kx ky.out))))
            go_meet
            exact ⟨rfl, kz⟩
        · obtain rfl : true = sp := by rw [← hsp.out, h8.out]; rfl
          go_wp2_with (first
            | (refine ld26 (by rfl) _ (by rfl) _ (by rfl) t.cs G4.out hs ?_)
            | (go_at_call 15
               (with_reducible refine (is_b _ t ht 8 y h8).mono ?_)
               rintro e vx ⟨rfl, kx⟩))
          go_meet
          exact ⟨rfl, kx⟩
      case rest =>
      obtain ⟨rfl, k5⟩ := hcut
      obtain ⟨v5, hv5⟩ : ∃ v5, v5 = wc := ⟨_, rfl⟩
      subst hv5
      have X5 := boxA X4 k5.out
      have Y5 := boxA Y4 k5.out
      have G5 := boxA G4 k5.out
      have B5 := bel_t B4 k5.out
      clear k5 X4 Y4 G4 B4 h8 h9 i8 i9
      obtain ⟨o38, h38⟩ : ∃ b, Hid (hasN t.f 38 = b) := ⟨_, hid rfl⟩
      obtain ⟨o39, h39⟩ : ∃ b, Hid (hasN t.f 39 = b) := ⟨_, hid rfl⟩
      have HF2 : Hid ((o38 = false ∧ ta = a ∧ tc = false) ∨ (o38 = true ∧ sp = true ∧ tc = true) ∨ (o38 = true ∧ sp = false ∧ o39 = true ∧ ta = false ∧ tc = false) ∨ (o38 = true ∧ sp = false ∧ o39 = false ∧ ta = a ∧ tc = false)) := hid (by
        have := HF.out
        rwa [h38.out, h39.out, hsp.out] at this)
      clear HF hsp e1
      have y0 : World.cell? v5 ⟨gy, 0, none⟩ = some (.bool ta) := by simpa using Y5.out.cell 0
      have y1 : World.cell? v5 ⟨gy, 1, none⟩ = some (.bool tb) := by simpa using Y5.out.cell 1
      have x0 : World.cell? v5 ⟨gx, 0, none⟩ = some (.bool a) := by simpa using X5.out.cell 0
      have x1 : World.cell? v5 ⟨gx, 1, none⟩ = some (.bool tb) := by simpa using X5.out.cell 1
      have hbb : (tb != tb) = false := by cases tb <;> rfl
      go_upto_region 11 with fail
      go_cut [90] (fun q1 wx => q1 = .bool false ∧ Hid (Below v5.heap.size v5 wx))
      case first =>
        have K5 : Hid (Below v5.heap.size v5 v5) := hid (Below.refl _ _)
        have HF3 := HF2.out
        clear HF2
        rcases HF3 with ⟨rfl, rfl, rfl⟩ | ⟨rfl, rfl, rfl⟩ | ⟨rfl, rfl, rfl, rfl, rfl⟩ | ⟨rfl, rfl, rfl, rfl, rfl⟩
        · cases sp <;> cases o39 <;> cases ta
          all_goals
            go_wp2_with (first
              | (refine ld26 (by rfl) _ (by rfl) _ (by rfl) t.cs G5.out hs ?_)
              | (go_at_call 16
                 (first
                   | (with_reducible refine (has_b _ ht h38.out).mono ?_)
                   | (with_reducible refine (has_b _ ht h39.out).mono ?_))
                 rintro e vx ⟨rfl, kx⟩
                 have G5 := boxA G5 kx.out
                 have X5 := boxA X5 kx.out
                 have Y5 := boxA Y5 kx.out
                 have K5 := bel_t K5 kx.out
                 have y0 := Y5.out.cell 0
                 have y1 := Y5.out.cell 1
                 have x0 := X5.out.cell 0
                 have x1 := X5.out.cell 1
                 clear kx))
            go_meet
            exact ⟨rfl, K5⟩
        · cases a <;> cases ta
          all_goals
            go_wp2_with (first
              | (refine ld26 (by rfl) _ (by rfl) _ (by rfl) t.cs G5.out hs ?_)
              | (go_at_call 16
                 (first
                   | (with_reducible refine (has_b _ ht h38.out).mono ?_)
                   | (with_reducible refine (has_b _ ht h39.out).mono ?_))
                 rintro e vx ⟨rfl, kx⟩
                 have G5 := boxA G5 kx.out
                 have X5 := boxA X5 kx.out
                 have Y5 := boxA Y5 kx.out
                 have K5 := bel_t K5 kx.out
                 have y0 := Y5.out.cell 0
                 have y1 := Y5.out.cell 1
                 have x0 := X5.out.cell 0
                 have x1 := X5.out.cell 1
                 clear kx))
            go_meet
            exact ⟨rfl, K5⟩
        · cases a
          all_goals
            go_wp2_with (first
              | (refine ld26 (by rfl) _ (by rfl) _ (by rfl) t.cs G5.out hs ?_)
              | (go_at_call 16
                 (first
                   | (with_reducible refine (has_b _ ht h38.out).mono ?_)
                   | (with_reducible refine (has_b _ ht h39.out).mono ?_))
                 rintro e vx ⟨rfl, kx⟩
                 have G5 := boxA G5 kx.out
                 have X5 := boxA X5 kx.out
                 have Y5 := boxA Y5 kx.out
                 have K5 := bel_t K5 kx.out
                 have y0 := Y5.out.cell 0
                 have y1 := Y5.out.cell 1
                 have x0 := X5.out.cell 0
                 have x1 := X5.out.cell 1
                 clear kx))
            go_meet
            exact ⟨rfl, K5⟩
        · cases ta
          all_goals
            go_wp2_with (first
              | (refine ld26 (by rfl) _ (by rfl) _ (by rfl) t.cs G5.out hs ?_)
              | (go_at_call 16
                 (first
                   | (with_reducible refine (has_b _ ht h38.out).mono ?_)
                   | (with_reducible refine (has_b _ ht h39.out).mono ?_))
                 rintro e vx ⟨rfl, kx⟩
                 have G5 := boxA G5 kx.out
                 have X5 := boxA X5 kx.out
                 have Y5 := boxA Y5 kx.out
                 have K5 := bel_t K5 kx.out
                 have y0 := Y5.out.cell 0
                 have y1 := Y5.out.cell 1
                 have x0 := X5.out.cell 0
                 have x1 := X5.out.cell 1
                 clear kx))
            go_meet
            exact ⟨rfl, K5⟩
      case rest =>
      obtain ⟨rfl, k6⟩ := hcut
      obtain ⟨v6, hv6⟩ : ∃ v6, v6 = wc := ⟨_, rfl⟩
      subst hv6
      have X6 := boxA X5 k6.out
      have Y6 := boxA Y5 k6.out
      have G6 := boxA G5 k6.out
      have B6 := bel_t B5 k6.out
      clear k6 X5 Y5 G5 B5 HF2 h38 h39 x0 x1 y0 y1 hbb
      have z0 : World.cell? v6 ⟨gy, 0, none⟩ = some (.bool ta) := by simpa using Y6.out.cell 0
      have z1 : World.cell? v6 ⟨gy, 1, none⟩ = some (.bool tb) := by simpa using Y6.out.cell 1
      have q0 := X6.out.cell 0
      have q1 := X6.out.cell 1
      have f0 := X6.out.frozen 0
      have f1 := X6.out.frozen 1
      go_wp2_with fail
      go_roundg (gk - 1)
      case measure => omega
      case rel => exact ⟨k + 1, ta, by omega, rfl, two_st X6, box_two G6 (by omega), bel_two B6 (by omega)⟩
    · obtain rfl : k = n := by omega
      go_wp2_with fail
      go_ret
      exact ⟨rfl, B3⟩
end Go.Proofs.Ythaecflakefklaa
