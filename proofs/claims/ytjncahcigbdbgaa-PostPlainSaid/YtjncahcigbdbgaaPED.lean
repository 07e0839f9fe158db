import Derived.Test.YtjncahcigbdbgaaPEC
namespace Go.Proofs.Ytjncahcigbdbgaa
open Go.RowKit

/-- The pen has let these bytes go out, and stands at this column. -/
structure St (w : World) (B g : Nat) (t : Tm) (N : Nat) (xs : List UInt8) (A : Option Addr) (n c : Nat) : Prop where
  len : xs.length = n
  pen : Pen w g t N (.slice A n c)
  own : w.ownsRow B 5 1 (.slice A n c) n (bv xs)
theorem St.up {w w' : World} {B g N n c : Nat} {t : Tm} {xs : List UInt8} {A : Option Addr} (h : Hid (St w B g t N xs A n c)) (k : Hid (Below w.heap.size w w')) : Hid (St w' B g t N xs A n c) :=
  hid ⟨h.out.len, h.out.pen.bel k.out, own_keep h.out.own k.out⟩
/-- A method of the pen has let these bytes go out in all; it stands at this column. -/
def RetS (w : World) (B g : Nat) (t : Tm) (xs : List UInt8) (M : Nat) (e : Ending) (w' : World) : Prop := e = .returned (.tuple #[]) ∧ ∃ A n c, Hid (St w' B g t M xs A n c) ∧ Hid (Below B w w')
theorem bel_s {w a b : World} {B : Nat} (h : Hid (Below B w a)) (k : Hid (Below a.heap.size a b)) (hB : B ≤ a.heap.size) : Hid (Below B w b) := hid (h.out.trans (k.out.mono hB))
theorem bel_z (w : World) (B : Nat) : Hid (Below B w w) := hid (Below.refl _ _)
theorem St.lt {w : World} {B g N n c : Nat} {t : Tm} {xs : List UInt8} {A : Option Addr} (h : Hid (St w B g t N xs A n c)) (hB : B ≤ g) : B ≤ w.heap.size := by have := Box.lt h.out.pen; omega
theorem St.eq {w : World} {B g N n c : Nat} {t : Tm} {xs ys : List UInt8} {A : Option Addr} (h : Hid (St w B g t N xs A n c)) (he : xs = ys) : Hid (St w B g t N ys A n c) := by rwa [he] at h
theorem St.col {w : World} {B g N M n c : Nat} {t : Tm} {xs : List UInt8} {A : Option Addr} {x : Int} (h : Hid (St w B g t N xs A n c)) (ht : t.c.length = 19) (hB : B ≤ g) (hx : x = (M : Int)) : Hid (St (w.setCell ⟨g, 24, none⟩ (.int .i64 x)) B g t M xs A n c) ∧ Hid (Below B w (w.setCell ⟨g, 24, none⟩ (.int .i64 x))) := by
  subst hx
  have k := h.out.pen.kept (.int .i64 (M : Int)) (Nat.le_refl _)
  exact ⟨hid ⟨h.out.len, h.out.pen.store ht M, k.own h.out.own (by decide)⟩, hid ((k.mono hB (fun _ h => h)).below (St.lt h hB))⟩
theorem st_moved {w u v : World} {B g N M n c : Nat} {t : Tm} {ys : List UInt8} {A A0 : Option Addr} {n0 c0 : Nat} (_hl : t.c.length = 19) (hB : B ≤ g) (hP : Hid (Pen u g t N (.slice A0 n0 c0))) (hy : ys.length = n) (hO : Hid (u.ownsRow B 5 1 (.slice A n c) n (bv ys))) (hb : Hid (Below B w u)) (P4 : Hid (Pen v g t M (.slice A n c))) (K4 : Hid (Kept g [46] (u.setCell ⟨g, 25, none⟩ (.slice A n c)) v)) : Hid (St v B g t M ys A n c) ∧ Hid (Below B w v) := by
  have k3 := hP.out.keptOut (.slice A n c) (Nat.le_refl _)
  have k := k3.trans K4.out
  refine ⟨hid ⟨hy, P4.out, k.own hO.out (by decide)⟩, hid (hb.out.trans ((k.mono hB (fun _ h => h)).below ?_))⟩
  have := Box.lt hP.out
  omega
section
variable {w : World} {B g N M n c : Nat} {t : Tm} {xs : List UInt8} {A : Option Addr}
set_option maxRecDepth 100000 in
set_option maxHeartbeats 1000000 in
theorem put_any (hs : Hid (St w B g t N xs A n c)) (hB : B ≤ g) (hm : n ≤ 900000) (hN : N ≤ 65535) (ht : t.Ok) (d : UInt8) {v : Bool} (hs42 : hasN t.f 42 = v) {x : List UInt8} (hM : Hid ((([d] : List UInt8), movedN v N d) = (x, M))) :
    Calls Try.prog 28 #[.pointer (some ⟨g, 0, none⟩), .int .u8 (d.toNat : Int)] w (RetS w B g t (xs ++ x) M) := by
  obtain ⟨rfl, hmv⟩ : [d] = x ∧ movedN v N d = M := by
    have := hM.out
    injection this with h1 h2
    exact ⟨h1, h2⟩
  have hl := ht.len
  have cn := hs.out.pen.cell25 hl
  have hgz := St.lt hs hB
  have k1 : Hid (Below w.heap.size w (w.alloc (.cells #[.int .u8 (d.toNat : Int)] 5))) := hid ((Below.refl _ w).alloc (Nat.le_refl _) _)
  have s1 := St.up hs k1
  have O1 := hid s1.out.own
  have P1 := hid s1.out.pen
  have S1 : Hid (SlB (w.alloc (.cells #[.int .u8 (d.toNat : Int)] 5)) (w.alloc (.cells #[.int .u8 (d.toNat : Int)] 5)).heap.size (some ⟨w.heap.size, 0, none⟩) 1 [d]) := hid (slb_lit w [d] 1 #[.int .u8 (d.toNat : Int)] rfl rfl (by decide))
  have hz1 : B ≤ (w.alloc (.cells #[.int .u8 (d.toNat : Int)] 5)).heap.size := Nat.le_trans hgz k1.out.size
  have hlen : Hid ((xs ++ [d]).length = n + 1) := hid (by rw [List.length_append, hs.out.len]; rfl)
  have b1 : Hid (Below B w (w.alloc (.cells #[.int .u8 (d.toNat : Int)] 5))) := hid (k1.out.mono hgz)
  clear s1 hs k1
  go_enter Try.func28, Try.ntmps28
  go_wp2_with (first
    | (at_builtin
       (refine app_own (w.alloc (.cells #[.int .u8 (d.toNat : Int)] 5)) (by rfl) (.tmp 8) (.tmp 10) rfl B n c A xs rfl O1 hz1 (some ⟨w.heap.size, 0, none⟩) 1 1 [d] rfl S1 rfl (by omega) ?_)
       intro A3 c3 u1 O2 k2
       have P2 := hid (k2.out.box P1.out (by decide))
       have b2 : Hid (Below B w u1) := hid (b1.out.trans (k2.out.below hz1))
       have cn2 := Pen.cell25 P2.out hl
       have cf2 := Pen.frozen25 P2.out
       have P3 : Hid (Pen (u1.setCell ⟨g, 25, none⟩ (.slice A3 (n + 1) c3)) g t N (.slice A3 (n + 1) c3)) := hid (Pen.storeOut P2.out hl _)
       clear k2)
    | (go_at_call 35
       (with_reducible refine (move_any _ P3 hN ht d hs42 (hid hmv)).mono ?_)
       rintro e u2 ⟨rfl, P4, K4⟩))
  go_end0
  obtain ⟨h1, h2⟩ := st_moved hl hB P2 hlen.out O2 b2 P4 K4
  exact ⟨rfl, A3, n + 1, c3, h1, h2⟩
theorem put_lit (hs : Hid (St w B g t N xs A n c)) (hB : B ≤ g) (hm : n ≤ 900000) (hN : N ≤ 65535) (ht : t.Ok) (d : UInt8) {v : Bool} (hs42 : hasN t.f 42 = v) {x : List UInt8} (hM : Hid ((([d] : List UInt8), movedN v N d) = (x, M))) {i : Int} (hi : i = (d.toNat : Int)) :
    Calls Try.prog 28 #[.pointer (some ⟨g, 0, none⟩), .int .u8 i] w (RetS w B g t (xs ++ x) M) := by
  subst hi
  exact put_any hs hB hm hN ht d hs42 hM
theorem put13 (hs : Hid (St w B g t N xs A n c)) (hB : B ≤ g) (hm : n ≤ 900000) (hN : N ≤ 65535) (ht : t.Ok) {v : Bool} (hs42 : hasN t.f 42 = v) {x : List UInt8} (hM : Hid ((([13] : List UInt8), movedN v N 13) = (x, M))) :
    Calls Try.prog 28 #[.pointer (some ⟨g, 0, none⟩), .int .u8 13] w (RetS w B g t (xs ++ x) M) := put_any hs hB hm hN ht 13 hs42 hM
theorem put10 (hs : Hid (St w B g t N xs A n c)) (hB : B ≤ g) (hm : n ≤ 900000) (hN : N ≤ 65535) (ht : t.Ok) {v : Bool} (hs42 : hasN t.f 42 = v) :
    Calls Try.prog 28 #[.pointer (some ⟨g, 0, none⟩), .int .u8 10] w (RetS w B g t (xs ++ [10]) N) := put_any hs hB hm hN ht 10 hs42 (hid (by rw [movedN_ctl (by decide) (by decide) (by decide) (Or.inl (by decide))]))
set_option maxRecDepth 100000 in
theorem feed_any (hs : Hid (St w B g t N xs A n c)) (hB : B ≤ g) (hm : n ≤ 900000) (hN : N ≤ 65535) (ht : t.Ok) {f : PoF} (hf : Hid (poF t = f)) {x : List UInt8} (hM : Hid (nlP f N = (x, M))) :
    Calls Try.prog 36 #[.pointer (some ⟨g, 0, none⟩)] w (RetS w B g t (xs ++ x) M) := by
  have hl := ht.len
  have B0 := bel_z w B
  have h42 : Hid (hasN t.f 42 = f.u) := hid (by rw [← hf.out]; rfl)
  have hgz := St.lt hs hB
  cases h75 : hasN t.f 75
  · obtain ⟨rfl, rfl⟩ : [10] = x ∧ N = M := by
      have h1 := nlP_no (f := f) (N := N) (by rw [← hf.out]; exact h75)
      have := h1.symm.trans hM.out
      injection this with h1 h2
      exact ⟨h1, h2⟩
    go_enter Try.func36, Try.ntmps36
    go_wp2_with (first
      | (go_at_call 28
         (with_reducible refine (put10 hs hB hm hN ht h42.out).mono ?_)
         rintro e u1 ⟨rfl, A1, n1, c1, s1, B1⟩
         have hgz := St.lt s1 hB)
      | (go_at_call 27
         (with_reducible refine (hasp_b _ (hid s1.out.pen) ht h75).mono ?_)
         rintro e u2 ⟨rfl, k2⟩
         have s2 := St.up s1 k2
         have B2 := bel_s B1 k2 hgz))
    go_end0
    exact ⟨rfl, A1, n1, c1, s2, B2⟩
  · obtain ⟨rfl, rfl⟩ : [10] = x ∧ 0 = M := by
      have h1 := nlP_ret (f := f) (N := N) (by rw [← hf.out]; exact h75)
      have := h1.symm.trans hM.out
      injection this with h1 h2
      exact ⟨h1, h2⟩
    go_enter Try.func36, Try.ntmps36
    go_wp2_with (first
      | (go_at_call 28
         (with_reducible refine (put10 hs hB hm hN ht h42.out).mono ?_)
         rintro e u1 ⟨rfl, A1, n1, c1, s1, B1⟩
         have hgz := St.lt s1 hB)
      | (go_at_call 27
         (with_reducible refine (hasp_b _ (hid s1.out.pen) ht h75).mono ?_)
         rintro e u2 ⟨rfl, k2⟩
         have s2 := St.up s1 k2
         have B2 := bel_s B1 k2 hgz
         have cn1 := s2.out.pen.cell hl
         have cf1 := s2.out.pen.frozen))
    obtain ⟨h1, h2⟩ := St.col s2 hl hB (show (0 : Int) = ((0 : Nat) : Int) by omega)
    go_end0
    exact ⟨rfl, A1, n1, c1, h1, hid (B2.out.trans h2.out)⟩
set_option maxRecDepth 100000 in
theorem endLine_any (hs : Hid (St w B g t N xs A n c)) (hB : B ≤ g) (hm : n ≤ 800000) (hN : N ≤ 65535) (ht : t.Ok) {f : PoF} (hf : Hid (poF t = f)) {x : List UInt8} (hM : Hid ((if f.nlcr = true then ([13, 10], 0) else nlP f N) = (x, M))) :
    Calls Try.prog 29 #[.pointer (some ⟨g, 0, none⟩)] w (RetS w B g t (xs ++ x) M) := by
  have hl := ht.len
  have B0 := bel_z w B
  have h42 : Hid (hasN t.f 42 = f.u) := hid (by rw [← hf.out]; rfl)
  have hgz := St.lt hs hB
  cases h72 : hasN t.f 72
  · have hn : Hid (nlP f N = (x, M)) := hid (by
      have := hM.out
      rwa [if_neg (by rw [← hf.out]; show ¬ hasN t.f 72 = true; rw [h72]; decide)] at this)
    go_enter Try.func29, Try.ntmps29
    go_wp2_with (first
      | (go_at_call 27
         (with_reducible refine (hasp_b _ (hid hs.out.pen) ht h72).mono ?_)
         rintro e u1 ⟨rfl, k1⟩
         have s1 := St.up hs k1
         have B1 := bel_s B0 k1 hgz)
      | (go_at_call 36
         (with_reducible refine (feed_any s1 hB (by omega) hN ht hf hn).mono ?_)
         rintro e u2 ⟨rfl, A2, n2, c2, s2, B2⟩))
    go_end0
    exact ⟨rfl, A2, n2, c2, s2, hid (B1.out.trans B2.out)⟩
  · obtain ⟨rfl, rfl⟩ : [13, 10] = x ∧ 0 = M := by
      have := hM.out
      rw [if_pos (by rw [← hf.out]; exact h72)] at this
      injection this with h1 h2
      exact ⟨h1, h2⟩
    have hn : Hid (nlP f 0 = ([10], 0)) := hid (by unfold nlP; split <;> rfl)
    have h13 : Hid ((([13] : List UInt8), movedN f.u N 13) = ([13], 0)) := hid (by rw [movedN_13 rfl])
    go_enter Try.func29, Try.ntmps29
    go_wp2_with (first
      | (go_at_call 27
         (with_reducible refine (hasp_b _ (hid hs.out.pen) ht h72).mono ?_)
         rintro e u1 ⟨rfl, k1⟩
         have s1 := St.up hs k1
         have B1 := bel_s B0 k1 hgz)
      | (go_at_call 28
         (with_reducible refine (put13 s1 hB (by omega) hN ht h42.out h13).mono ?_)
         rintro e u2 ⟨rfl, A2, n2, c2, s2, B2⟩
         have hn2 : n2 ≤ 900000 := by
           have := s2.out.len
           have := s1.out.len
           simp only [List.length_append, List.length_singleton] at *
           omega)
      | (go_at_call 36
         (with_reducible refine (feed_any s2 hB hn2 (Nat.zero_le _) ht hf hn).mono ?_)
         rintro e u3 ⟨rfl, A3, n3, c3, s3, B3⟩))
    go_end0
    exact ⟨rfl, A3, n3, c3, St.eq s3 (by rw [List.append_assoc]; rfl), hid (B1.out.trans (B2.out.trans B3.out))⟩
set_option maxRecDepth 100000 in
set_option maxHeartbeats 1000000 in
theorem goBack_any (hs : Hid (St w B g t N xs A n c)) (hB : B ≤ g) (hm : n ≤ 800000) (hN : N ≤ 65535) (ht : t.Ok) {f : PoF} (hf : Hid (poF t = f)) {x : List UInt8} (hM : Hid ((if f.nocr = true ∧ N = 0 then ([], 0) else if f.crnl = false then ([13], 0) else nlP f N) = (x, M))) :
    Calls Try.prog 30 #[.pointer (some ⟨g, 0, none⟩)] w (RetS w B g t (xs ++ x) M) := by
  have hl := ht.len
  have B0 := bel_z w B
  have hgz := St.lt hs hB
  have h42 : Hid (hasN t.f 42 = f.u) := hid (by rw [← hf.out]; rfl)
  have cn := hs.out.pen.cell hl
  have fn : f.nocr = hasN t.f 74 := by rw [← hf.out]; rfl
  have fc : f.crnl = hasN t.f 73 := by rw [← hf.out]; rfl
  have q13 : movedN f.u N 13 = 0 := movedN_13 rfl
  by_cases h0 : N = 0
  · subst h0
    cases h74 : hasN t.f 74
    · cases h73 : hasN t.f 73
      · have hm2 : Hid ((([13] : List UInt8), movedN f.u 0 13) = (x, M)) := hid (by
          have := hM.out
          rw [fn, fc, h74, h73] at this
          rw [q13]
          exact this)
        go_enter Try.func30, Try.ntmps30
        go_wp2_with (first
          | (go_at_call 27
             (first
               | ((with_reducible refine (hasp_b _ (hid hs.out.pen) ht h74).mono ?_)
                  rintro e u1 ⟨rfl, k1⟩
                  have s1 := St.up hs k1
                  have B1 := bel_s B0 k1 hgz
                  have hgz1 := St.lt s1 hB)
               | ((with_reducible refine (hasp_b _ (hid s1.out.pen) ht h73).mono ?_)
                  rintro e u2 ⟨rfl, k2⟩
                  have s2 := St.up s1 k2
                  have B2 := bel_s B1 k2 hgz1)))
          | (go_at_call 28
             (with_reducible refine (put13 s2 hB (by omega) hN ht h42.out hm2).mono ?_)
             rintro e u3 ⟨rfl, A3, n3, c3, s3, B3⟩))
        go_end0
        exact ⟨rfl, A3, n3, c3, s3, hid (B2.out.trans B3.out)⟩
      · have hm2 : Hid (nlP f 0 = (x, M)) := hid (by
          have := hM.out
          rw [fn, fc, h74, h73] at this
          exact this)
        go_enter Try.func30, Try.ntmps30
        go_wp2_with (first
          | (go_at_call 27
             (first
               | ((with_reducible refine (hasp_b _ (hid hs.out.pen) ht h74).mono ?_)
                  rintro e u1 ⟨rfl, k1⟩
                  have s1 := St.up hs k1
                  have B1 := bel_s B0 k1 hgz
                  have hgz1 := St.lt s1 hB)
               | ((with_reducible refine (hasp_b _ (hid s1.out.pen) ht h73).mono ?_)
                  rintro e u2 ⟨rfl, k2⟩
                  have s2 := St.up s1 k2
                  have B2 := bel_s B1 k2 hgz1)))
          | (go_at_call 36
             (with_reducible refine (feed_any s2 hB (by omega) hN ht hf hm2).mono ?_)
             rintro e u3 ⟨rfl, A3, n3, c3, s3, B3⟩))
        go_end0
        exact ⟨rfl, A3, n3, c3, s3, hid (B2.out.trans B3.out)⟩
    · obtain ⟨rfl, rfl⟩ : [] = x ∧ 0 = M := by
        have := hM.out
        rw [fn, h74] at this
        simpa using this
      go_enter Try.func30, Try.ntmps30
      go_wp2_with (first
        | (go_at_call 27
           ((with_reducible refine (hasp_b _ (hid hs.out.pen) ht h74).mono ?_)
            rintro e u1 ⟨rfl, k1⟩
            have s1 := St.up hs k1
            have B1 := bel_s B0 k1 hgz)))
      go_end0
      exact ⟨rfl, A, n, c, St.eq s1 (by rw [List.append_nil]), B1⟩
  · have e0 : ((N : Int) == 0) = false := beq_eq_false_iff_ne.2 (by omega)
    cases h73 : hasN t.f 73
    · have hm2 : Hid ((([13] : List UInt8), movedN f.u N 13) = (x, M)) := hid (by
        have := hM.out
        rw [if_neg (fun h => h0 h.2), fc, h73] at this
        rw [q13]
        exact this)
      clear h0
      go_enter Try.func30, Try.ntmps30
      go_wp2_with (first
        | (go_at_call 27
           ((with_reducible refine (hasp_b _ (hid hs.out.pen) ht h73).mono ?_)
            rintro e u2 ⟨rfl, k2⟩
            have s2 := St.up hs k2
            have B2 := bel_s B0 k2 hgz))
        | (go_at_call 28
           (with_reducible refine (put13 s2 hB (by omega) hN ht h42.out hm2).mono ?_)
           rintro e u3 ⟨rfl, A3, n3, c3, s3, B3⟩))
      go_end0
      exact ⟨rfl, A3, n3, c3, s3, hid (B2.out.trans B3.out)⟩
    · have hm2 : Hid (nlP f N = (x, M)) := hid (by
        have := hM.out
        rw [if_neg (fun h => h0 h.2), fc, h73] at this
        exact this)
      clear h0
      go_enter Try.func30, Try.ntmps30
      go_wp2_with (first
        | (go_at_call 27
           ((with_reducible refine (hasp_b _ (hid hs.out.pen) ht h73).mono ?_)
            rintro e u2 ⟨rfl, k2⟩
            have s2 := St.up hs k2
            have B2 := bel_s B0 k2 hgz))
        | (go_at_call 36
           (with_reducible refine (feed_any s2 hB (by omega) hN ht hf hm2).mono ?_)
           rintro e u3 ⟨rfl, A3, n3, c3, s3, B3⟩))
      go_end0
      exact ⟨rfl, A3, n3, c3, s3, hid (B2.out.trans B3.out)⟩
set_option maxRecDepth 100000 in
set_option maxHeartbeats 1000000 in
theorem write_any (hs : Hid (St w B g t N xs A n c)) (hB : B ≤ g) (hm : n ≤ 800000) (hN : N ≤ 65535) (ht : t.Ok) (d : UInt8) {f : PoF} (hf : Hid (poF t = f)) {x : List UInt8} (hx : Hid (byteP f N d = (x, M))) :
    Calls Try.prog 19 #[.pointer (some ⟨g, 0, none⟩), .int .u8 (d.toNat : Int)] w (RetS w B g t (xs ++ x) M) := by
  have h42 : Hid (hasN t.f 42 = f.u) := hid (by rw [← hf.out]; rfl)
  have B0 := bel_z w B
  have hgz := St.lt hs hB
  cases h70 : hasN t.f 70
  · have hm2 : Hid ((([d] : List UInt8), movedN f.u N d) = (x, M)) := hid ((byteP_off (by rw [← hf.out]; exact h70)).symm.trans hx.out)
    go_enter Try.func19, Try.ntmps19
    go_wp2_with (first
      | (go_at_call 27
         ((with_reducible refine (hasp_b _ (hid hs.out.pen) ht h70).mono ?_)
          rintro e u1 ⟨rfl, k1⟩
          have s1 := St.up hs k1
          have B1 := bel_s B0 k1 hgz
          have hgz1 := St.lt s1 hB))
      | (go_at_call 28
         (with_reducible refine (put_any s1 hB (by omega) hN ht d h42.out hm2).mono ?_)
         rintro e u2 ⟨rfl, A2, n2, c2, s2, B2⟩))
    go_end0
    exact ⟨rfl, A2, n2, c2, s2, hid (B1.out.trans B2.out)⟩
  · have ho : f.o = true := by rw [← hf.out]; exact h70
    by_cases h10 : d.toNat = 10
    · have e10 : (d.toNat : Int) = 10 := by omega
      have hm2 : Hid ((if f.nlcr = true then ([13, 10], 0) else nlP f N) = (x, M)) := hid (by
        have := hx.out
        unfold byteP at this
        rwa [if_neg (by rw [ho]; decide), if_neg (by omega), if_pos h10] at this)
      rw [e10]
      clear e10 h10
      go_enter Try.func19, Try.ntmps19
      go_wp2_with (first
        | (go_at_call 27
           ((with_reducible refine (hasp_b _ (hid hs.out.pen) ht h70).mono ?_)
            rintro e u1 ⟨rfl, k1⟩
            have s1 := St.up hs k1
            have B1 := bel_s B0 k1 hgz
            have hgz1 := St.lt s1 hB))
        | (go_at_call 29
           (with_reducible refine (endLine_any s1 hB hm hN ht hf hm2).mono ?_)
           rintro e u2 ⟨rfl, A2, n2, c2, s2, B2⟩))
      go_end0
      exact ⟨rfl, A2, n2, c2, s2, hid (B1.out.trans B2.out)⟩
    · have k10 : (((d.toNat : Int)) == 10) = false := beq_eq_false_iff_ne.2 (by omega)
      by_cases h13 : d.toNat = 13
      · have e13 : (d.toNat : Int) = 13 := by omega
        have hm2 : Hid ((if f.nocr = true ∧ N = 0 then ([], 0) else if f.crnl = false then ([13], 0) else nlP f N) = (x, M)) := hid (by
          have := hx.out
          unfold byteP at this
          rwa [if_neg (by rw [ho]; decide), if_pos h13] at this)
        rw [e13]
        clear e13 h13 k10 h10
        go_enter Try.func19, Try.ntmps19
        go_wp2_with (first
          | (go_at_call 27
             ((with_reducible refine (hasp_b _ (hid hs.out.pen) ht h70).mono ?_)
              rintro e u1 ⟨rfl, k1⟩
              have s1 := St.up hs k1
              have B1 := bel_s B0 k1 hgz
              have hgz1 := St.lt s1 hB))
          | (go_at_call 30
             (with_reducible refine (goBack_any s1 hB hm hN ht hf hm2).mono ?_)
             rintro e u2 ⟨rfl, A2, n2, c2, s2, B2⟩))
        go_end0
        exact ⟨rfl, A2, n2, c2, s2, hid (B1.out.trans B2.out)⟩
      · have k13 : (((d.toNat : Int)) == 13) = false := beq_eq_false_iff_ne.2 (by omega)
        have hm2 : Hid ((([upB f d] : List UInt8), movedN f.u N (upB f d)) = (x, M)) := hid ((byteP_any ho h13 h10).symm.trans hx.out)
        clear h10 h13
        cases hsm : (decide (97 ≤ d.toNat) && decide (d.toNat ≤ 122))
        · have hu : upB f d = d := upB_no (by
            rintro ⟨_, h1, h2⟩
            rw [decide_eq_true h1, decide_eq_true h2] at hsm
            cases hsm)
          rw [hu] at hm2
          go_enter Try.func19, Try.ntmps19
          go_wp2_with (first
            | (go_at_call 27
               ((with_reducible refine (hasp_b _ (hid hs.out.pen) ht h70).mono ?_)
                rintro e u1 ⟨rfl, k1⟩
                have s1 := St.up hs k1
                have B1 := bel_s B0 k1 hgz
                have hgz1 := St.lt s1 hB))
            | (go_at_call 31
               (with_reducible refine (isSmall_b _ d hsm).mono ?_)
               rintro e u3 ⟨rfl, rfl⟩)
            | (go_at_call 28
               (with_reducible refine (put_any s1 hB (by omega) hN ht d h42.out hm2).mono ?_)
               rintro e u2 ⟨rfl, A2, n2, c2, s2, B2⟩))
          go_end0
          exact ⟨rfl, A2, n2, c2, s2, hid (B1.out.trans B2.out)⟩
        · have h97 : 97 ≤ d.toNat ∧ d.toNat ≤ 122 := by simpa using hsm
          cases h71 : hasN t.f 71
          · have hu : upB f d = d := upB_no (by rw [← hf.out]; rintro ⟨h, _⟩; exact absurd (h71.symm.trans h) (by decide))
            rw [hu] at hm2
            go_enter Try.func19, Try.ntmps19
            go_wp2_with (first
              | (go_at_call 27
                 (first
                   | ((with_reducible refine (hasp_b _ (hid hs.out.pen) ht h70).mono ?_)
                      rintro e u1 ⟨rfl, k1⟩
                      have s1 := St.up hs k1
                      have B1 := bel_s B0 k1 hgz
                      have hgz1 := St.lt s1 hB)
                   | ((with_reducible refine (hasp_b _ (hid s1.out.pen) ht h71).mono ?_)
                      rintro e u4 ⟨rfl, k4⟩
                      have s1 := St.up s1 k4
                      have B1 := bel_s B1 k4 hgz1)))
              | (go_at_call 31
                 (with_reducible refine (isSmall_b _ d hsm).mono ?_)
                 rintro e u3 ⟨rfl, rfl⟩)
              | (go_at_call 28
                 (with_reducible refine (put_any s1 hB (by omega) hN ht d h42.out hm2).mono ?_)
                 rintro e u2 ⟨rfl, A2, n2, c2, s2, B2⟩))
            go_end0
            exact ⟨rfl, A2, n2, c2, s2, hid (B1.out.trans B2.out)⟩
          · have hd := upB_on (f := f) (c := d) (by rw [← hf.out]; exact h71) h97.1 h97.2
            obtain ⟨r, hd0⟩ : ∃ r, upB f d = r := ⟨_, rfl⟩
            rw [hd0] at hd hm2
            have hd2 := hd.symm
            clear hd hd0
            go_enter Try.func19, Try.ntmps19
            go_wp2_with (first
              | (go_at_call 27
                 (first
                   | ((with_reducible refine (hasp_b _ (hid hs.out.pen) ht h70).mono ?_)
                      rintro e u1 ⟨rfl, k1⟩
                      have s1 := St.up hs k1
                      have B1 := bel_s B0 k1 hgz
                      have hgz1 := St.lt s1 hB)
                   | ((with_reducible refine (hasp_b _ (hid s1.out.pen) ht h71).mono ?_)
                      rintro e u4 ⟨rfl, k4⟩
                      have s1 := St.up s1 k4
                      have B1 := bel_s B1 k4 hgz1)))
              | (go_at_call 31
                 (with_reducible refine (isSmall_b _ d hsm).mono ?_)
                 rintro e u3 ⟨rfl, rfl⟩)
              | (go_at_call 28
                 (with_reducible refine (put_any s1 hB (by omega) hN ht r h42.out hm2).mono ?_)
                 rintro e u2 ⟨rfl, A2, n2, c2, s2, B2⟩))
            go_end0
            exact ⟨rfl, A2, n2, c2, s2, hid (B1.out.trans B2.out)⟩
end
end Go.Proofs.Ytjncahcigbdbgaa
