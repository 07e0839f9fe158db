import Derived.Test.YtgkcappcjlfloaaND
namespace Go.Proofs.Ytgkcappcjlfloaa
open Go.RowKit

/-- What the document's Encode tells of an opcode. -/
def opV (t : Tm) (op : Nat) : Option Nat := if op ≤ 18 then some (t.c.getD op 0).toNat else if op = 128 then some t.i else if op = 129 then some t.o else if flagB (op : Int) = true then some (if hasN t.f (op : Int) then 1 else 0) else none
def opL (t : Tm) (op : Nat) : List UInt8 := match opV t op with
  | some v => enc5 op v
  | none => []
/-- The modes of the opcodes from 1 on. -/
def encL (t : Tm) : Nat → List UInt8
  | 0 => []
  | k + 1 => encL t k ++ opL t (k + 1)
theorem encL_len (t : Tm) : ∀ k, (encL t k).length ≤ 5 * k
  | 0 => Nat.le_refl _
  | k + 1 => by
    have h := encL_len t k
    have h2 : (opL t (k + 1)).length ≤ 5 := by
      unfold opL
      split
      · exact Nat.le_refl _
      · exact Nat.zero_le _
    show (encL t k ++ opL t (k + 1)).length ≤ _
    rw [List.length_append]
    omega
theorem opV_lt {t : Tm} (ht : t.Ok) {op v : Nat} (h : opV t op = some v) : v < 4294967296 := by
  unfold opV at h
  split at h
  · injection h with h; subst h; have := (t.c.getD op 0).toNat_lt; omega
  · split at h
    · injection h with h; subst h; exact ht.i
    · split at h
      · injection h with h; subst h; exact ht.o
      · split at h
        · injection h with h; subst h; split <;> omega
        · cases h
/-- A slice that lies anywhere is put behind what is the call's own. -/
theorem app_far {ops : Array Oper} {rest : List Oper} {o : Oper} {a : Act} {Q : Exit → Act → World → Prop} (w : World) (hgd : o.guard = none) (s x : Operand) (ho : o.op = .call { callee := .builtin .append, args := #[s, x], argTypes := #[38, 38] })
    (base n c : Nat) (A : Option Addr) (xs : List UInt8) (hs : a.eval s = .slice A n c) (hown : Hid (w.ownsRow base 5 1 (.slice A n c) n (bv xs))) (hb : base ≤ w.heap.size) (A2 : Option Addr) (m c2 : Nat) (ys : List UInt8) (hx : a.eval x = .slice A2 m c2) (hS : Hid (SlB w w.heap.size A2 c2 ys)) (hy : ys.length = m)
    (hm : n + m ≤ 1000000)
    (h : ∀ A' c' w', Hid (w'.ownsRow base 5 1 (.slice A' (n + m) c') (n + m) (bv (xs ++ ys))) → Hid (Kept base [5] w w') → wpList Try.prog ops Q rest (a.put o.dst (.slice A' (n + m) c')) w') : wpList Try.prog ops Q (o :: rest) a w := by
  subst hy
  obtain ⟨i5, hi5, hz5, hz51, hz52⟩ := info_parts Try.info5
  refine wpList_app _ hgd s x 38 ho base 5 i5 _ 1 1 Try.underlying38 hi5 hz5 hz51 hz52 rfl (by decide) A n c (bv xs) hs hown.out w.heap.size A2 ys.length c2 (bv ys) hx (by rw [bv_length, Nat.mul_one]) hS.out.2.2.2 (bv_one _) (by unfold maxLen; omega) (by omega) hb ?_
  intro A3 c3 u3 ho3 hg3
  rw [← bv_append] at ho3
  have hk : Kept base [5] w u3 := (Kept.refl base [5] w).grown hg3 (fun k hk => by obtain ⟨a, cs, b⟩ := own_box hown.out k hk; exact ⟨a, 5, cs, by simp, b⟩)
  exact h A3 c3 u3 (hid ho3) (hid hk)
/-- What one round of the document's Encode keeps. -/
structure Enc (w wr : World) (t : Tm) (A : Option Addr) (n c : Nat) (xs : List UInt8) : Prop where
  own : wr.ownsRow w.heap.size 5 1 (.slice A n c) n (bv xs)
  bel : Below w.heap.size w wr
  box : Box wr w.heap.size 26 t.cs
theorem Enc.grow {w wr wr' : World} {t : Tm} {A : Option Addr} {n c : Nat} {xs : List UInt8} (h : Enc w wr t A n c xs) (hb : Below wr.heap.size wr wr') : Enc w wr' t A n c xs :=
  ⟨own_keep h.own hb, h.bel.trans (hb.mono h.bel.size), box_below h.box hb⟩
theorem Enc.app {w wr wr' : World} {t : Tm} {A A' : Option Addr} {n c n' c' : Nat} {xs ys : List UInt8} (h : Enc w wr t A n c xs) (ho : Hid (wr'.ownsRow w.heap.size 5 1 (.slice A' n' c') n' (bv ys))) (hk : Hid (Kept w.heap.size [5] wr wr')) : Enc w wr' t A' n' c' ys :=
  ⟨ho.out, h.bel.trans (hk.out.below h.bel.size), hk.out.box h.box (by decide)⟩
theorem four_b (n : Nat) (h : n < 4294967296) (w : World) (X : Int) (hX : (n : Int) = X) : Calls Try.prog 41 #[.int .u32 X] w fun e w' => ∃ A c, e = .returned (.slice A 4 c) ∧ Hid (SlB w' w'.heap.size A c (four n)) ∧ Below w.heap.size w w' := by
  subst hX
  refine (four_any n h w).mono ?_
  rintro e w' ⟨A, c, rfl, ho, hb⟩
  exact ⟨A, c, rfl, hid (own_slb (_n := 0) ho), hb⟩
theorem four_0 (w : World) : Calls Try.prog 41 #[.int .u32 0] w fun e w' => ∃ A c, e = .returned (.slice A 4 c) ∧ Hid (SlB w' w'.heap.size A c (four 0)) ∧ Below w.heap.size w w' := four_b 0 (by decide) w 0 rfl
theorem four_1 (w : World) : Calls Try.prog 41 #[.int .u32 1] w fun e w' => ∃ A c, e = .returned (.slice A 4 c) ∧ Hid (SlB w' w'.heap.size A c (four 1)) ∧ Below w.heap.size w w' := four_b 1 (by decide) w 1 rfl
theorem slb_own {w : World} {base n c : Nat} {A : Option Addr} {bs : List UInt8} (h : w.ownsRow base 5 1 (.slice A n c) n (bv bs)) (hn : bs.length = n) : SlB w w.heap.size A c bs := by
  subst hn
  exact own_slb (_n := 0) h
theorem byte_v {p : Nat} (hp : p ≤ 255) : bv [UInt8.ofNat p] = [Value.int .u8 (p : Int)] := by
  have e : ((UInt8.ofNat p).toNat : Int) = (p : Int) := by simp; omega
  show [Value.int .u8 ((UInt8.ofNat p).toNat : Int)] = _
  rw [e]
theorem hasr_c (w : World) {t : Tm} (ht : t.Ok) {op : Int} {b : Bool} (hb : hasN t.f op = b) : Calls Try.prog 13 #[.agg t.cs, .int .i64 op] w fun e w' => e = .returned (.bool b) ∧ Hid (Below w.heap.size w w') := by
  subst hb
  exact hasr_any w t ht op
theorem enc_fin {w wr : World} {t : Tm} {k p : Nat} {X Y : List UInt8} {vs : List UInt8} (HY : Hid (encL t (k + 1) = Y)) (hp : Hid (p ≤ 129 ∧ 1 ≤ p ∧ p = k + 1)) {n : Nat} (hn : Hid (X.length = n)) (hY : X ++ [UInt8.ofNat p] ++ vs = Y) (hvs : vs.length = 4) {A : Option Addr} {c : Nat} (HE : Hid (Enc w wr t A (n + 1 + 4) c (X ++ [UInt8.ofNat p] ++ vs))) {i : Value} (hi : i = .int .i64 ((p : Int) + 1)) :
    ∃ (A' : Option Addr) (c' n' k' : Nat), k' ≤ 129 ∧ Value.slice A (n + 1 + 4) c = .slice A' n' c' ∧ i = .int .i64 ((k' + 1 : Nat) : Int) ∧ Hid ((encL t k').length = n') ∧ Hid (Enc w wr t A' n' c' (encL t k')) := by
  have h := hp.out
  refine ⟨A, c, n + 1 + 4, k + 1, by omega, rfl, ?_, ?_, ?_⟩
  · rw [hi, h.2.2]
    rfl
  · rw [HY.out, ← hY, List.length_append, List.length_append, hn.out, hvs]
    exact hid rfl
  · rw [HY.out, ← hY]
    exact HE
theorem enc_fin0 {w wr : World} {t : Tm} {k p : Nat} {X Y : List UInt8} (HY : Hid (encL t (k + 1) = Y)) (hp : Hid (p ≤ 129 ∧ 1 ≤ p ∧ p = k + 1)) {n : Nat} (hn : Hid (X.length = n)) (hY : X = Y) {A : Option Addr} {c : Nat} (HE : Hid (Enc w wr t A n c X)) {i : Value} (hi : i = .int .i64 ((p : Int) + 1)) :
    ∃ (A' : Option Addr) (c' n' k' : Nat), k' ≤ 129 ∧ Value.slice A n c = .slice A' n' c' ∧ i = .int .i64 ((k' + 1 : Nat) : Int) ∧ Hid ((encL t k').length = n') ∧ Hid (Enc w wr t A' n' c' (encL t k')) := by
  have h := hp.out
  refine ⟨A, c, n, k + 1, by omega, rfl, ?_, ?_, ?_⟩
  · rw [hi, h.2.2]
    rfl
  · rw [HY.out, ← hY]
    exact hn
  · rw [HY.out, ← hY]
    exact HE
set_option maxRecDepth 100000 in
set_option maxHeartbeats 4000000 in
theorem encoder_any (w : World) (t : Tm) (ht : t.Ok) : Calls Try.prog 26 #[.agg t.cs] w fun e w' => ∃ A n c, e = .returned (.slice A n c) ∧ (encL t 129 ++ [0]).length = n ∧ Hid (SlB w' w'.heap.size A c (encL t 129 ++ [0])) ∧ Hid (Below w.heap.size w w') := by
  obtain ⟨E, hE⟩ : ∃ E, Hid (encL t 129 = E) := ⟨_, hid rfl⟩
  have hEl : Hid (E.length ≤ 645) := hid (by rw [← hE.out]; exact encL_len t 129)
  rw [hE.out]
  have hs := cs_size ht.len
  have H0 : Hid (Enc w (w.alloc (.cells t.cs 26)) t none 0 0 []) := hid ⟨⟨rfl, Or.inl ⟨rfl, rfl⟩⟩, (Below.refl _ w).alloc (Nat.le_refl _) _, Box.new w 26 _⟩
  go_enter Try.func26, Try.ntmps26
  go_wp2_with (first
    | (refine bx26 (by rfl) _ (by rfl) _ (by rfl) hs ?_; intro _))
  go_loopw [3, 4] (fun b i wr => ∃ (A : Option Addr) (c n k : Nat), k ≤ 129 ∧ b = .slice A n c ∧ i = .int .i64 ((k + 1 : Nat) : Int) ∧ Hid ((encL t k).length = n) ∧ Hid (Enc w wr t A n c (encL t k))) (fun _ i _ => 200 - (intOf i).toNat)
  case atStart => exact ⟨none, 0, 0, 0, by omega, rfl, rfl, hid rfl, H0⟩
  case round =>
    clear H0
    obtain ⟨A, c, n, k, hk, rfl, rfl, hn, HE⟩ := hrel
    obtain ⟨p, hp⟩ : ∃ p, p = k + 1 := ⟨_, rfl⟩
    rw [← hp]
    have hn5 : n ≤ 5 * k := by have := hn.out; have := encL_len t k; omega
    by_cases h129 : k < 129
    · have hp9 : (p : Int) < 130 := by omega
      have hpm := hid (show p ≤ 129 ∧ 1 ≤ p ∧ p = k + 1 by omega)
      have HV1 := byte_v (p := p) (by omega)
      have hsk : Hid (∀ v, opV t p = some v → encL t k ++ [UInt8.ofNat p] ++ four v = encL t (k + 1)) := hid (fun v h => by
        subst hp
        show _ = encL t k ++ opL t (k + 1)
        unfold opL
        rw [h, List.append_assoc]
        rfl)
      have hno : Hid (opV t p = none → encL t k = encL t (k + 1)) := hid (fun h => by
        subst hp
        show _ = encL t k ++ opL t (k + 1)
        unfold opL
        rw [h, List.append_nil])
      have hnk : Hid (n ≤ 700) := hid (by omega)
      obtain ⟨Y, hY0⟩ : ∃ Y, encL t (k + 1) = Y := ⟨_, rfl⟩
      rw [hY0] at hsk hno
      have HY := hid hY0
      generalize encL t k = X at hn HE hsk hno
      clear hn5 hp hk hY0
      by_cases h18 : p ≤ 18
      · have hv : Hid (opV t p = some (t.c.getD p 0).toNat) := hid (by unfold opV; rw [if_pos h18])
        have k1 : (p : Int) ≤ 18 ∧ (p : Int) < 19 ∧ (0 : Int) ≤ (p : Int) := by omega
        have ck : wr.cell? ⟨w.heap.size, p, none⟩ = some (.int .u8 ((t.c.getD p 0).toNat : Int)) := (HE.out.box.cell p).trans (cs_char2 ht.len p (by omega))
        have hl := (t.c.getD p 0).toNat_lt
        obtain ⟨v, hvv⟩ : ∃ v, (t.c.getD p 0).toNat = v := ⟨_, rfl⟩
        rw [hvv] at ck hv hl
        have hl2 : (v : Int) < 256 := by omega
        clear h18
        go_wp2_with (first
          | (at_builtin
             (refine app_lit _ rfl (.tmp 36) (.tmp 39) rfl w.heap.size n c A (X) rfl (hid HE.out.own) HE.out.bel.size [UInt8.ofNat p] 1 _ HV1 rfl rfl (by have := hnk.out; omega) ?_)
             intro A1 c1 u1 O1 k1'
             have HE1 := hid (HE.out.app O1 k1')
             clear O1 k1')
          | (go_at_call 41
             (with_reducible refine (four_b v (by omega) _ _ (by rfl)).mono ?_)
             rintro e u2 ⟨A4, c4, rfl, S4, b4⟩
             have HE2 := hid (HE1.out.grow b4)
             clear HE1 b4)
          | (at_builtin
             (refine app_far u2 rfl (.tmp 40) (.tmp 42) rfl w.heap.size (n + 1) c1 A1 (X ++ [UInt8.ofNat p]) rfl (hid HE2.out.own) HE2.out.bel.size A4 4 c4 (four v) rfl S4 rfl (by have := hnk.out; omega) ?_)
             intro A5 c5 u5 O5 k5
             have HE5 := hid (HE2.out.app O5 k5)
             clear O5 k5 HE2))
        go_roundw
        case rel => exact enc_fin HY hpm hn (hsk.out _ hv.out) rfl HE5 (by go_num)
        case measure => have := hpm.out; simp only [intOf]; omega
      · by_cases h128 : p = 128
        · have hv : Hid (opV t p = some t.i) := hid (by unfold opV; rw [if_neg h18, if_pos h128])
          have ck : wr.cell? ⟨w.heap.size, 20, none⟩ = some (.int .u32 (t.i : Int)) := (HE.out.box.cell 20).trans (cs_i ht.len)
          have hl := ht.i
          obtain ⟨v, hvv⟩ : ∃ v, t.i = v := ⟨_, rfl⟩
          rw [hvv] at ck hv hl
          have g18 : decide ((p : Int) ≤ 18) = false := by simp; omega
          have g128 : ((p : Int) == 128) = true := by simp; omega
          clear h18 h128
          go_wp2_with (first
            | (at_builtin
               (refine app_lit _ rfl (.tmp 36) (.tmp 39) rfl w.heap.size n c A (X) rfl (hid HE.out.own) HE.out.bel.size [UInt8.ofNat p] 1 _ HV1 rfl rfl (by have := hnk.out; omega) ?_)
               intro A1 c1 u1 O1 k1'
               have HE1 := hid (HE.out.app O1 k1')
               clear O1 k1')
            | (go_at_call 41
               (with_reducible refine (four_b v (by omega) _ _ (by rfl)).mono ?_)
               rintro e u2 ⟨A4, c4, rfl, S4, b4⟩
               have HE2 := hid (HE1.out.grow b4)
               clear HE1 b4)
            | (at_builtin
               (refine app_far u2 rfl (.tmp 40) (.tmp 42) rfl w.heap.size (n + 1) c1 A1 (X ++ [UInt8.ofNat p]) rfl (hid HE2.out.own) HE2.out.bel.size A4 4 c4 (four v) rfl S4 rfl (by have := hnk.out; omega) ?_)
               intro A5 c5 u5 O5 k5
               have HE5 := hid (HE2.out.app O5 k5)
               clear O5 k5 HE2))
          go_roundw
          case rel => exact enc_fin HY hpm hn (hsk.out _ hv.out) rfl HE5 (by go_num)
          case measure => have := hpm.out; simp only [intOf]; omega
        · by_cases h129' : p = 129
          · have hv : Hid (opV t p = some t.o) := hid (by unfold opV; rw [if_neg h18, if_neg h128, if_pos h129'])
            have ck : wr.cell? ⟨w.heap.size, 21, none⟩ = some (.int .u32 (t.o : Int)) := (HE.out.box.cell 21).trans (cs_o ht.len)
            have hl := ht.o
            obtain ⟨v, hvv⟩ : ∃ v, t.o = v := ⟨_, rfl⟩
            rw [hvv] at ck hv hl
            have g18 : decide ((p : Int) ≤ 18) = false := by simp; omega
            have g128 : ((p : Int) == 128) = false := by simp; omega
            have g129 : ((p : Int) == 129) = true := by simp; omega
            clear h18 h128 h129'
            go_wp2_with (first
              | (at_builtin
                 (refine app_lit _ rfl (.tmp 36) (.tmp 39) rfl w.heap.size n c A (X) rfl (hid HE.out.own) HE.out.bel.size [UInt8.ofNat p] 1 _ HV1 rfl rfl (by have := hnk.out; omega) ?_)
                 intro A1 c1 u1 O1 k1'
                 have HE1 := hid (HE.out.app O1 k1')
                 clear O1 k1')
              | (go_at_call 41
                 (with_reducible refine (four_b v (by omega) _ _ (by rfl)).mono ?_)
                 rintro e u2 ⟨A4, c4, rfl, S4, b4⟩
                 have HE2 := hid (HE1.out.grow b4)
                 clear HE1 b4)
              | (at_builtin
                 (refine app_far u2 rfl (.tmp 40) (.tmp 42) rfl w.heap.size (n + 1) c1 A1 (X ++ [UInt8.ofNat p]) rfl (hid HE2.out.own) HE2.out.bel.size A4 4 c4 (four v) rfl S4 rfl (by have := hnk.out; omega) ?_)
                 intro A5 c5 u5 O5 k5
                 have HE5 := hid (HE2.out.app O5 k5)
                 clear O5 k5 HE2))
            go_roundw
            case rel => exact enc_fin HY hpm hn (hsk.out _ hv.out) rfl HE5 (by go_num)
            case measure => have := hpm.out; simp only [intOf]; omega
          · have g18 : decide ((p : Int) ≤ 18) = false := by simp; omega
            have g128 : ((p : Int) == 128) = false := by simp; omega
            have g129 : ((p : Int) == 129) = false := by simp; omega
            cases hf : flagB (p : Int)
            · have hv : Hid (opV t p = none) := hid (by unfold opV; rw [if_neg h18, if_neg h128, if_neg h129', if_neg (by rw [hf]; decide)])
              clear h18 h128 h129'
              go_wp2_with (first
                | (go_at_call 30
                   (with_reducible refine (flagr_b _ hf).mono ?_)
                   rintro e u ⟨rfl, rfl⟩))
              go_roundw
              case rel => exact enc_fin0 HY hpm hn (hno.out hv.out) HE (by go_num)
              case measure => have := hpm.out; simp only [intOf]; omega
            · have HE0 := HE
              clear HE
              cases hh : hasN t.f (p : Int)
              · have hv : Hid (opV t p = some 0) := hid (by unfold opV; rw [if_neg h18, if_neg h128, if_neg h129', if_pos hf, hh]; rfl)
                clear h18 h128 h129'
                go_wp2_with (first
                  | (go_at_call 30
                     (with_reducible refine (flagr_b _ hf).mono ?_)
                     rintro e u ⟨rfl, rfl⟩)
                  | (refine ld26 (by rfl) _ (by rfl) _ (by rfl) t.cs HE0.out.box hs ?_)
                  | (go_at_call 13
                     (with_reducible refine (hasr_c _ ht hh).mono ?_)
                     rintro e u0 ⟨rfl, k0⟩
                     have HE := hid (HE0.out.grow k0.out)
                     clear k0 HE0)
                  | (at_builtin
                     (refine app_lit _ rfl (.tmp 36) (.tmp 39) rfl w.heap.size n c A (X) rfl (hid HE.out.own) HE.out.bel.size [UInt8.ofNat p] 1 _ HV1 rfl rfl (by have := hnk.out; omega) ?_)
                     intro A1 c1 u1 O1 k1'
                     have HE1 := hid (HE.out.app O1 k1')
                     clear O1 k1')
                  | (go_at_call 41
                     (with_reducible refine (four_0 _).mono ?_)
                     rintro e u2 ⟨A4, c4, rfl, S4, b4⟩
                     have HE2 := hid (HE1.out.grow b4)
                     clear HE1 b4)
                  | (at_builtin
                     (refine app_far u2 rfl (.tmp 40) (.tmp 42) rfl w.heap.size (n + 1) c1 A1 (X ++ [UInt8.ofNat p]) rfl (hid HE2.out.own) HE2.out.bel.size A4 4 c4 (four 0) rfl S4 rfl (by have := hnk.out; omega) ?_)
                     intro A5 c5 u5 O5 k5
                     have HE5 := hid (HE2.out.app O5 k5)
                     clear O5 k5 HE2))
                go_roundw
                case rel => exact enc_fin HY hpm hn (hsk.out _ hv.out) rfl HE5 (by go_num)
                case measure => have := hpm.out; simp only [intOf]; omega
              · have hv : Hid (opV t p = some 1) := hid (by unfold opV; rw [if_neg h18, if_neg h128, if_neg h129', if_pos hf, hh]; rfl)
                clear h18 h128 h129'
                go_wp2_with (first
                  | (go_at_call 30
                     (with_reducible refine (flagr_b _ hf).mono ?_)
                     rintro e u ⟨rfl, rfl⟩)
                  | (refine ld26 (by rfl) _ (by rfl) _ (by rfl) t.cs HE0.out.box hs ?_)
                  | (go_at_call 13
                     (with_reducible refine (hasr_c _ ht hh).mono ?_)
                     rintro e u0 ⟨rfl, k0⟩
                     have HE := hid (HE0.out.grow k0.out)
                     clear k0 HE0)
                  | (at_builtin
                     (refine app_lit _ rfl (.tmp 36) (.tmp 39) rfl w.heap.size n c A (X) rfl (hid HE.out.own) HE.out.bel.size [UInt8.ofNat p] 1 _ HV1 rfl rfl (by have := hnk.out; omega) ?_)
                     intro A1 c1 u1 O1 k1'
                     have HE1 := hid (HE.out.app O1 k1')
                     clear O1 k1')
                  | (go_at_call 41
                     (with_reducible refine (four_1 _).mono ?_)
                     rintro e u2 ⟨A4, c4, rfl, S4, b4⟩
                     have HE2 := hid (HE1.out.grow b4)
                     clear HE1 b4)
                  | (at_builtin
                     (refine app_far u2 rfl (.tmp 40) (.tmp 42) rfl w.heap.size (n + 1) c1 A1 (X ++ [UInt8.ofNat p]) rfl (hid HE2.out.own) HE2.out.bel.size A4 4 c4 (four 1) rfl S4 rfl (by have := hnk.out; omega) ?_)
                     intro A5 c5 u5 O5 k5
                     have HE5 := hid (HE2.out.app O5 k5)
                     clear O5 k5 HE2))
                go_roundw
                case rel => exact enc_fin HY hpm hn (hsk.out _ hv.out) rfl HE5 (by go_num)
                case measure => have := hpm.out; simp only [intOf]; omega
    · have hEk : encL t k = E := by rw [← hE.out, show k = 129 by omega]
      have hpi : (p : Int) = 130 := by omega
      rw [hpi]
      rw [hEk] at hn HE
      clear hn5 hp hpi hEk hk h129
      have hn7 : n ≤ 700 := by have := hn.out; have := hEl.out; omega
      go_wp2_with (first
        | (at_builtin
           (refine app_lit _ rfl (.tmp 44) (.tmp 45) rfl w.heap.size n c A E rfl (hid HE.out.own) HE.out.bel.size [0] 1 _ rfl rfl rfl (by omega) ?_)
           intro A1 c1 u1 O1 k1'
           have HE1 := hid (HE.out.app O1 k1')
           clear O1 k1'))
      go_ret
      exact ⟨A1, n + 1, c1, rfl, by rw [List.length_append, hn.out]; rfl, hid (slb_own HE1.out.own (by rw [List.length_append, hn.out]; rfl)), hid HE1.out.bel⟩
end Go.Proofs.Ytgkcappcjlfloaa
