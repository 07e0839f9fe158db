import Derived.Test.YteeienmigoebmaaGreatDoorKE
import Derived.Deep.AppendLies
import Derived.Deep.MidRow
import Derived.Deep.RegionHeld3
import Derived.Deep.RegionLaw
namespace Go.Proofs.YteeienmigoebmaaGreatDoor
namespace L19
open Go.RowKit L18

/-! Layer 19, the program's side: a text that is read. -/
def firstP : List UInt8 → Option (UInt8 × Nat)
  | [] => none
  | c :: r => if itself c = true then some (c, 1) else if c ≠ 92 then none else match r with
    | x :: y :: _ => match unhex x, unhex y with
      | some a, some b => if itself (16 * a + b) = true then none else some (16 * a + b, 3)
      | _, _ => none
    | _ => none
theorem plain_first (c : UInt8) (r : List UInt8) : plain (c :: r) = (firstP (c :: r)).bind fun p => (plain ((c :: r).drop p.2)).map (p.1 :: ·) := by
  conv => lhs; unfold plain
  unfold firstP
  by_cases h : itself c = true
  · simp only [if_pos h]
    rfl
  · simp only [if_neg h]
    by_cases h2 : c ≠ 92
    · simp only [if_pos h2]
      rfl
    · simp only [if_neg h2]
      match r with
      | [] => rfl
      | [x] => rfl
      | x :: y :: q =>
        simp only
        cases unhex x with
        | none => rfl
        | some a =>
          cases unhex y with
          | none => rfl
          | some b =>
            simp only
            split <;> rfl
theorem ix_hex (x : UInt8) : Lib.indexByte hexs x = match unhex x with | some a => (a.toNat : Int) | none => -1 := by
  revert x
  exact all256 (by decide +kernel)
theorem unhex_lt {x a : UInt8} (h : unhex x = some a) : a.toNat < 16 := by
  have key : ∀ x : UInt8, ∀ a, unhex x = some a → a.toNat < 16 := by
    intro x
    have h1 : ∀ x : UInt8, (match unhex x with | some a => decide (a.toNat < 16) | none => true) = true := fun x => all256 (P := fun x => (match unhex x with | some a => decide (a.toNat < 16) | none => true) = true) (by decide +kernel) x
    intro a ha
    have := h1 x
    rw [ha] at this
    simpa using this
  exact key x a h
theorem or_hex {a b c : UInt8} (ha : a.toNat < 16) (hb : b.toNat < 16) (hc : 16 * a + b = c) : bits .or .i64 ((a.toNat : Int) * 16) (b.toNat : Int) % 256 = (c.toNat : Int) := by
  subst hc
  have h : ∀ i j : Fin 16, bits .or .i64 ((i.1 : Int) * 16) (j.1 : Int) % 256 = ((16 * UInt8.ofNat i.1 + UInt8.ofNat j.1).toNat : Int) := by decide +kernel
  have := h ⟨a.toNat, ha⟩ ⟨b.toNat, hb⟩
  simpa using this
section
variable (w : World)
theorem hexix_any {x : UInt8} {z : Int} (hz : Hid ((match unhex x with | some a => (a.toNat : Int) | none => -1) = z)) : Calls Tryz.prog 111 #[.string ⟨#[48, 49, 50, 51, 52, 53, 54, 55, 56, 57, 97, 98, 99, 100, 101, 102]⟩, .int .u8 (x.toNat : Int)] w fun e w' => e = .returned (.int .i64 z) ∧ w' = w :=
  (Tryz.strings_IndexByte (bs hexs) (x.toNat : Int) w).mono fun e w' h => by
    obtain ⟨rfl, rfl⟩ := h
    have e1 : (bs hexs).data.toList = hexs := by simp [bs]
    rw [e1, Int.toNat_natCast, show x.toNat.toUInt8 = x by simp, ix_hex, hz.out]
    exact ⟨rfl, rfl⟩
set_option maxRecDepth 100000 in
set_option maxHeartbeats 4000000 in
theorem first_self (c : UInt8) (r : List UInt8) (hi : Hid (itself c = true)) : Calls Tryz.prog 94 #[.string (bs (c :: r))] w fun e w' => e = .returned (.tuple #[.int .u8 (c.toNat : Int), .int .i64 1, .bool true]) ∧ Hid (Below w.heap.size w w') := by
  have hs : (bs (c :: r)).size = r.length + 1 := by rw [bs_size]; rfl
  have hx2 : ∀ h : 0 < (bs (c :: r)).size, (bs (c :: r))[0]'h = c := fun h => rfl
  have hp : (0 : Int) < (r.length : Int) + 1 := by omega
  have HI := hid (itselfp_any w hi)
  obtain ⟨z, hz⟩ : ∃ z : Int, (c.toNat : Int) = z := ⟨_, rfl⟩
  rw [hz] at HI ⊢
  go_enter Tryz.func94, Tryz.ntmps94
  go_wp2_with (first
    | (go_at_call 95
       (with_reducible refine HI.out.mono ?_)
       rintro e w1 ⟨rfl, hw⟩
       obtain rfl := hw.symm))
  refine bodyPost_ret (v := .tuple #[.int .u8 z, .int .i64 1, .bool true]) (by simp [results, go_sem]) rfl ?_
  exact ⟨rfl, hid (Below.refl _ _)⟩
set_option maxRecDepth 100000 in
set_option maxHeartbeats 4000000 in
theorem first_no (c : UInt8) (r : List UInt8) (hi : Hid (itself c = false)) (hb : Hid (c ≠ 92 ∨ r.length < 2)) : Calls Tryz.prog 94 #[.string (bs (c :: r))] w fun e w' => e = .returned (.tuple #[.int .u8 0, .int .i64 0, .bool false]) ∧ Hid (Below w.heap.size w w') := by
  have hs : (bs (c :: r)).size = r.length + 1 := by rw [bs_size]; rfl
  have hx2 : ∀ h : 0 < (bs (c :: r)).size, (bs (c :: r))[0]'h = c := fun h => rfl
  have hp : (0 : Int) < (r.length : Int) + 1 := by omega
  have HI := hid (itselfp_any w hi)
  obtain ⟨z, hz⟩ : ∃ z : Int, (c.toNat : Int) = z := ⟨_, rfl⟩
  rw [hz] at HI
  by_cases h9 : z = 92
  · have hr : r.length < 2 := by
      rcases hb.out with h | h
      · refine absurd ?_ h
        apply UInt8.toNat_inj.1
        show c.toNat = 92
        omega
      · exact h
    have hr2 : (r.length : Int) + 1 < 3 := by omega
    have tb : (z != 92) = false := by simp [h9]
    clear hb h9
    go_enter Tryz.func94, Tryz.ntmps94
    go_wp2_with (first
      | (go_at_call 95
         (with_reducible refine HI.out.mono ?_)
         rintro e w1 ⟨rfl, hw⟩
         obtain rfl := hw.symm))
    refine bodyPost_ret (v := .tuple #[.int .u8 0, .int .i64 0, .bool false]) (by simp [results, go_sem]) rfl ?_
    exact ⟨rfl, hid (Below.refl _ _)⟩
  · have tb : (z != 92) = true := by simp [h9]
    clear hb h9
    go_enter Tryz.func94, Tryz.ntmps94
    go_wp2_with (first
      | (go_at_call 95
         (with_reducible refine HI.out.mono ?_)
         rintro e w1 ⟨rfl, hw⟩
         obtain rfl := hw.symm))
    refine bodyPost_ret (v := .tuple #[.int .u8 0, .int .i64 0, .bool false]) (by simp [results, go_sem]) rfl ?_
    exact ⟨rfl, hid (Below.refl _ _)⟩
set_option maxRecDepth 100000 in
set_option maxHeartbeats 4000000 in
theorem first_two (x y : UInt8) (q : List UInt8) {hx hy : Int} (hhx : Hid ((match unhex x with | some a => (a.toNat : Int) | none => -1) = hx)) (hhy : Hid ((match unhex y with | some a => (a.toNat : Int) | none => -1) = hy)) (hb : Hid (hx < 0 ∨ hy < 0)) : Calls Tryz.prog 94 #[.string (bs (92 :: x :: y :: q))] w fun e w' => e = .returned (.tuple #[.int .u8 0, .int .i64 0, .bool false]) ∧ Hid (Below w.heap.size w w') := by
  have hs : (bs (92 :: x :: y :: q)).size = q.length + 3 := by rw [bs_size]; rfl
  have hx0 : ∀ h : 0 < (bs (92 :: x :: y :: q)).size, (bs (92 :: x :: y :: q))[0]'h = 92 := fun h => rfl
  have hx1 : ∀ h : 1 < (bs (92 :: x :: y :: q)).size, (bs (92 :: x :: y :: q))[1]'h = x := fun h => rfl
  have hx2 : ∀ h : 2 < (bs (92 :: x :: y :: q)).size, (bs (92 :: x :: y :: q))[2]'h = y := fun h => rfl
  have hp : (0 : Int) < (q.length : Int) + 3 := by omega
  have hp1 : (1 : Int) < (q.length : Int) + 3 := by omega
  have hp2 : (2 : Int) < (q.length : Int) + 3 := by omega
  have hp3 : ¬ (q.length : Int) + 3 < 3 := by omega
  have HI : Hid (Calls Tryz.prog 95 #[.int .u8 92] w fun e w' => e = .returned (.bool false) ∧ w' = w) := hid (itselfp_any w (c := 92) (hid (by decide)))
  go_enter Tryz.func94, Tryz.ntmps94
  go_upto_region 5 with (first
    | (go_at_call 95
       (with_reducible refine HI.out.mono ?_)
       rintro e w1 ⟨rfl, hw⟩
       obtain rfl := hw.symm))
  go_cut [5, 6] (fun sa sb wx => sa = .int .i64 (hx) ∧ sb = .int .i64 (hy) ∧ Hid (Below w.heap.size w wx))
  case first =>
    go_region_held3 (fun _ => True) (trivial) ((first
      | (go_at_call 111
         (first
          | (with_reducible refine (hexix_any _ hhx).mono ?_)
          | (with_reducible refine (hexix_any _ hhy).mono ?_))
         rintro e w6 ⟨rfl, hw⟩
         obtain rfl := hw.symm)))
    all_goals
      go_wp2_with fail
      go_meet
      exact ⟨rfl, rfl, hid (by repeat (first | exact Below.refl _ _ | with_reducible apply bel_d))⟩
  case rest =>
  obtain ⟨rfl, rfl, K5⟩ := hcut
  rcases hb.out with h | h
  · clear hb
    go_wp2
    refine bodyPost_ret (v := .tuple #[.int .u8 0, .int .i64 0, .bool false]) (by simp [results, go_sem]) rfl ?_
    exact ⟨rfl, K5⟩
  · clear hb
    by_cases h3 : hx < 0
    · go_wp2
      refine bodyPost_ret (v := .tuple #[.int .u8 0, .int .i64 0, .bool false]) (by simp [results, go_sem]) rfl ?_
      exact ⟨rfl, K5⟩
    · go_wp2
      refine bodyPost_ret (v := .tuple #[.int .u8 0, .int .i64 0, .bool false]) (by simp [results, go_sem]) rfl ?_
      exact ⟨rfl, K5⟩
set_option maxRecDepth 100000 in
set_option maxHeartbeats 4000000 in
theorem first_hex (x y : UInt8) (q : List UInt8) {a b c : UInt8} (ha : Hid (unhex x = some a)) (hb : Hid (unhex y = some b)) (hc : Hid (16 * a + b = c)) {r : Bool} (hr : Hid (itself c = r)) : Calls Tryz.prog 94 #[.string (bs (92 :: x :: y :: q))] w fun e w' => e = .returned (if r = true then .tuple #[.int .u8 0, .int .i64 0, .bool false] else .tuple #[.int .u8 (c.toNat : Int), .int .i64 3, .bool true]) ∧ Hid (Below w.heap.size w w') := by
  have hs : (bs (92 :: x :: y :: q)).size = q.length + 3 := by rw [bs_size]; rfl
  have hx0 : ∀ h : 0 < (bs (92 :: x :: y :: q)).size, (bs (92 :: x :: y :: q))[0]'h = 92 := fun h => rfl
  have hx1 : ∀ h : 1 < (bs (92 :: x :: y :: q)).size, (bs (92 :: x :: y :: q))[1]'h = x := fun h => rfl
  have hx2 : ∀ h : 2 < (bs (92 :: x :: y :: q)).size, (bs (92 :: x :: y :: q))[2]'h = y := fun h => rfl
  have hp : (0 : Int) < (q.length : Int) + 3 := by omega
  have hp1 : (1 : Int) < (q.length : Int) + 3 := by omega
  have hp2 : (2 : Int) < (q.length : Int) + 3 := by omega
  have hp3 : ¬ (q.length : Int) + 3 < 3 := by omega
  have HI : Hid (Calls Tryz.prog 95 #[.int .u8 92] w fun e w' => e = .returned (.bool false) ∧ w' = w) := hid (itselfp_any w (c := 92) (hid (by decide)))
  have hhx : Hid ((match unhex x with | some a => (a.toNat : Int) | none => -1) = (a.toNat : Int)) := hid (by rw [ha.out])
  have hhy : Hid ((match unhex y with | some a => (a.toNat : Int) | none => -1) = (b.toNat : Int)) := hid (by rw [hb.out])
  have HJ := hid (itselfp_any w hr)
  have a16 := unhex_lt ha.out
  have b16 := unhex_lt hb.out
  go_enter Tryz.func94, Tryz.ntmps94
  go_upto_region 5 with (first
    | (go_at_call 95
       (with_reducible refine HI.out.mono ?_)
       rintro e w1 ⟨rfl, hw⟩
       obtain rfl := hw.symm))
  go_cut [5, 6] (fun sa sb wx => sa = .int .i64 ((a.toNat : Int)) ∧ sb = .int .i64 ((b.toNat : Int)) ∧ Hid (Below w.heap.size w wx))
  case first =>
    go_region_held3 (fun _ => True) (trivial) ((first
      | (go_at_call 111
         (first
          | (with_reducible refine (hexix_any _ hhx).mono ?_)
          | (with_reducible refine (hexix_any _ hhy).mono ?_))
         rintro e w6 ⟨rfl, hw⟩
         obtain rfl := hw.symm)))
    all_goals
      go_wp2_with fail
      go_meet
      exact ⟨rfl, rfl, hid (by repeat (first | exact Below.refl _ _ | with_reducible apply bel_d))⟩
  case rest =>
  obtain ⟨rfl, rfl, K5⟩ := hcut
  have n1 : ¬ (a.toNat : Int) < 0 := by omega
  have n2 : ¬ (b.toNat : Int) < 0 := by omega
  have HO := or_hex a16 b16 hc.out
  have HJ2 := hid (itselfp_any wc hr)
  obtain ⟨z, hz⟩ : ∃ z : Int, (c.toNat : Int) = z := ⟨_, rfl⟩
  rw [hz] at HO HJ2
  have HZ := hid hz
  clear hz hc
  cases r
  · go_wp2_with (first
      | (go_at_call 95
         (with_reducible refine HJ2.out.mono ?_)
         rintro e w1 ⟨rfl, hw⟩
         obtain rfl := hw.symm))
    refine bodyPost_ret (v := .tuple #[.int .u8 z, .int .i64 3, .bool true]) (by simp [results, go_sem]) rfl ?_
    exact ⟨by simp [HZ.out], K5⟩
  · go_wp2_with (first
      | (go_at_call 95
         (with_reducible refine HJ2.out.mono ?_)
         rintro e w1 ⟨rfl, hw⟩
         obtain rfl := hw.symm))
    refine bodyPost_ret (v := .tuple #[.int .u8 0, .int .i64 0, .bool false]) (by simp [results, go_sem]) rfl ?_
    exact ⟨by simp, K5⟩
/-- The first byte of a text that isn't empty. -/
def firstV : Option (UInt8 × Nat) → Value
  | some (c, k) => .tuple #[.int .u8 (c.toNat : Int), .int .i64 (k : Int), .bool true]
  | none => .tuple #[.int .u8 0, .int .i64 0, .bool false]
theorem first_any (c : UInt8) (r : List UInt8) {v : Value} (hv : Hid (firstV (firstP (c :: r)) = v)) : Calls Tryz.prog 94 #[.string (bs (c :: r))] w fun e w' => e = .returned v ∧ Hid (Below w.heap.size w w') := by
  rw [← hv.out]
  unfold firstP
  by_cases h1 : itself c = true
  · simp only [if_pos h1]
    exact first_self w c r (hid h1)
  · simp only [if_neg h1]
    have h1' : itself c = false := by simpa using h1
    by_cases h2 : c ≠ 92
    · simp only [if_pos h2]
      exact first_no w c r (hid h1') (hid (.inl h2))
    · simp only [if_neg h2]
      have h3 : c = 92 := by simpa using h2
      subst h3
      match r with
      | [] => exact first_no w 92 [] (hid h1') (hid (.inr (by simp)))
      | [x] => exact first_no w 92 [x] (hid h1') (hid (.inr (by simp)))
      | x :: y :: q =>
        simp only
        cases hx : unhex x with
        | none => exact first_two w x y q (hx := -1) (hid (by rw [hx])) (hid rfl) (hid (.inl (by decide)))
        | some a =>
          cases hy : unhex y with
          | none => exact first_two w x y q (hy := -1) (hid rfl) (hid (by rw [hy])) (hid (.inr (by decide)))
          | some b =>
            simp only
            have := first_hex w x y q (hid hx) (hid hy) (hid rfl) (hid rfl)
            by_cases h4 : itself (16 * a + b) = true
            · simp only [if_pos h4] at this ⊢
              exact this
            · simp only [if_neg h4] at this ⊢
              exact this
end
end L19
end Go.Proofs.YteeienmigoebmaaGreatDoor
namespace Go.Proofs.YteeienmigoebmaaGreatDoor
namespace L19
open Go.RowKit L18

/-! Layer 19, the program's side: what stands behind a word, read. -/
def strLen : Value → Nat
  | .string b => b.size
  | _ => 0
theorem bs_drop (l : List UInt8) (k : Nat) {n : Nat} (hn : l.length = n) : (bs l).extract k n = bs (l.drop k) := by
  subst hn
  apply ByteArray.ext
  simp [bs, List.take_of_length_le]
theorem first_le {s : List UInt8} {c : UInt8} {k : Nat} (h : firstP s = some (c, k)) : 1 ≤ k ∧ k ≤ 3 ∧ k ≤ s.length := by
  unfold firstP at h
  split at h
  · cases h
  · rename_i c r
    split at h
    · injection h with h
      injection h with _ h
      subst h
      simp
    · split at h
      · cases h
      · split at h
        · split at h
          · split at h
            · cases h
            · injection h with h
              injection h with _ h
              subst h
              simp
          · cases h
        · cases h
def unqV : Option (List UInt8) → Value
  | some t => .tuple #[.string (bs t), .bool true]
  | none => .tuple #[.string ⟨#[]⟩, .bool false]
set_option maxRecDepth 100000 in
set_option maxHeartbeats 4000000 in
theorem unquote_any (w : World) {s : List UInt8} (hl : s.length ≤ 262144) {r : Option (List UInt8)} (hr : Hid (plain s = r)) : Calls Tryz.prog 79 #[.string (bs s)] w fun e w' => e = .returned (unqV r) ∧ Hid (Below w.heap.size w w') := by
  go_enter Tryz.func79, Tryz.ntmps79
  go_wp2
  go_loopw [0, 4] (fun sv bv wr => ∃ (q dn : List UInt8) (m : Nat) (A : Option Addr) (c : Nat), sv = .string (bs q) ∧ bv = .slice A m c ∧ Hid (dn.length = m) ∧ m + q.length ≤ 262144 ∧ Hid (wr.ownsRow w.heap.size 5 1 (.slice A m c) m (byC dn)) ∧ Hid ((plain q).map (dn ++ ·) = r) ∧ Hid (Below w.heap.size w wr)) (fun sv _ _ => strLen sv)
  case atStart => exact ⟨s, [], 0, none, 0, rfl, rfl, hid rfl, by omega, hid (World.ownsRow_nil _ _ _ _), hid (by rw [← hr.out]; cases plain s <;> simp), hid (Below.refl _ _)⟩
  case round =>
    obtain ⟨q, dn, m, A, c, rfl, rfl, HM, hm, HO, HR, HB⟩ := hrel
    cases q with
    | nil =>
      have hrr : some dn = r := by have := HR.out; simpa [plain] using this
      subst hrr
      have hsz : (bs []).size = 0 := rfl
      have hms := HM.out
      subst hms
      have cv : (convert 66 9 (.slice A dn.length c)).run Tryz.prog wr = .ok (.string (bs dn)) wr := str_of wr _ A c dn (Lies.own HO.out)
      clear HR
      go_wp2
      go_ret2
      exact ⟨rfl, HB⟩
    | cons b q =>
      have hsz : (bs (b :: q)).size = q.length + 1 := by rw [bs_size]; rfl
      have hp : (0 : Int) < (q.length : Int) + 1 := by omega
      cases hf : firstP (b :: q) with
      | none =>
        have hrr : none = r := by
          have := HR.out
          rw [plain_first, hf] at this
          simpa using this
        subst hrr
        have HV : Hid (firstV (firstP (b :: q)) = .tuple #[.int .u8 0, .int .i64 0, .bool false]) := hid (by rw [hf]; rfl)
        clear hf HR
        go_wp2_with (first
          | (go_at_call 94
             (with_reducible refine (first_any _ b q HV).mono ?_)
             rintro e w1 ⟨rfl, C1⟩))
        go_ret2
        exact ⟨rfl, below_in HB C1 HB.out.size⟩
      | some p =>
        obtain ⟨x, k⟩ := p
        obtain ⟨k1, k3, kl⟩ := first_le hf
        have HV : Hid (firstV (firstP (b :: q)) = .tuple #[.int .u8 (x.toNat : Int), .int .i64 (k : Int), .bool true]) := hid (by rw [hf]; rfl)
        have hk0 : (0 : Int) ≤ k := by omega
        have hkl : (k : Int) ≤ (q.length : Int) + 1 := by simp at kl; omega
        have hz := HB.out.size
        have hmx : m + 1 ≤ maxLen := by unfold maxLen; omega
        have HR2 : Hid ((plain ((b :: q).drop k)).map ((dn ++ [x]) ++ ·) = r) := hid (by
          rw [← HR.out, plain_first, hf]
          simp only [Option.bind_some, Option.map_map]
          congr 1
          funext z
          simp)
        clear hf
        go_wp2_with (first
          | (go_at_call 94
             (with_reducible refine (first_any _ b q HV).mono ?_)
             rintro e w1 ⟨rfl, C1⟩
             have B8 : Below w1.heap.size w1 (w1.alloc (.cells #[.int .u8 (x.toNat : Int)] 5)) := (Below.refl _ w1).alloc (Nat.le_refl _) _
             have O8 := hid (own_keep (own_keep HO.out C1.out) B8)
             have L8 := hid (lies_row w1 5 (byC [x]) #[.int .u8 (x.toNat : Int)] w1.heap.size rfl rfl)
             have HB8 := below_in (below_in HB C1 hz) (hid B8) (Nat.le_trans hz C1.out.size)
             have hz8 := HB8.out.size)
          | (at_builtin
             (refine app_row 66 5 1 1 _ Tryz.underlying66 infoU8 rfl (by decide) _ (by rfl) (.tmp 19) (.tmp 21) rfl w.heap.size m 1 c A (byC dn) (byC [x]) rfl O8 hz8 (some ⟨w1.heap.size, 0, none⟩) 1 rfl L8 rfl (byC_one _) hmx (by omega) ?_)
             intro A5 c5 u5 o5 k5))
        have hd : (bs (b :: q)).extract k (q.length + 1) = bs ((b :: q).drop k) := bs_drop (b :: q) k rfl
        have hdl : ((b :: q).drop k).length + k = q.length + 1 := by
          rw [List.length_drop]
          simp at kl ⊢
          omega
        have O5 : Hid (u5.ownsRow w.heap.size 5 1 (.slice A5 (m + 1) c5) (m + 1) (byC (dn ++ [x]))) := hid (by rw [byC_app]; exact o5.out)
        have B5 : Hid (Below w.heap.size w u5) := hid (HB8.out.trans (k5.out.below hz8))
        have HM2 : Hid ((dn ++ [x]).length = m + 1) := hid (by rw [List.length_append, HM.out]; rfl)
        have hm2 : m + 1 + ((b :: q).drop k).length ≤ 262144 := by simp at hm; omega
        go_roundw
        case rel => exact ⟨(b :: q).drop k, dn ++ [x], m + 1, A5, c5, by rw [hd], rfl, HM2, hm2, O5, HR2, B5⟩
        case measure =>
          rw [hd]
          show (bs ((b :: q).drop k)).size < (bs (b :: q)).size
          rw [bs_size, hsz]
          omega
end L19
end Go.Proofs.YteeienmigoebmaaGreatDoor
namespace Go.Proofs.YteeienmigoebmaaGreatDoor
namespace L19
open Go.RowKit L18

/-! Layer 19, the program's side: what stands behind a word, read. -/
def valsR : List (List UInt8) → Option (List Nat)
  | [] => some []
  | x :: r => (number x).bind fun v => (valsR r).map (v :: ·)
def tailR (n : Nat) (b : List UInt8) : Option (Nat × Nat × List UInt8) :=
  if n = 9 then (match b with | 32 :: r => (plain r).map fun t => (0, 0, t) | _ => none)
  else if (cutL 32 b).tail.length = n then (valsR (cutL 32 b).tail).map fun vs => (vs.getD 0 0, vs.getD 1 0, []) else none
def readV : Option (Nat × Nat × List UInt8) → Value
  | some (a, b, t) => .tuple #[.agg #[.int .i64 0, .int .i64 (a : Int), .int .i64 (b : Int), .string (bs t)], .bool true]
  | none => .tuple #[.agg #[.int .i64 0, .int .i64 0, .int .i64 0, .string ⟨#[]⟩], .bool false]
theorem box4 {W : World} {g : Nat} {T : TypeId} {b0 b1 b2 b3 : Value} (q : Hid (Box W g T #[b0, b1, b2, b3])) (a0 a1 a2 a3 : Value) : Box ((((W.setCell ⟨g, 0, none⟩ a0).setCell ⟨g, 1, none⟩ a1).setCell ⟨g, 2, none⟩ a2).setCell ⟨g, 3, none⟩ a3) g T #[a0, a1, a2, a3] := by simpa using (((q.out.store 0 a0).store 1 a1).store 2 a2).store 3 a3
theorem op_size : (Tryz.prog.info? 46).map (·.size) = some 4 := by kernel_rfl
theorem bel_4 {u w : World} {g : Nat} (h : Hid (Below u.heap.size u w)) (hg : u.heap.size ≤ g) (a0 a1 a2 a3 : Value) : Hid (Below u.heap.size u ((((w.setCell ⟨g, 0, none⟩ a0).setCell ⟨g, 1, none⟩ a1).setCell ⟨g, 2, none⟩ a2).setCell ⟨g, 3, none⟩ a3)) :=
  hid ((((h.out.setCell (p := ⟨g, 0, none⟩) hg a0).setCell (p := ⟨g, 1, none⟩) hg a1).setCell (p := ⟨g, 2, none⟩) hg a2).setCell (p := ⟨g, 3, none⟩) hg a3)
theorem bel_in4 {u v w : World} {g : Nat} (h : Hid (Below v.heap.size v u)) (k : Hid (Below u.heap.size u w)) (hg : v.heap.size ≤ g) (a0 a1 a2 a3 : Value) : Hid (Below v.heap.size v ((((w.setCell ⟨g, 0, none⟩ a0).setCell ⟨g, 1, none⟩ a1).setCell ⟨g, 2, none⟩ a2).setCell ⟨g, 3, none⟩ a3)) :=
  bel_4 (bel_3 h k) hg a0 a1 a2 a3
set_option maxRecDepth 100000 in
set_option maxHeartbeats 4000000 in
theorem readQ_any (w : World) {b : List UInt8} (hl : b.length ≤ 262144) {r : Option (Nat × Nat × List UInt8)} (hr : Hid (tailR 9 b = r)) : Calls Tryz.prog 61 #[.agg #[], .string (bs b)] w fun e w' => e = .returned (readV r) ∧ Hid (Below w.heap.size w w') := by
  have hrr := hr.out
  clear hr
  unfold tailR at hrr
  rw [if_pos rfl] at hrr
  go_enter Tryz.func61, Tryz.ntmps61
  go_upto_region 1 with fail
  obtain ⟨u, hu⟩ : ∃ z, z = (w.alloc (.cells #[] 91)).alloc (.cells #[.int .i64 0, .int .i64 0, .int .i64 0, .string ⟨#[]⟩] 46) := ⟨_, rfl⟩
  obtain ⟨g, hg⟩ : ∃ z, w.heap.size + 1 = z := ⟨_, rfl⟩
  have XB : Hid (Box u g 46 #[.int .i64 0, .int .i64 0, .int .i64 0, .string ⟨#[]⟩]) := hid (by
    rw [hu, ← hg]
    have := Box.new (w.alloc (.cells #[] 91)) 46 #[.int .i64 0, .int .i64 0, .int .i64 0, .string ⟨#[]⟩]
    simpa using this)
  have K1 : Hid (Below w.heap.size w u) := hid (by rw [hu]; exact ((Below.refl _ w).alloc (Nat.le_refl _) _).alloc (by simp) _)
  have hwg : w.heap.size ≤ g := by omega
  rw [← hu]
  simp only [hg]
  clear hu hg
  have bz : ∀ W, Hid (Below u.heap.size u W) → (W.cell? ⟨g, 0, none⟩ = some (.int .i64 0) ∧ W.cell? ⟨g, 1, none⟩ = some (.int .i64 0) ∧ W.cell? ⟨g, 2, none⟩ = some (.int .i64 0) ∧ W.cell? ⟨g, 3, none⟩ = some (.string ⟨#[]⟩)) ∧ (W.frozen? ⟨g, 0, none⟩ = false ∧ W.frozen? ⟨g, 1, none⟩ = false ∧ W.frozen? ⟨g, 2, none⟩ = false ∧ W.frozen? ⟨g, 3, none⟩ = false) ∧ Hid (Box W g 46 #[.int .i64 0, .int .i64 0, .int .i64 0, .string ⟨#[]⟩]) := fun W h => by
    have X := box_below XB.out h.out
    exact ⟨⟨X.cell 0, X.cell 1, X.cell 2, X.cell 3⟩, ⟨X.frozen 0, X.frozen 1, X.frozen 2, X.frozen 3⟩, hid X⟩
  obtain ⟨⟨z0, z1, z2, z3⟩, ⟨y0, y1, y2, y3⟩, XU⟩ := bz u (hid (Below.refl _ _))
  by_cases h32 : b.head? = some 32
  · obtain ⟨q, rfl⟩ : ∃ q, b = 32 :: q := by
      cases b with
      | nil => cases h32
      | cons c q => exact ⟨q, by simp at h32; rw [h32]⟩
    simp only at hrr
    have hql : q.length ≤ 262144 := by simp at hl; omega
    cases hp : plain q with
    | none =>
      rw [hp] at hrr
      have hr0 : none = r := by simpa using hrr
      subst hr0
      have HP : Hid (plain q = none) := hid hp
      have HQ := hid (unquote_any u hql HP)
      clear hrr hp h32
      go_wp2_with (first
        | (go_at_call 78
           (with_reducible refine (prefix_yes _ q).mono ?_)
           rintro e w1 ⟨rfl, hw⟩
           obtain rfl := hw.symm)
        | (go_at_call 79
           (with_reducible refine HQ.out.mono ?_)
           rintro e w2 ⟨rfl, C2⟩
           obtain ⟨⟨z0, z1, z2, z3⟩, ⟨y0, y1, y2, y3⟩, XU⟩ := bz w2 C2
           simp only [unqV]))
      refine bodyPost_ret (v := .tuple #[.agg #[.int .i64 0, .int .i64 0, .int .i64 0, .string ⟨#[]⟩], .bool false]) (results_cellG2 rfl Tryz.underlying46 rfl op_size (by rfl) (by rfl) (box4 XU (.int .i64 0) (.int .i64 0) (.int .i64 0) (.string ⟨#[]⟩))) rfl ?_
      exact ⟨rfl, bel_in4 K1 C2 hwg _ _ _ _⟩
    | some t =>
      rw [hp] at hrr
      have hr0 : some (0, 0, t) = r := by simpa using hrr
      subst hr0
      have HP : Hid (plain q = some t) := hid hp
      have HQ := hid (unquote_any u hql HP)
      clear hrr hp h32
      go_wp2_with (first
        | (go_at_call 78
           (with_reducible refine (prefix_yes _ q).mono ?_)
           rintro e w1 ⟨rfl, hw⟩
           obtain rfl := hw.symm)
        | (go_at_call 79
           (with_reducible refine HQ.out.mono ?_)
           rintro e w2 ⟨rfl, C2⟩
           obtain ⟨⟨z0, z1, z2, z3⟩, ⟨y0, y1, y2, y3⟩, XU⟩ := bz w2 C2
           simp only [unqV]))
      refine bodyPost_ret (v := .tuple #[.agg #[.int .i64 0, .int .i64 0, .int .i64 0, .string (bs t)], .bool true]) (results_cellG2 rfl Tryz.underlying46 rfl op_size (by rfl) (by rfl) (box4 XU (.int .i64 0) (.int .i64 0) (.int .i64 0) (.string (bs t)))) rfl ?_
      exact ⟨rfl, bel_in4 K1 C2 hwg _ _ _ _⟩
  · have hr0 : none = r := by
      rw [← hrr]
      cases b with
      | nil => rfl
      | cons c q =>
        split
        · rename_i he
          injection he with he _
          exact absurd (by simp [he]) h32
        · rfl
    subst hr0
    have HH := hid h32
    clear hrr h32
    go_wp2_with (first
      | (go_at_call 78
         (with_reducible refine (prefix_no _ HH).mono ?_)
         rintro e w1 ⟨rfl, hw⟩
         obtain rfl := hw.symm))
    refine bodyPost_ret (v := .tuple #[.agg #[.int .i64 0, .int .i64 0, .int .i64 0, .string ⟨#[]⟩], .bool false]) (results_cellG2 rfl Tryz.underlying46 rfl op_size (by rfl) (by rfl) (box4 XU (.int .i64 0) (.int .i64 0) (.int .i64 0) (.string ⟨#[]⟩))) rfl ?_
    exact ⟨rfl, bel_in4 K1 (hid (Below.refl _ _)) hwg _ _ _ _⟩
end L19
end Go.Proofs.YteeienmigoebmaaGreatDoor
namespace Go.Proofs.YteeienmigoebmaaGreatDoor
namespace L19
open Go.RowKit L18

/-! Layer 19, the program's side: numbers behind a word, read. -/
theorem vals_len : ∀ (l : List (List UInt8)) (vs : List Nat), valsR l = some vs → vs.length = l.length
  | [], vs, h => by simp [valsR] at h; subst h; rfl
  | x :: r, vs, h => by
    simp only [valsR, Option.bind_eq_some_iff, Option.map_eq_some_iff] at h
    obtain ⟨v, _, ws, hw, rfl⟩ := h
    simp [vals_len r ws hw]
theorem piece_len : ∀ (d : UInt8) (s : List UInt8), ∀ x ∈ cutL d s, x.length ≤ s.length := by
  intro d s x hx
  have hj := cut_join d s
  have key : ∀ (l : List (List UInt8)), x ∈ l → x.length ≤ (joinL d l).length := by
    intro l
    induction l with
    | nil => intro h; cases h
    | cons y r ih =>
      intro h
      cases r with
      | nil =>
        rcases List.mem_cons.1 h with rfl | h
        · simp [joinL]
        · cases h
      | cons z r =>
        have e : (joinL d (y :: z :: r)).length = y.length + 1 + (joinL d (z :: r)).length := by simp [joinL]; omega
        rcases List.mem_cons.1 h with rfl | h
        · omega
        · have := ih h; omega
  have := key (cutL d s) hx
  rwa [hj] at this
set_option maxRecDepth 100000 in
set_option maxHeartbeats 4000000 in
theorem readN_any {w : World} (H : Hid (TabX w)) {n : Nat} (hn : n ≤ 2) {b : List UInt8} (hl : b.length ≤ 262144) {r : Option (Nat × Nat × List UInt8)} (hr : Hid (tailR n b = r)) : Calls Tryz.prog 58 #[.int .i64 (n : Int), .string (bs b)] w fun e w' => e = .returned (readV r) ∧ Hid (Below w.heap.size w w') := by
  have hrr := hr.out
  clear hr
  unfold tailR at hrr
  rw [if_neg (by omega)] at hrr
  have hpl := piece_len 32 b
  obtain ⟨p, ps, hps⟩ := cutL_cons 32 b
  rw [hps, List.tail_cons] at hrr
  obtain ⟨m, hm⟩ : ∃ z, Hid (ps.length = z) := ⟨_, hid rfl⟩
  have HC : Hid ((cutL 32 b).length = m + 1) := hid (by rw [hps, List.length_cons, hm.out])
  rw [hm.out] at hrr
  rw [hps] at hpl
  have HPS := hid hps
  clear hps
  go_enter Tryz.func58, Tryz.ntmps58
  go_upto_region 1 with fail
  obtain ⟨u, hu⟩ : ∃ z, z = w.alloc (.cells #[.int .i64 0, .int .i64 0, .int .i64 0, .string ⟨#[]⟩] 46) := ⟨_, rfl⟩
  obtain ⟨g, hg⟩ : ∃ z, w.heap.size = z := ⟨_, rfl⟩
  have XB : Hid (Box u g 46 #[.int .i64 0, .int .i64 0, .int .i64 0, .string ⟨#[]⟩]) := hid (by rw [hu, ← hg]; exact Box.new w _ _)
  have K1 : Hid (Below w.heap.size w u) := hid (by rw [hu]; exact (Below.refl _ w).alloc (Nat.le_refl _) _)
  have H1 := TabX.below H K1.out
  have hwg : w.heap.size ≤ g := by omega
  rw [← hu]
  simp only [hg]
  clear hu hg
  have bz : ∀ W, Hid (Below u.heap.size u W) → (W.cell? ⟨g, 0, none⟩ = some (.int .i64 0) ∧ W.cell? ⟨g, 1, none⟩ = some (.int .i64 0) ∧ W.cell? ⟨g, 2, none⟩ = some (.int .i64 0) ∧ W.cell? ⟨g, 3, none⟩ = some (.string ⟨#[]⟩)) ∧ (W.frozen? ⟨g, 0, none⟩ = false ∧ W.frozen? ⟨g, 1, none⟩ = false ∧ W.frozen? ⟨g, 2, none⟩ = false ∧ W.frozen? ⟨g, 3, none⟩ = false) ∧ Hid (Box W g 46 #[.int .i64 0, .int .i64 0, .int .i64 0, .string ⟨#[]⟩]) := fun W h => by
    have X := box_below XB.out h.out
    exact ⟨⟨X.cell 0, X.cell 1, X.cell 2, X.cell 3⟩, ⟨X.frozen 0, X.frozen 1, X.frozen 2, X.frozen 3⟩, hid X⟩
  have hm1 : (1 : Int) ≤ ((m + 1 : Nat) : Int) := by omega
  have hm2 : (1 : Int) ≤ (m : Int) + 1 := by omega
  go_upto_region 2 with (first
    | (go_at_call 75
       (with_reducible refine (split_any H1 hl HC).mono ?_)
       rintro e w1 ⟨gs, rfl, L1, C1⟩))
  obtain ⟨A, hA⟩ : ∃ z, (if m = 0 then some (⟨gs, 0, none⟩ : Addr) else some ⟨gs, 1, none⟩) = z := ⟨_, rfl⟩
  have LS : Hid (∀ (j : Nat) (x : List UInt8), ps[j]? = some x → ∃ bb o, A = some ⟨bb, o, none⟩ ∧ bb < w1.heap.size ∧ w1.cell? ⟨bb, o + j, none⟩ = some (.string (bs x))) := hid fun j x hx => by
    have hj := (List.getElem?_eq_some_iff.1 hx).1
    rw [hm.out] at hj
    obtain ⟨b0, o0, h0, hlt, hc⟩ := L1.out (by rw [HPS.out]; simp)
    rw [HPS.out] at hc
    injection h0 with h0
    injection h0 with h1 h2
    subst h1 h2
    refine ⟨gs, 1, by rw [← hA, if_neg (by omega)], hlt, ?_⟩
    have := hc (1 + j) (.string (bs x)) (by rw [Nat.add_comm 1 j]; simp [hx])
    simpa using this
  rw [hA]
  clear hA L1 HC
  have H2 := TabX.below H1 C1.out
  by_cases hmn : m = n
  · subst hmn
    rw [if_pos rfl] at hrr
    have tb : ((m : Int) != (m : Int)) = false := by simp
    obtain ⟨R, hR⟩ : ∃ z, Hid (valsR ps = z) := ⟨_, hid rfl⟩
    rw [hR.out] at hrr
    have HRR := hid hrr
    clear hrr
    go_upto_region 5 with fail
    obtain ⟨v1, hv1⟩ : ∃ z, z = w1.alloc (.cells #[.int .i64 0, .int .i64 0] 120) := ⟨_, rfl⟩
    obtain ⟨g7, hg7⟩ : ∃ z, w1.heap.size = z := ⟨_, rfl⟩
    have X7 : Hid (Box v1 g7 120 #[.int .i64 ((0 : Nat) : Int), .int .i64 ((0 : Nat) : Int)]) := hid (by rw [hv1, ← hg7]; exact Box.new w1 _ _)
    have K7 : Hid (Below g7 w1 v1) := hid (by rw [hv1, ← hg7]; exact (Below.refl _ w1).alloc (Nat.le_refl _) _)
    have hg7u : u.heap.size ≤ g7 := by rw [← hg7]; exact C1.out.size
    rw [← hv1]
    simp only [hg7]
    clear hv1
    go_wp2
    go_loopw [22] (fun i wr => ∃ (j : Nat) (vs : List Nat), j ≤ m ∧ i = .int .i64 (j : Int) ∧ vs.length = j ∧ Hid ((valsR (ps.drop j)).map (vs ++ ·) = R) ∧ Hid (Box wr g7 120 #[.int .i64 ((vs.getD 0 0 : Nat) : Int), .int .i64 ((vs.getD 1 0 : Nat) : Int)]) ∧ Hid (Below g7 w1 wr)) (fun i _ => m - (intOf i).toNat)
    case atStart => exact ⟨0, [], by omega, rfl, rfl, hid (by rw [← hR.out]; simp), X7, K7⟩
    case round =>
      obtain ⟨j, vs, hj, rfl, hvs, HV, HX, HB⟩ := hrel
      have hb1 : Hid (Below w1.heap.size w1 wr) := hid (by rw [hg7]; exact HB.out)
      have KU : Hid (Below u.heap.size u wr) := bel_3 C1 hb1
      obtain ⟨⟨z0, z1, z2, z3⟩, ⟨y0, y1, y2, y3⟩, XU⟩ := bz wr KU
      by_cases hlt : j < m
      · have hi : (j : Int) < m := by omega
        have hi0 : (0 : Int) ≤ j := by omega
        have hj2 : (j : Int) < 2 := by omega
        obtain ⟨x, hx⟩ : ∃ x, ps[j]? = some x := ⟨_, List.getElem?_eq_getElem (by rw [hm.out]; exact hlt)⟩
        obtain ⟨bb, o, rfl, hblt, hc⟩ := LS.out j x hx
        have hcw : wr.cell? ⟨bb, o + j, none⟩ = some (.string (bs x)) := (hb1.out.cell (p := ⟨bb, o + j, none⟩) hblt).trans hc
        have hxl : x.length ≤ 262144 := Nat.le_trans (hpl x (List.mem_cons_of_mem _ (List.mem_of_getElem? hx))) hl
        have hd : ps.drop j = x :: ps.drop (j + 1) := by
          obtain ⟨h1, h2⟩ := List.getElem?_eq_some_iff.1 hx
          rw [List.drop_eq_getElem_cons h1, h2]
        have HV2 := HV.out
        rw [hd, valsR] at HV2
        have Hw := TabX.below H2 hb1.out
        have hw7 : IntKind.i64.wrap ((j : Int) + 1) = (j : Int) + 1 := IntWalk.i64_in _ (by omega)
        obtain ⟨nr, hnr⟩ : ∃ z, Hid (number x = z) := ⟨_, hid rfl⟩
        rw [hnr.out] at HV2
        have HN := hid (numberp_any Hw hxl hnr)
        clear hc hx hd HV
        cases nr with
        | none =>
          have hRn : none = R := by simpa using HV2
          subst hRn
          have hrn : none = r := by have := HRR.out; simpa using this
          subst hrn
          clear HV2
          go_wp2_with (first
            | (go_at_call 76
               (with_reducible refine HN.out.mono ?_)
               rintro e w5 ⟨rfl, C5⟩
               obtain ⟨⟨z0, z1, z2, z3⟩, ⟨y0, y1, y2, y3⟩, XU⟩ := bz w5 (bel_3 KU C5)))
          refine bodyPost_ret (v := .tuple #[.agg #[.int .i64 0, .int .i64 0, .int .i64 0, .string ⟨#[]⟩], .bool false]) (results_cellG2 rfl Tryz.underlying46 rfl op_size (by rfl) (by rfl) (box4 XU (.int .i64 0) (.int .i64 0) (.int .i64 0) (.string ⟨#[]⟩))) rfl ?_
          exact ⟨rfl, bel_in4 K1 (bel_3 KU C5) hwg _ _ _ _⟩
        | some v =>
          have HV3 : Hid ((valsR (ps.drop (j + 1))).map ((vs ++ [v]) ++ ·) = R) := hid (by
            rw [← HV2]
            simp only [Option.bind_some, Option.map_map]
            congr 1
            funext z
            simp)
          have hg7r : g7 < wr.heap.size := HX.out.lt
          clear HV2
          go_wp2_with (first
            | (go_at_call 76
               (with_reducible refine HN.out.mono ?_)
               rintro e w5 ⟨rfl, C5⟩
               have X5 := hid (box_below HX.out C5.out)
               have c5 : ∃ z, w5.cell? ⟨g7, j, none⟩ = some z := by
                 have : j = 0 ∨ j = 1 := by omega
                 rcases this with h | h <;> subst h
                 · exact ⟨_, X5.out.cell 0⟩
                 · exact ⟨_, X5.out.cell 1⟩
               obtain ⟨zz, c5⟩ := c5
               have f5 : w5.frozen? ⟨g7, j, none⟩ = false := X5.out.frozen j))
          have X9 : Hid (Box (w5.setCell ⟨g7, j, none⟩ (.int .i64 (v : Int))) g7 120 #[.int .i64 (((vs ++ [v]).getD 0 0 : Nat) : Int), .int .i64 (((vs ++ [v]).getD 1 0 : Nat) : Int)]) := hid (by
            have := X5.out.store j (.int .i64 (v : Int))
            have hj01 : j = 0 ∨ j = 1 := by omega
            rcases hj01 with h | h
            · subst h
              obtain rfl := List.eq_nil_of_length_eq_zero hvs
              simpa using this
            · subst h
              match vs, hvs with
              | [a], _ => simpa using this)
          have B9 : Hid (Below g7 w1 (w5.setCell ⟨g7, j, none⟩ (.int .i64 (v : Int)))) := hid ((HB.out.trans (C5.out.mono (Nat.le_of_lt hg7r))).setCell (p := ⟨g7, j, none⟩) (Nat.le_refl _) _)
          go_roundw
          case rel => exact ⟨j + 1, vs ++ [v], by omega, by go_num, by simp [hvs], HV3, X9, B9⟩
          case measure => simp [intOf] <;> omega
      · obtain rfl : j = m := by omega
        have hi : ¬ (j : Int) < (j : Int) := by omega
        have hRs : some vs = R := by
          have := HV.out
          rw [List.drop_of_length_le (by rw [hm.out]; exact Nat.le_refl _)] at this
          simpa [valsR] using this
        subst hRs
        have hrs : some (vs.getD 0 0, vs.getD 1 0, []) = r := by have := HRR.out; simpa using this
        subst hrs
        have a0 := HX.out.cell 0
        have a1 := HX.out.cell 1
        obtain ⟨va, hva⟩ : ∃ z, Hid (vs.getD 0 0 = z) := ⟨_, hid rfl⟩
        obtain ⟨vb, hvb⟩ : ∃ z, Hid (vs.getD 1 0 = z) := ⟨_, hid rfl⟩
        rw [hva.out] at a0
        rw [hvb.out] at a1
        have HRV : Hid (readV (some (vs.getD 0 0, vs.getD 1 0, [])) = .tuple #[.agg #[.int .i64 0, .int .i64 (va : Int), .int .i64 (vb : Int), .string ⟨#[]⟩], .bool true]) := hid (by rw [hva.out, hvb.out]; rfl)
        clear HV HRR HX
        go_wp2
        refine bodyPost_ret (v := .tuple #[.agg #[.int .i64 0, .int .i64 (va : Int), .int .i64 (vb : Int), .string ⟨#[]⟩], .bool true]) (results_cellG2 rfl Tryz.underlying46 rfl op_size (by rfl) (by rfl) (box4 XU (.int .i64 0) (.int .i64 (va : Int)) (.int .i64 (vb : Int)) (.string ⟨#[]⟩))) rfl ?_
        refine ⟨congrArg Ending.returned ?_, bel_in4 K1 KU hwg _ _ _ _⟩
        have := HRV.out
        simp only [List.getD_eq_getElem?_getD] at this
        exact this.symm
  · rw [if_neg hmn] at hrr
    subst hrr
    have tb : ((m : Int) != (n : Int)) = true := by simp; omega
    obtain ⟨⟨z0, z1, z2, z3⟩, ⟨y0, y1, y2, y3⟩, XU⟩ := bz w1 C1
    clear hmn
    go_wp2
    refine bodyPost_ret (v := .tuple #[.agg #[.int .i64 0, .int .i64 0, .int .i64 0, .string ⟨#[]⟩], .bool false]) (results_cellG2 rfl Tryz.underlying46 rfl op_size (by rfl) (by rfl) (box4 XU (.int .i64 0) (.int .i64 0) (.int .i64 0) (.string ⟨#[]⟩))) rfl ?_
    exact ⟨rfl, bel_in4 K1 C1 hwg _ _ _ _⟩
end L19
end Go.Proofs.YteeienmigoebmaaGreatDoor
namespace Go.Proofs.YteeienmigoebmaaGreatDoor
namespace L19
open Go.RowKit L18

/-! Layer 19, the program's side: what a line says. -/
theorem rd_any {w : World} (H : Hid (TabX w)) {k : Nat} (h2 : k ≤ 16) {b : List UInt8} (hl : b.length ≤ 262144) {r : Option (Nat × Nat × List UInt8)} (hr : Hid (tailR (argN k) b = r)) {fN : Nat} (hf : rdN k = fN) {A : Array Value} (hA : arA k = A) :
    Calls Tryz.prog fN (A.push (.string (bs b))) w fun e w' => e = .returned (readV r) ∧ Hid (Below w.heap.size w w') := by
  subst hf
  subst hA
  rw [Array.push_eq_append]
  rcases arg_cases h2 with e | e | e | e <;> rw [e] at hr <;> simp only [rdN, arA, e]
  · exact readN_any H (n := 0) (by omega) hl hr
  · exact readN_any H (n := 1) (by omega) hl hr
  · exact readN_any H (n := 2) (by omega) hl hr
  · exact readQ_any w hl hr
theorem rd_call {k : Nat} (h2 : k ≤ 16) {fN : Nat} (hf : rdN k = fN) : ∀ args w, (callFunc fN args).run Tryz.prog w = .ok (.enter fN args) w := by
  subst hf
  rcases arg_cases h2 with e | e | e | e <;> simp only [rdN, e]
  · exact Tryz.call58
  · exact Tryz.call58
  · exact Tryz.call58
  · exact Tryz.call61
theorem cut_split (d : UInt8) : ∀ (s x : List UInt8) (r : List (List UInt8)), cutL d s = x :: r → d ∉ x ∧ ((r = [] ∧ s = x) ∨ (r ≠ [] ∧ ∃ y, s = x ++ d :: y ∧ cutL d y = r))
  | [], x, r, h => by
    simp [cutL] at h
    obtain ⟨rfl, rfl⟩ := h
    simp
  | b :: l, x, r, h => by
    by_cases hb : b = d
    · subst hb
      rw [cutL_here] at h
      injection h with h1 h2
      subst h1
      exact ⟨by simp, .inr ⟨by rw [← h2]; exact cut_ne _ _, l, by simp, h2⟩⟩
    · obtain ⟨y, q, hy⟩ := cutL_cons d l
      rw [cutL_other l hb hy] at h
      injection h with h1 h2
      subst h1 h2
      obtain ⟨i1, i2⟩ := cut_split d l y q hy
      refine ⟨?_, ?_⟩
      · intro hm
        rcases List.mem_cons.1 hm with hm | hm
        · exact hb hm.symm
        · exact i1 hm
      · rcases i2 with ⟨rfl, rfl⟩ | ⟨hne, z, rfl, hz⟩
        · exact .inl ⟨rfl, rfl⟩
        · exact .inr ⟨hne, z, rfl, hz⟩
theorem plain_no32 {s : List UInt8} (h : (32 : UInt8) ∈ s) : plain s = none := by
  cases hp : plain s with
  | none => rfl
  | some t =>
    have := escaped_plain s t hp
    rw [← this] at h
    exact absurd rfl (escaped_char h).1
def opT (k : Nat) (p : Nat × Nat × List UInt8) : OpV := ((k : Int), (p.1 : Int), (p.2.1 : Int), p.2.2)
theorem opOf_is {s x : List UInt8} {r : List (List UInt8)} (h : cutL 32 s = x :: r) : opOf s = (kindOf x).bind fun k => (tailR (argN k) (s.drop x.length)).map (opT k) := by
  obtain ⟨_, hs⟩ := cut_split 32 s x r h
  have hb : (cutL 32 (s.drop x.length)).tail = r := by
    rcases hs with ⟨rfl, rfl⟩ | ⟨_, y, rfl, hy⟩
    · simp [cutL]
    · rw [List.drop_left]
      rw [cutL_here, List.tail_cons, hy]
  unfold opOf
  rw [h, List.headD_cons]
  cases hk : kindOf x with
  | none => rfl
  | some k =>
    obtain ⟨_, k1, k2⟩ := kind_word hk
    simp only [Option.bind_some]
    rcases arg_cases k2 with e | e | e | e
    · rw [e]
      unfold tailR
      rw [if_neg (by decide), hb]
      cases r with
      | nil => simp [valsR, opT]
      | cons a r => simp
    · rw [e]
      unfold tailR
      rw [if_neg (by decide), hb]
      match r with
      | [] => simp
      | [a] =>
        simp only [List.length_cons, List.length_nil, if_true, List.getD_cons_succ, List.getD_cons_zero, valsR]
        cases number a <;> simp [opT]
      | _ :: _ :: _ => simp
    · rw [e]
      unfold tailR
      rw [if_neg (by decide), hb]
      match r with
      | [] => simp
      | [a] => simp
      | [a, b] =>
        simp only [List.length_cons, List.length_nil, valsR]
        cases ha : number a <;> cases hb2 : number b <;> simp [opT, ha, hb2]
      | _ :: _ :: _ :: _ => simp
    · rw [e]
      unfold tailR
      rw [if_pos rfl, if_pos rfl]
      rcases hs with ⟨rfl, rfl⟩ | ⟨hne, y, rfl, hy⟩
      · simp
      · rw [List.drop_left]
        simp only
        have hj := cut_join 32 y
        rw [hy] at hj
        match r, hne with
        | [a], _ =>
          simp only [joinL] at hj
          subst hj
          simp [opT, Function.comp_def]
        | a :: b :: q, _ =>
          have hm : (32 : UInt8) ∈ y := by rw [← hj]; simp [joinL]
          simp [plain_no32 hm]
theorem named_yes (w : World) {x : List UInt8} {k : Nat} (hk : kindOf x = some k) {R : Array Value} (hR : rowA k = R) : Calls Tryz.prog 74 #[.agg rowsA, .string (bs x)] w fun e w' => e = .returned (.tuple #[.agg R, .bool true]) ∧ Hid (Below w.heap.size w w') :=
  (named_any w x).mono fun e w' h => by
    obtain ⟨h, hb⟩ := h
    obtain ⟨h0, h1, h2⟩ := kind_word hk
    refine ⟨?_, hb⟩
    rcases h with ⟨j, j1, j2, hj, he⟩ | ⟨hno, _⟩
    · have := ((word_chars j (by omega)).2.2 j1).1
      rw [hj, hk] at this
      obtain rfl := Option.some.inj this
      rw [he, hR]
    · exact absurd h0 (hno k h1 h2)
theorem named_no (w : World) {x : List UInt8} (hk : kindOf x = none) : Calls Tryz.prog 74 #[.agg rowsA, .string (bs x)] w fun e w' => e = .returned (.tuple #[.agg zrow, .bool false]) ∧ Hid (Below w.heap.size w w') :=
  (named_any w x).mono fun e w' h => by
    obtain ⟨h, hb⟩ := h
    refine ⟨?_, hb⟩
    rcases h with ⟨j, j1, j2, hj, he⟩ | ⟨_, he⟩
    · have := ((word_chars j (by omega)).2.2 j1).1
      rw [hj, hk] at this
      cases this
    · exact he
/-- What a line makes of programs. -/
def stepP (s : List UInt8) (acc : List ProgV) : Option (List ProgV) :=
  if s.take 5 = progW then (if (s.drop 5).all prB = true then some (acc ++ [(s.drop 5, [])]) else none) else match opOf s with
  | none => none
  | some o => if acc = [] then none else some (addO acc o)
theorem parseLs_step (s : List UInt8) (r : List (List UInt8)) (acc : List ProgV) : parseLs (s :: r) acc = (stepP s acc).bind (parseLs r) := by
  conv => lhs; unfold parseLs
  unfold stepP
  split
  · split <;> rfl
  · cases opOf s with
    | none => rfl
    | some o =>
      simp only
      split <;> rfl
/-- What programs a text says behind others. -/
def sayP (t : List UInt8) (acc : List ProgV) : Option (List ProgV) := if (cutL 10 t).getLast? ≠ some [] then none else parseLs (cutL 10 t).dropLast acc
theorem say_nil (acc : List ProgV) : sayP [] acc = some acc := by simp [sayP, cutL, parseLs]
theorem say_one {x : List UInt8} (hx : x ≠ []) (h : cutL 10 x = [x]) (acc : List ProgV) : sayP x acc = none := by simp [sayP, h, hx]
theorem say_step {t x y : List UInt8} {r : List (List UInt8)} (h : cutL 10 t = x :: r) (hr : r ≠ []) (hy : cutL 10 y = r) (acc : List ProgV) : sayP t acc = (stepP x acc).bind fun a => sayP y a := by
  unfold sayP
  rw [h, hy]
  have e1 : (x :: r).getLast? = r.getLast? := by
    cases r with
    | nil => exact absurd rfl hr
    | cons a q => simp [List.getLast?_cons_cons]
  have e2 : (x :: r).dropLast = x :: r.dropLast := by
    cases r with
    | nil => exact absurd rfl hr
    | cons a q => rfl
  rw [e1, e2]
  by_cases hl : r.getLast? ≠ some []
  · simp only [if_pos hl]
    cases stepP x acc <;> rfl
  · simp only [if_neg hl]
    rw [parseLs_step]
theorem parseT_say (t : List UInt8) : parseT t = if 262144 < t.length then ([], 6) else match sayP t [] with
  | none => ([], 4)
  | some l => if checkP l ≠ 0 then ([], checkP l) else (l, 0) := by
  unfold parseT sayP
  split
  · rfl
  · split
    · rfl
    · rfl
end L19
end Go.Proofs.YteeienmigoebmaaGreatDoor
namespace Go.Proofs.YteeienmigoebmaaGreatDoor
namespace L19
open Go.RowKit L18

/-! Layer 19, the program's side: the programs that are being read. -/
def rdA (v : Value) : Array Value := (rowsL ++ [v]).toArray
theorem rowsL_len : rowsL.length = 96 := by kernel_rfl
theorem rdA_row (v : Value) : ∀ (j : Nat) (x : Value), rowsL[j]? = some x → (rdA v)[j]? = some x := fun j x h => by
  have := (List.getElem?_eq_some_iff.1 h).1
  rw [rdA, List.getElem?_toArray, List.getElem?_append_left this, h]
theorem rdA_96 (v : Value) : (rdA v)[96]? = some v := by
  rw [rdA, List.getElem?_toArray, List.getElem?_append_right (by rw [rowsL_len]; omega), rowsL_len]
  rfl
theorem rdA_set (v x : Value) : (rdA v).setIfInBounds 96 x = rdA x := by
  unfold rdA
  rw [List.setIfInBounds_toArray, List.set_append_right _ _ (by rw [rowsL_len]; omega), rowsL_len]
  rfl
theorem ldM {ops : Array Oper} {rest : List Oper} {o : Oper} {a : Act} {w : World} {Q : Exit → Act → World → Prop} (hw : Region.wanted o (yielded ops a.tmps) = true) (x : Operand) (ho : o.op = .load 63 x) (g : Nat) (hx : a.eval x = .pointer (some ⟨g, 0, none⟩)) (E : TypeId) (v : Value) (hb : Hid (Box w g E (rdA v)))
    (h : wpList Tryz.prog ops Q rest (a.put o.dst (.agg rowsA)) w) : wpList Tryz.prog ops Q (o :: rest) a w :=
  BigFrame.wpList_want hw fun _ hK => by
    unfold Oper.wp execOp
    simp only [ho, hx, Instr.loadAt, Instr.sureAddr, Sem.run_bind, Sem.run_pure, Result.andThen_ok, run_loadVar_mid (P := Tryz.prog) w g 0 63 rowsL _ (fun j v hj => by rw [Nat.zero_add, hb.out.cell j]; exact rdA_row _ j v hj) Tryz.underlying63 rfl (by kernel_rfl)]
    exact hK _ _ h
theorem own_other {w : World} {g i t : Nat} {cs : Array Value} {v : Value} {base e size n : Nat} {x : Value} {xs : List Value} (hx : Box w g t cs) (ht : e ≠ t) (h : w.ownsRow base e size x n xs) : (w.setCell ⟨g, i, none⟩ v).ownsRow base e size x n xs :=
  ((Kept.refl g [t] w).store hx (Nat.le_refl _) (by simp) v).own h (by simpa using ht)
theorem pgs_put : ∀ {Y : List PgX} {i : Nat} {nm : List UInt8} {ops ops' : List OpV} {oA A5 : Option Addr} {oc c5 : Nat}, Y[i]? = some ((nm, ops), oA, oc) → (pgsC Y).set (i * 2 + 1) (.slice A5 ops'.length c5) = pgsC (Y.set i ((nm, ops'), A5, c5))
  | [], i, _, _, _, _, _, _, _, h => by simp at h
  | y :: Y, 0, nm, ops, ops', oA, A5, oc, c5, h => by
    simp at h
    subst h
    rfl
  | y :: Y, i + 1, nm, ops, ops', oA, A5, oc, c5, h => by
    have ih := pgs_put (A5 := A5) (c5 := c5) (ops' := ops') (show Y[i]? = some ((nm, ops), oA, oc) by simpa using h)
    have e : (i + 1) * 2 + 1 = (i * 2 + 1) + 1 + 1 := by omega
    rw [e]
    show (Value.string (bs y.1.1)) :: (.slice y.2.1 y.1.2.length y.2.2) :: (pgsC Y).set (i * 2 + 1) (.slice A5 ops'.length c5) = _
    rw [ih]
    rfl
/-- A program's operations lie in a row of the call's own. -/
abbrev OwnO (w : World) (base : Nat) (x : PgX) : Prop := w.ownsRow base 46 4 (.slice x.2.1 x.1.2.length x.2.2) x.1.2.length (opsC x.1.2)
abbrev blkO (x : PgX) : Option Nat := (Value.slice x.2.1 x.1.2.length x.2.2).ownBlock
/-- The programs that have been read; the last one's operations lie behind all others'. -/
structure RdS (w : World) (g base : Nat) (A : Option Addr) (n c bl : Nat) (X : List PgX) : Prop where
  box : Box w g 103 (rdA (.slice A n c))
  gb : base ≤ g
  len : X.length = n
  row : w.ownsRow base 43 2 (.slice A n c) n (pgsC X)
  old : ∀ y ∈ X.dropLast, OwnO w base y ∧ ∀ k, blkO y = some k → k < bl
  last : ∀ y, X.getLast? = some y → OwnO w bl y
  bb : base ≤ bl
  bw : bl ≤ w.heap.size
section
variable {w w' : World} {g base n c bl : Nat} {A : Option Addr} {X : List PgX}
theorem RdS.up (h : RdS w g base A n c bl X) (hb : Below w.heap.size w w') : RdS w' g base A n c bl X :=
  ⟨box_below h.box hb, h.gb, h.len, own_keep h.row hb, fun y hy => ⟨own_keep (h.old y hy).1 hb, (h.old y hy).2⟩, fun y hy => own_keep (h.last y hy) hb, h.bb, Nat.le_trans h.bw hb.size⟩
theorem rds_up (h : Hid (RdS w g base A n c bl X)) (hb : Below w.heap.size w w') : Hid (RdS w' g base A n c bl X) := hid (h.out.up hb)
theorem RdS.each (h : RdS w g base A n c bl X) : ∀ y ∈ X, OwnO w base y := by
  intro y hy
  cases hX : X with
  | nil => rw [hX] at hy; cases hy
  | cons a r =>
    have hne : X ≠ [] := by rw [hX]; simp
    rw [← List.dropLast_concat_getLast hne] at hy
    rcases List.mem_append.1 hy with h1 | h1
    · exact (h.old y h1).1
    · obtain rfl := List.mem_singleton.1 h1
      exact own_mono (h.last _ (List.getLast?_eq_some_getLast hne)) h.bb
theorem RdS.pgn (h : RdS w g base A n c bl X) : PgN w base 43 46 A n c X := ⟨h.len, h.row, h.each⟩
theorem RdS.pg (h : RdS w g base A n c bl X) : PgM w w.heap.size A c X := h.pgn.pg
theorem RdS.cell (h : RdS w g base A n c bl X) : w.cell? ⟨g, 96, none⟩ = some (.slice A n c) := (h.box.cell 96).trans (rdA_96 _)
theorem RdS.froz (h : RdS w g base A n c bl X) : w.frozen? ⟨g, 96, none⟩ = false := h.box.frozen 96
/-- A program that has no operations yet stands behind all others. -/
theorem RdS.name (h : RdS w g base A n c bl X) {w2 : World} {A5 : Option Addr} {c5 : Nat} {nm : List UInt8} (hr : w2.ownsRow base 43 2 (.slice A5 (n + 1) c5) (n + 1) (pgsC X ++ pgsC [((nm, []), none, 0)])) (hk : Kept base [43] w w2) :
    RdS (w2.setCell ⟨g, 96, none⟩ (.slice A5 (n + 1) c5)) g base A5 (n + 1) c5 (w2.setCell ⟨g, 96, none⟩ (.slice A5 (n + 1) c5)).heap.size (X ++ [((nm, []), none, 0)]) := by
  have hx : Box w2 g 103 (rdA (.slice A n c)) := hk.box h.box (by decide)
  have hs : (w2.setCell ⟨g, 96, none⟩ (.slice A5 (n + 1) c5)).heap.size = w2.heap.size := by simp [World.setCell]
  refine ⟨by rw [← rdA_set (.slice A n c)]; exact hx.store 96 _, h.gb, by simp [h.len], ?_, ?_, ?_, by rw [hs]; exact Nat.le_trans h.bb (Nat.le_trans h.bw hk.size), Nat.le_refl _⟩
  · rw [pgsC_append]
    exact own_other hx (by decide) hr
  · intro y hy
    rw [List.dropLast_concat] at hy
    have h1 := hk.own (h.each y hy) (by decide)
    refine ⟨own_other hx (by decide) h1, fun k hk2 => ?_⟩
    rw [hs]
    exact (h1.lt k hk2).2
  · intro y hy
    rw [List.getLast?_concat] at hy
    obtain rfl := Option.some.inj hy
    exact World.ownsRow_nil _ _ _ _
end
end L19
end Go.Proofs.YteeienmigoebmaaGreatDoor
