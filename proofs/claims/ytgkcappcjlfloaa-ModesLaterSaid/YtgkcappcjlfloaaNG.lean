import Derived.Test.YtgkcappcjlfloaaNF
namespace Go.Proofs.Ytgkcappcjlfloaa
open Go.RowKit

theorem encL_range (t : Tm) (k : Nat) : encL t k = (List.range k).flatMap fun i => opL t (i + 1) := by
  induction k with
  | zero => rfl
  | succ k ih =>
    rw [List.range_succ, List.flatMap_append, ← ih]
    show encL t k ++ opL t (k + 1) = _
    simp
def keptB (i : Nat) : Bool := decide (i < 18) || flagB ((i + 1 : Nat) : Int) || i == 127 || i == 128
theorem range_kept : (List.range 129).filter keptB = List.range 18 ++ flagsL.map (fun x => x.toNat - 1) ++ [127, 128] := by kernel_rfl
theorem flat_kept {α : Type} (g : Nat → List α) (p : Nat → Bool) (l : List Nat) (h : ∀ i, p i = false → g i = []) : l.flatMap g = (l.filter p).flatMap g := by
  induction l with
  | nil => rfl
  | cons x l ih =>
    rw [List.flatMap_cons, ih, List.filter_cons]
    cases hp : p x
    · rw [h x hp]; rfl
    · rfl
theorem flat_congr {α β : Type} {f g : α → List β} : ∀ (l : List α), (∀ x ∈ l, f x = g x) → l.flatMap f = l.flatMap g
  | [], _ => rfl
  | x :: l, h => by rw [List.flatMap_cons, List.flatMap_cons, h x (by simp), flat_congr l (fun y hy => h y (by simp [hy]))]
theorem opL_char (t : Tm) {op : Nat} (h : op ≤ 18) : opL t op = enc5 op (t.c.getD op 0).toNat := by
  unfold opL opV
  rw [if_pos h]
theorem opL_flag (t : Tm) (x : Fl) : opL t x.1.toNat = flE t x := by
  obtain ⟨x, hx⟩ := x
  have hr := flag_rng hx
  have e : ((x.toNat : Nat) : Int) = x := by omega
  unfold opL opV flE
  rw [if_neg (by dsimp only; omega), if_neg (by dsimp only; omega), if_neg (by dsimp only; omega), e, if_pos hx]
theorem opL_none (t : Tm) {i : Nat} (h : keptB i = false) : opL t (i + 1) = [] := by
  simp only [keptB, Bool.or_eq_false_iff, decide_eq_false_iff_not, beq_eq_false_iff_ne, ne_eq] at h
  unfold opL opV
  rw [if_neg (by omega), if_neg (by omega), if_neg (by omega), if_neg (by rw [h.1.1.2]; decide)]
theorem enc_same (t : Tm) : encL t 129 ++ [0] = encE t := by
  rw [encL_range, flat_kept _ keptB _ (fun i hi => opL_none t hi), range_kept, List.flatMap_append, List.flatMap_append]
  have h1 : (List.range 18).flatMap (fun i => opL t (i + 1)) = chL t 18 := by
    unfold chL
    apply flat_congr
    intro i hi
    have := List.mem_range.1 hi
    exact opL_char t (by omega)
  have h2 : (flagsL.map (fun x => x.toNat - 1)).flatMap (fun i => opL t (i + 1)) = flL t flagsF := by
    rw [← flagsF_val, List.map_map, List.flatMap_map]
    unfold flL
    apply flat_congr
    intro x _
    have hr := flag_rng x.2
    have e : (((fun x : Int => x.toNat - 1) ∘ fun x : Fl => x.1) x) + 1 = x.1.toNat := by
      show x.1.toNat - 1 + 1 = _
      omega
    rw [e]
    exact opL_flag t x
  have h3 : ([127, 128] : List Nat).flatMap (fun i => opL t (i + 1)) = enc5 128 t.i ++ enc5 129 t.o := rfl
  rw [h1, h2, h3]
  unfold encE
  simp only [List.append_assoc]
theorem encoder_e (w : World) (t : Tm) (ht : t.Ok) : Calls Try.prog 26 #[.agg t.cs] w fun e w' => ∃ A n c, e = .returned (.slice A n c) ∧ (encE t).length = n ∧ Hid (SlB w' w'.heap.size A c (encE t)) ∧ Hid (Below w.heap.size w w') := by
  have h := encoder_any w t ht
  rwa [enc_same] at h
theorem encE_len (t : Tm) : (encE t).length = 281 := by
  unfold encE
  simp only [List.length_append, chL_len, flL_len, flagsF_len, enc5_len, List.length_cons, List.length_nil]
theorem bytes_two (w : World) (A A2 : Option Addr) (c c2 n n2 : Nat) (xs : List UInt8) (hn : xs.length = n) (hn2 : xs.length = n2) (hx : Hid (SlB w w.heap.size A c xs)) (hy : Hid (SlB w w.heap.size A2 c2 xs)) (hl : n ≤ maxLen) :
    Calls Try.prog 24 #[.slice A n c, .slice A2 n2 c2] w fun e w' => e = .returned (.bool true) ∧ Hid (Below w.heap.size w w') := by
  obtain rfl : n = n2 := by omega
  exact bytes_eq w A A2 c c2 n xs hn hx hy hl
theorem call_alive5 (w : World) : Calls Try.prog 9 #[] w fun e w' => e = .returned (.bool true) ∧ Hid (Below w.heap.size w w') := alive_any w
theorem drw {w u : World} (h : Hid (Below w.heap.size w u)) : Hid (Below w.heap.size w u.drew) := hid h.out.drew
attribute [local go_sem ↓] ex_ld26
attribute [local go_sem] isP_v blkV_v aggV_v
set_option maxRecDepth 100000 in
set_option maxHeartbeats 4000000 in
theorem encodes_walk (w : World) (t : Tm) (ht : t.Ok) : Calls Try.prog 5 #[.agg t.cs] w fun e w' => e = .returned (.bool true) ∧ Hid (Below w.heap.size w w') := by
  have hs := cs_size ht.len
  obtain ⟨l, hl⟩ : ∃ l, Hid (encE t = l) := ⟨_, hid rfl⟩
  have hll : l.length = 281 := by rw [← hl.out]; exact encE_len t
  have HA : Hid (∀ w, Calls Try.prog 25 #[.agg t.cs] w fun e w' => ∃ A n c, e = .returned (.slice A n c) ∧ l.length = n ∧ Hid (SlB w' w'.heap.size A c l) ∧ Hid (Below w.heap.size w w')) := hid fun w => by rw [← hl.out]; exact encode_any w t ht
  have HB : Hid (∀ w, Calls Try.prog 26 #[.agg t.cs] w fun e w' => ∃ A n c, e = .returned (.slice A n c) ∧ l.length = n ∧ Hid (SlB w' w'.heap.size A c l) ∧ Hid (Below w.heap.size w w')) := hid fun w => by rw [← hl.out]; exact encoder_e w t ht
  have K0 : Hid (Below w.heap.size w (w.alloc (.cells t.cs 26))) := hid ((Below.refl _ w).alloc (Nat.le_refl _) _)
  go_enter Try.func5, Try.ntmps5
  go_wp2_with (refine bx26 (by rfl) _ (by rfl) _ (by rfl) hs ?_; intro G0)
  have G0d : Hid (Box (w.alloc (.cells t.cs 26)).drew w.heap.size 26 t.cs) := G0
  have K0d := drw K0
  have S0 := box_isB G0d.out ht.len
  go_region_held3 (fun u => isB u w.heap.size = true ∧ cs26 u w.heap.size = t.cs) (first | exact S0 | exact S1 | exact S2 | exact S3 | exact S4) ((first
    | (go_at_call 9
       (with_reducible refine (call_alive5 _).mono ?_)
       rintro e u1 ⟨rfl, k⟩
       have G1 := hid (box_below G0d.out k.out)
       have K1 := bel_t K0d k.out
       have S1 := box_isB G1.out ht.len
       clear k)
    | (go_at_call 25
       (with_reducible refine (HA.out _).mono ?_)
       rintro e u2 ⟨A2, n2, c2, rfl, hn2, L2, k⟩
       have G2 := hid (box_below G1.out k.out)
       have K2 := bel_t K1 k.out
       have S2 := box_isB G2.out ht.len
       clear k)
    | (go_at_call 26
       (with_reducible refine (HB.out _).mono ?_)
       rintro e u3 ⟨A3, n3, c3, rfl, hn3, L3, k⟩
       have G3 := hid (box_below G2.out k.out)
       have K3 := bel_t K2 k.out
       have S3 := box_isB G3.out ht.len
       have L23 := slb_at L2 k
       clear k)
    | (go_at_call 24
       (with_reducible refine (bytes_two _ A2 A3 c2 c3 n2 n3 l hn2 hn3 L23 L3 (by unfold maxLen; omega)).mono ?_)
       rintro e u4 ⟨rfl, k⟩
       have G4 := hid (box_below G3.out k.out)
       have K4 := bel_t K3 k.out
       have S4 := box_isB G4.out ht.len
       clear k)))
  go_wp2
  go_ret
  exact ⟨rfl, K4⟩
end Go.Proofs.Ytgkcappcjlfloaa
