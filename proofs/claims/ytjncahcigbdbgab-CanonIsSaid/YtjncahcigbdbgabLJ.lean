import Derived.Test.YtjncahcigbdbgabLI
namespace Go.Proofs.Ytjncahcigbdbgab
open Go.RowKit

/-! Layer 13: the document's examples. -/
theorem retrf_eq {w W : World} {fn : FuncId} {args : Array Value} {r r' : List UInt8 × List (List UInt8 × Bool) × Bool} (he : Hid (r = r')) (h : Calls Try.prog fn args w (RetRF W r)) : Calls Try.prog fn args w (RetRF W r') := by
  rwa [he.out] at h
theorem each_of {qs : List Rc} {L : List (List UInt8 × Bool)} (h : Hid (lnR qs = L)) (hL : ∀ y ∈ L, y.1.length ≤ 140737488351232) : Hid (∀ r ∈ qs, r.bs.length ≤ 140737488351232) := hid (ln_each (K := 140737488351232) h.out hL)
def L1 : List (List UInt8 × Bool) := [([97, 98, 10], false), ([], true)]
def L2 : List (List UInt8 × Bool) := [([10], false), ([], true)]
def L3 : List (List UInt8 × Bool) := [([], true)]
theorem rd (w : World) (A : Option Addr) (n c : Nat) (qs : List Rc) (k : Int) {L : List (List UInt8 × Bool)} {r : List UInt8 × List (List UInt8 × Bool) × Bool} (hl : Hid (LnV w w.heap.size A c qs)) (hn : Hid (qs.length = n)) (hm : L.length ≤ 10) (hL : ∀ y ∈ L, y.1.length ≤ 140737488351232) (hq : Hid (lnR qs = L)) (hr : readL L k = r) :
    Calls Try.prog 13 #[.slice A n c, .int .i64 k] w (RetRF w r) := by
  have hnn : n ≤ 1000 := by rw [← hn.out, ← lnR_len, hq.out]; omega
  exact retrf_eq (hid (by rw [hq.out]; exact hr)) (readp_any w A n c qs k hl hn.out hnn (each_of hq hL))
theorem LnF.ln_ {w : World} {base c : Nat} {A : Option Addr} {qs : List Rc} (h : Hid (LnF w base A c qs)) : Hid (LnV w w.heap.size A c qs) := hid h.out.ln
set_option maxRecDepth 100000 in
set_option maxHeartbeats 4000000 in
theorem alive_any (w : World) : Calls Try.prog 7 #[] w fun e w' => e = .returned (.bool true) ∧ Hid (Below w.heap.size w w') := by
  have kc := fun (w : World) (C : Array Value) (n c : Nat) => Lib.run_convert_bytes_const (P := Try.prog) w 23 5 C n c Try.underlying23 Try.underlying5
  obtain ⟨W, hW⟩ : ∃ W, W = (w.alloc (.cells #[.int .u8 97, .int .u8 98, .int .u8 10] 5 (3, 4))).alloc (.cells #[.slice (some ⟨w.heap.size, 0, none⟩) 3 3, .bool false, .slice none 0 0, .bool true] 30) := ⟨_, rfl⟩
  have b1 : Below w.heap.size w (w.alloc (.cells #[.int .u8 97, .int .u8 98, .int .u8 10] 5 (3, 4))) := (Below.refl _ w).alloc (Nat.le_refl _) _
  have K0 : Hid (Below w.heap.size w W) := hid (by rw [hW]; exact b1.alloc (by simp) _)
  have hl0 : Hid (LnV W W.heap.size (some ⟨w.heap.size + 1, 0, none⟩) 2 [⟨some ⟨w.heap.size, 0, none⟩, 3, [97, 98, 10], false⟩, ⟨none, 0, [], true⟩]) := hid (by
    have hb : Box W (w.heap.size + 1) 30 #[.slice (some ⟨w.heap.size, 0, none⟩) 3 3, .bool false, .slice none 0 0, .bool true] := by rw [hW]; exact box_nw (by simp)
    have hS : SlB W W.heap.size (some ⟨w.heap.size, 0, none⟩) 3 [97, 98, 10] := by
      have h := slb_litm w [97, 98, 10] 3 #[.int .u8 97, .int .u8 98, .int .u8 10] (3, 4) rfl rfl (by decide)
      rw [hW]
      exact (slb_at (hid h) (hid ((Below.refl _ _).alloc (Nat.le_refl _) _))).out
    refine ⟨Nat.le_refl _, by decide, (fun e => by cases e), fun _ => ⟨_, 0, rfl, hb.lt, fun j u hu => ?_⟩, fun r hr => ?_⟩
    · rw [Nat.zero_add, hb.cell j]
      simpa [rcV, Rc.v] using hu
    · simp only [List.mem_cons, List.not_mem_nil, or_false] at hr
      rcases hr with rfl | rfl
      · exact hS
      · exact slb_nil _)
  have hq0 : Hid (lnR [⟨some ⟨w.heap.size, 0, none⟩, 3, [97, 98, 10], false⟩, ⟨none, 0, [], true⟩] = L1) := hid rfl
  have E1 : Hid (readL L1 2 = ([97, 98], L2, true)) := hid (by rfl)
  have E2 : Hid (readL L2 9 = ([10], L3, true)) := hid (by rfl)
  have E3 : Hid (readL L3 9 = ([], [], true)) := hid (by rfl)
  have E4 : Hid (readL [] 9 = ([], [], false)) := hid (by rfl)
  have h22 : Hid ([(⟨some ⟨w.heap.size, 0, none⟩, 3, [97, 98, 10], false⟩ : Rc), ⟨none, 0, [], true⟩].length = 2) := hid rfl
  have hu : Hid (usedL L1 = 4) := hid (by rfl)
  have ht0 := each_of hq0 (by decide)
  have n22 : 2 ≤ 1000 := by omega
  have hc1 : Calls Try.prog 13 #[.slice (some ⟨w.heap.size + 1, 0, none⟩) 2 2, .int .i64 2] ((w.alloc (.cells #[.int .u8 97, .int .u8 98, .int .u8 10] 5 (3, 4))).alloc (.cells #[.slice (some ⟨w.heap.size, 0, none⟩) 3 3, .bool false, .slice none 0 0, .bool true] 30)) (RetRF W ([97, 98], L2, true)) := by
    rw [← hW]
    exact rd W _ 2 2 _ 2 hl0 h22 (by decide) (by decide) hq0 E1.out
  go_enter Try.func7, Try.ntmps7
  go_wp2_with (first
    | (go_at_call 13
       (first
         | ((with_reducible refine hc1.mono ?_)
            rintro e u1 ⟨B1, nb1, cb1, A1, n1, c1, q1, rfl, hb1, S1, _, hq1, hn1, F1, k1⟩
            obtain rfl : nb1 = 2 := hb1.out.symm
            have K1 := bel_t K0 k1.out
            have hl1 := ln_up hl0 k1.out
            have F1l := LnF.ln_ F1
            clear k1 F1 hb1)
         | ((with_reducible refine (rd u1 A1 n1 c1 q1 9 F1l hn1 (by decide) (by decide) hq1 E2.out).mono ?_)
            rintro e u2 ⟨B2, nb2, cb2, A2, n2, c2, q2, rfl, hb2, S2, _, hq2, hn2, F2, k2⟩
            obtain rfl : nb2 = 1 := hb2.out.symm
            have K2 := bel_t K1 k2.out
            have hl2 := ln_up hl1 k2.out
            have S12 := slb_at S1 k2
            have F2l := LnF.ln_ F2
            clear k2 F2 hb2 F1l hl1)
         | ((with_reducible refine (rd u2 A2 n2 c2 q2 9 F2l hn2 (by decide) (by decide) hq2 E3.out).mono ?_)
            rintro e u3 ⟨B3, nb3, cb3, A3, n3, c3, q3, rfl, hb3, S3, _, hq3, hn3, F3, k3⟩
            obtain rfl : nb3 = 0 := hb3.out.symm
            have K3 := bel_t K2 k3.out
            have hl3 := ln_up hl2 k3.out
            have S13 := slb_at S12 k3
            have S23 := slb_at S2 k3
            have F3l := LnF.ln_ F3
            clear k3 F3 hb3 F2l hl2 S12 S2)
         | ((with_reducible refine (rd u3 A3 n3 c3 q3 9 F3l hn3 (by decide) (by decide) hq3 E4.out).mono ?_)
            rintro e u4 ⟨B4, nb4, cb4, A4, n4, c4, q4, rfl, hb4, S4, _, hq4, hn4, F4, k4⟩
            have K4 := bel_t K3 k4.out
            have hl4 := ln_up hl3 k4.out
            have S14 := slb_at S13 k4
            have S24 := slb_at S23 k4
            have v1 : (convert 23 9 (.slice B1 2 cb1)).run Try.prog u4 = .ok (.string ⟨#[97, 98]⟩) u4 := str_back u4 _ B1 cb1 [97, 98] S14.out.2.2.2
            have v2 : (convert 23 9 (.slice B2 1 cb2)).run Try.prog u4 = .ok (.string ⟨#[10]⟩) u4 := str_back u4 _ B2 cb2 [10] S24.out.2.2.2
            clear k4)))
    | (go_at_call 18
       (with_reducible refine (usedp_any u4 _ 2 2 _ hl4 h22.out n22 ht0).mono ?_)
       rw [hq0.out, hu.out]
       rintro e u5 ⟨rfl, k5⟩
       have K5 := bel_t K4 k5.out))
  go_ret
  exact ⟨rfl, K5⟩
end Go.Proofs.Ytjncahcigbdbgab
