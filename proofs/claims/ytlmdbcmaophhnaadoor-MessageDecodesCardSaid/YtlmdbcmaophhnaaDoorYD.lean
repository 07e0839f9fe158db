import Derived.Test.YtlmdbcmaophhnaaDoorYC
namespace Go.Proofs.YtlmdbcmaophhnaaDoor
open Go.RowKit

def RowR (w : World) (bs : List UInt8) (e : Ending) (w' : World) : Prop :=
  ∃ A c, e = .returned (.slice A bs.length c) ∧ w'.ownsRow w.heap.size 5 1 (.slice A bs.length c) bs.length (bv bs) ∧ Below w.heap.size w w'

theorem four_w (n : Nat) (h : n < 4294967296) (w : World) :
    Calls Tryd.prog 56 #[.int .u32 (IntKind.u32.wrap n)] w fun e w' => ∃ A c, e = .returned (.slice A 4 c) ∧ w'.ownsRow w.heap.size 5 1 (.slice A 4 c) 4 (bv (four n)) ∧ Below w.heap.size w w' := by
  have e : IntKind.u32.wrap (n : Int) = n := by
    simp [IntKind.wrap, IntKind.bits, IntKind.signed]
    omega
  rw [e]
  exact four_any n h w

set_option maxHeartbeats 2000000 in
set_option maxRecDepth 100000 in
theorem one_any (w : World) (B : Nat) (v : Value) (f : Fd) (hv : FdV w B v f) (hB : B ≤ w.heap.size) (hk : 1 ≤ f.kind ∧ f.kind ≤ 6) (hf : fault f = 0) :
    Calls Tryd.prog 36 #[v] w (RowR w (enc f)) := by
  obtain ⟨tA, tc, lA, lc, rfl, hn, _, htl, hll, ht, hT, hL, hsz⟩ := hv
  have hbo : ∀ o, Below w.heap.size w (w.alloc o) := fun o => (Below.refl _ _).alloc (Nat.le_refl _) _
  have HBO := hid hbo
  clear hbo
  unfold maxLen at htl hll
  obtain ⟨i5, hi5, hz5, hz51, hz52⟩ := info_parts Tryd.info5
  have hc : f.kind = 1 ∨ f.kind = 2 ∨ f.kind = 3 ∨ f.kind = 4 ∨ f.kind = 5 ∨ f.kind = 6 := by omega
  clear hk
  rcases hc with h | h | h | h | h | h
  · have h1 : f.n ≤ 255 := by
      simp only [fault, h, if_true] at hf
      split at hf <;> omega
    have HE : Hid (enc f = [UInt8.ofNat f.n]) := by show _ = _; simp [enc, h]
    have HV : Hid (bv [UInt8.ofNat f.n] = [.int .u8 f.n]) := by show _ = _; simp [bv]; omega
    rw [h, HE.out]
    clear h hf
    go_enter Tryd.func36, Tryd.ntmps36
    go_wp2
    go_ret
    refine ⟨_, _, rfl, ?_, (HBO.out _).alloc (by simp) _⟩
    rw [HV.out]
    have h := World.ownsRow_lit (base := w.heap.size) (e := 5) (size := 1) (w.alloc (.cells #[.int .i64 1, .int .u32 f.n, .slice tA f.text.length tc, .slice lA f.list.length lc] 50)) #[.int .u8 f.n] 1 (by simp) (by unfold maxLen; omega) rfl
    simpa using h
  · have h1 : f.n ≤ 1 := by
      simp only [fault, h] at hf
      simp at hf
      omega
    have HE : Hid (enc f = [UInt8.ofNat f.n]) := by show _ = _; simp [enc, h]
    have HV : Hid (bv [UInt8.ofNat f.n] = [.int .u8 f.n]) := by show _ = _; simp [bv]; omega
    rw [h, HE.out]
    clear h hf
    go_enter Tryd.func36, Tryd.ntmps36
    go_wp2
    go_ret
    refine ⟨_, _, rfl, ?_, (HBO.out _).alloc (by simp) _⟩
    rw [HV.out]
    have h := World.ownsRow_lit (base := w.heap.size) (e := 5) (size := 1) (w.alloc (.cells #[.int .i64 2, .int .u32 f.n, .slice tA f.text.length tc, .slice lA f.list.length lc] 50)) #[.int .u8 f.n] 1 (by simp) (by unfold maxLen; omega) rfl
    simpa using h
  · have HE : Hid (enc f = four f.n) := by show _ = _; simp [enc, h]
    rw [h, HE.out]
    clear h hf
    go_enter Tryd.func36, Tryd.ntmps36
    go_wp2_with (first
      | (go_at_call 56
         ((with_reducible refine (four_any f.n hn _).mono ?_); rintro e w2 ⟨A2, c2, rfl, ho2, hb2⟩)))
    go_ret
    exact ⟨_, _, rfl, own_mono ho2 (by simp), (HBO.out _).trans (hb2.mono (by simp))⟩
  · have hl4 : f.text.length ≤ 32768 := by
      simp only [fault, h] at hf
      simp at hf
      exact hf
    have HE : Hid (enc f = four f.text.length ++ f.text) := by show _ = _; simp [enc, h]
    have HT := hid hT
    rw [h]
    clear h hf hT hL
    go_enter Tryd.func36, Tryd.ntmps36
    go_wp2
    generalize hW : w.alloc _ = w1
    have hbx : Box w1 w.heap.size 50 #[.int .i64 4, .int .u32 f.n, .slice tA f.text.length tc, .slice lA f.list.length lc] := by subst hW; exact Box.new w 50 _
    have HB1 : Hid (Below w.heap.size w w1.drew) := by subst hW; exact bel_drewN (HBO.out _) 1
    have HT1 : Hid (Lies w1.drew B tA (bv f.text)) := HT.out.below (HB1.out.mono hB)
    have c12 : w1.cell? ⟨w.heap.size, 2, none⟩ = some (.slice tA f.text.length tc) := hbx.cell 2
    have hz1 : w.heap.size ≤ w1.heap.size := HB1.out.size
    have HX1 : Hid (Box w1.drew w.heap.size 50 #[.int .i64 4, .int .u32 f.n, .slice tA f.text.length tc, .slice lA f.list.length lc]) := hbx
    clear hbx hW HT
    go_region_law (first
      | (go_simp
         go_at_call 56
         ((with_reducible refine (four_w f.text.length (by omega) _).mono ?_); rintro e w2 ⟨A2, c2, rfl, ho2, hb2⟩)
         have hx2 := box_below HX1.out hb2
         have c22 : w2.cell? ⟨w.heap.size, 2, none⟩ = some (.slice tA f.text.length tc) := hx2.cell 2
         have HO2 := hid (own_mono ho2 hz1)
         have HB2 := hid (HB1.out.trans (hb2.mono hz1))
         have HT2 := hid (HT1.out.below (hb2.mono (Nat.le_trans hB hz1)))
         have hz2 : w.heap.size ≤ w2.heap.size := HB2.out.size
         clear ho2 hb2 hx2)
      | (refine step_app _ rfl (.tmp 24) (.tmp 26) 23 rfl w.heap.size 5 i5 _ 1 1 Tryd.underlying23 hi5 hz5 hz51 hz52 rfl (by decide) A2 4 c2 (bv (four f.text.length)) rfl HO2.out B tA f.text.length tc (bv f.text) rfl (by simp [bv]) HT2.out (bv_one _) (by unfold maxLen; omega) (by omega) hz2 ?_
         intro A8 c8 w8 ho8 hg8
         have HB8 := hid (app_bel HB2.out HO2.out hg8)
         have HO8 := hid ho8
         clear ho8 hg8))
    all_goals
      go_wp2
      go_ret
      have e : (enc f).length = 4 + f.text.length := by rw [HE.out, List.length_append, four_len]
      refine ⟨A8, c8, ?_, ?_, HB8.out⟩
      · rw [e]; rfl
      · rw [e, HE.out, bv_append]
        exact HO8.out
  · simp only [fault, h, namesE] at hf
    simp at hf
    have h64 : f.list.length ≤ 64 := by
      by_cases hh : 64 < f.list.length
      · simp [hh] at hf
      · omega
    have hall : f.list.all nameOk = true := by
      rw [if_neg (by omega)] at hf
      simpa using hf
    have HJ := hid (joined_len f.list hall h64)
    have HE : Hid (enc f = four (joined f.list).length ++ joined f.list) := by show _ = _; simp [enc, h]
    have HA := hid hall
    rw [h]
    clear h hf hT hall
    have HL := hid hL
    clear hL
    go_enter Tryd.func36, Tryd.ntmps36
    go_wp2_with (first
      | (go_at_call 57
         ((with_reducible refine (joined_any _ lA lc f.list ((HL.out.alloc hB _).more (by simp; omega)) h64 HA.out).mono ?_); rintro e w2 ⟨A2, c2, rfl, ho2, hb2⟩)
         obtain ⟨n, HN⟩ : ∃ n, Hid ((joined f.list).length = n) := ⟨_, hid rfl⟩
         have hn4 : n ≤ 4160 := by have := HJ.out; rw [HN.out] at this; exact this
         rw [HN.out] at ho2 ⊢
         have HO2 := hid (own_mono (b' := w.heap.size) ho2 (by simp))
         have HB2 := hid ((HBO.out _).trans (hb2.mono (by simp)))
         have hz2 : w.heap.size ≤ w2.heap.size := HB2.out.size
         clear ho2 hb2)
      | (go_at_call 56
         ((with_reducible refine (four_any n (by omega) _).mono ?_); rintro e w3 ⟨A3, c3, rfl, ho3, hb3⟩)
         have HL3 := hid ((Lies.own HO2.out).below hb3)
         have HO3 := hid (own_mono ho3 hz2)
         have HB3 := hid (HB2.out.trans (hb3.mono hz2))
         have hz3 : w.heap.size ≤ w3.heap.size := HB3.out.size
         clear ho3 hb3)
      | (at_builtin
         (
           refine wpList_app _ rfl (.tmp 36) (.tmp 37) 23 rfl w.heap.size 5 i5 _ 1 1 Tryd.underlying23 hi5 hz5 hz51 hz52 rfl (by decide) A3 4 c3 (bv (four n)) rfl HO3.out w2.heap.size A2 n c2 (bv (joined f.list)) rfl ?g1 HL3.out (bv_one _) ?g3 ?g4 ?g5 ?_
           case g1 => rw [bv_length, HN.out, Nat.mul_one]
           case g3 => unfold maxLen; omega
           case g4 => omega
           case g5 => omega
           intro A8 c8 w8 ho8 hg8
           have HB8 := hid (app_bel HB3.out HO3.out hg8)
           have HO8 := hid ho8
           clear ho8 hg8)))
    go_ret
    have e : (enc f).length = 4 + n := by rw [HE.out, List.length_append, four_len, HN.out]
    refine ⟨A8, c8, ?_, ?_, HB8.out⟩
    · rw [e]; rfl
    · rw [e, HE.out, bv_append, HN.out]
      exact HO8.out
  · have hl6 : f.text.length ≤ 33792 := by
      simp only [fault, h] at hf
      simp at hf
      exact hf
    have HE : Hid (enc f = f.text) := by show _ = _; simp [enc, h]
    have HT := hid hT
    rw [h]
    clear h hf hT hL
    go_enter Tryd.func36, Tryd.ntmps36
    go_wp2_with (first
      | (at_builtin
         (
           refine wpList_app _ rfl (.tmp 39) (.tmp 41) 23 rfl w.heap.size 5 i5 _ 1 1 Tryd.underlying23 hi5 hz5 hz51 hz52 rfl (by decide) _ 0 0 [] rfl (lit_own (by simp) (by simp)) B tA f.text.length tc (bv f.text) rfl ?g1 ?g2 (bv_one _) ?g3 ?g4 ?g5 ?_
           case g1 => rw [bv_length, Nat.mul_one]
           case g2 => exact (HT.out.alloc hB _).alloc (by simp; omega) _
           case g3 => unfold maxLen; omega
           case g4 => omega
           case g5 => simp; omega
           intro A8 c8 w8 ho8 hg8
           simp only [Nat.zero_add, List.nil_append] at ho8 ⊢
           have HB8 := hid ((HBO.out _).trans ((lit_grown (by simp) hg8).mono (by simp)))
           have HO8 := hid ho8
           clear ho8 hg8)))
    go_ret
    refine ⟨A8, c8, ?_, ?_, HB8.out⟩
    · rw [HE.out]; rfl
    · rw [HE.out]
      exact HO8.out
end Go.Proofs.YtlmdbcmaophhnaaDoor
