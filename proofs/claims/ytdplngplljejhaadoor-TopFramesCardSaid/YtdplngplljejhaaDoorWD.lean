import Derived.Test.YtdplngplljejhaaDoorWC
import Derived.Test.YtdplngplljejhaaDoorShelf
namespace Go.Proofs.YtdplngplljejhaaDoor
open Go.RowKit

def joined (l : List ByteArray) : List UInt8 := Lib.join (l.map (·.data.toList)) [44]
theorem joined_len (l : List ByteArray) (h : l.all nameOk = true) (h64 : l.length ≤ 64) : (joined l).length ≤ 4160 := by
  have hl : ∀ l : List ByteArray, l.all nameOk = true → Lib.lens (l.map (·.data.toList)) ≤ 64 * l.length := by
    intro l
    induction l with
    | nil => simp [Lib.lens]
    | cons x r ih =>
      intro h
      simp only [List.all_cons, Bool.and_eq_true] at h
      have h1 := ih h.2
      have h2 : x.size ≤ 64 := by have := h.1; simp only [nameOk, Bool.and_eq_true, decide_eq_true_eq] at this; omega
      simp only [Lib.lens, List.map_cons, List.sum_cons, List.length_cons, Array.length_toList, ByteArray.size_data] at h1 ⊢
      omega
  cases l with
  | nil => simp [joined, Lib.join_nil]
  | cons x r =>
    have h1 := hl (x :: r) h
    unfold joined
    rw [List.map_cons, Lib.join_length]
    simp only [List.map_cons, List.length_map, List.length_cons, List.length_nil] at h1 h64 ⊢
    omega

theorem join_any (B : Nat) (A : Option Addr) (c : Nat) (ss : List ByteArray) (w : World) (hL : Lies w B A (sv ss)) (hB : B ≤ w.heap.size) (hc : ss.length ≤ c) (hN : ss.length ≤ 64) (hlen : (joined ss).length ≤ 4160) :
    Calls Tryd.prog 103 #[.slice A ss.length c, .string ⟨#[44]⟩] w fun e w' => e = .returned (.string ⟨(joined ss).toArray⟩) ∧ Below w.heap.size w w' := by
  cases ss with
  | nil => exact (Tryd.strings_Join_none A c ⟨#[44]⟩ w).mono fun e w' ⟨h1, h2⟩ => ⟨h1, h2 ▸ Below.refl _ _⟩
  | cons x r =>
    obtain ⟨b, o, rfl, hb, hcell⟩ := hL (by simp [sv])
    exact Tryd.strings_Join b o c (x :: r) ⟨#[44]⟩ w (fun j y hy => hcell j _ (by simp only [sv, List.getElem?_map, hy, Option.map_some])) (by omega) (by omega) hc (by
      have h : (Lib.join ((x :: r).map (·.data.toList)) [44]).length ≤ 4160 := hlen
      exact Nat.le_trans h (by omega))

def namesE (l : List ByteArray) : Int := if 64 < l.length then 6 else if l.all nameOk then 0 else 4

set_option maxHeartbeats 800000 in
set_option maxRecDepth 100000 in
theorem putNames_any (base g : Nat) (bs : List UInt8) (w : World) (v : Value) (f : Fd) (hv : FdV w base v f) (hs : WSt w base g bs) (hl : bs.length ≤ 100000) :
    Calls Tryd.prog 76 #[.pointer (some ⟨g, 0, none⟩), v] w (PutR base g bs (namesE f.list) (four (joined f.list).length ++ joined f.list) w) := by
  obtain ⟨tA, tc, lA, lc, rfl, hn, _, _, ht, hcap, _, hT, hsz⟩ := hv
  have k0 : ∀ o, Kept base [126, 5] w (w.alloc o) := fun o => (Kept.refl _ _ _).alloc o
  have s0 : ∀ o, WSt (w.alloc o) base g bs := fun o => hs.kept (B := 0) (T := []) ((Kept.refl _ _ _).alloc o) (by simp) (by simp)
  have hw0 := hs.lt
  by_cases h : 64 < f.list.length
  · have he : namesE f.list = 6 := by simp [namesE, h]
    rw [he]
    go_enter Tryd.func76, Tryd.ntmps76
    go_wp2
    go_ret
    exact ⟨rfl, k0 _, by simp⟩
  · have HE : Hid (namesE f.list = if f.list.all nameOk then 0 else 4) := by show _ = _; simp [namesE, h]
    obtain ⟨i0, hi0, hz0, hz1, hz2⟩ := info_parts Tryd.info5
    have HL := hid hl; clear hl
    have HT := hid hT; clear hT
    have HS := hid hsz; clear hsz
    go_enter Tryd.func76, Tryd.ntmps76
    go_wp2
    generalize hW : w.alloc _ = w1
    have hbx : Box w1 w.heap.size 80 #[Value.int IntKind.i64 f.kind, Value.int IntKind.u32 f.n, Value.slice tA f.text.length tc, Value.slice lA f.list.length lc] := by subst hW; exact Box.new w 80 _
    have hk1 : Kept base [126, 5] w w1 := by subst hW; exact k0 _
    have hs1 : WSt w1 base g bs := by subst hW; exact s0 _
    clear hW k0 s0 hs
    have hc3 : w1.cell? ⟨w.heap.size, 3, none⟩ = some (.slice lA f.list.length lc) := hbx.cell 3
    have HT1 := hid (HT.out.below (hk1.below hw0))
    clear HT
    have HK1 := hid hk1; clear hk1
    go_loop [15] (fun i => ∃ k : Nat, k ≤ f.list.length ∧ i = .int .i64 k ∧ (f.list.take k).all nameOk = true) (fun i => f.list.length - (intOf i).toNat)
    case atStart => exact ⟨0, Nat.zero_le _, rfl, rfl⟩
    case round =>
      obtain ⟨k, hk, rfl, hal⟩ := hrel
      have HA := hid hal; clear hal
      by_cases hlt : k < f.list.length
      · obtain ⟨b, o, rfl, hb, hcell⟩ := HT1.out (by intro e; have := congrArg List.length e; simp [sv] at this; rw [this] at hlt; simp at hlt)
        have hck : w1.cell? ⟨b, o + k, none⟩ = some (.string f.list[k]) := hcell k _ (by simp [sv, hlt])
        have hszk := HS.out f.list[k] (List.getElem_mem hlt)
        clear hcell
        by_cases hb : nameOk f.list[k] = true
        · have hS : (f.list.take (k + 1)).all nameOk = true := by rw [take_snoc _ _ hlt, List.all_append, HA.out]; simp [hb]
          have HS' := hid hS; clear hS
          have HB := hid hb; clear hb
          go_wp2_with (go_at_call 99; refine (nameRight_any _ _ hszk).mono ?_; rintro e w' ⟨he, rfl⟩; rw [HB.out] at he; subst he)
          go_round
          case rel => exact ⟨k + 1, by omega, by go_num, HS'.out⟩
          case measure => simp [intOf]; omega
        · have hbf : nameOk f.list[k] = false := by simpa using hb
          have hall : f.list.all nameOk = false := by rw [List.all_eq_false]; exact ⟨_, List.getElem_mem hlt, hb⟩
          have HB := hid hbf
          have HF := hid hall
          clear hb hbf hall
          go_wp2_with (go_at_call 99; refine (nameRight_any _ _ hszk).mono ?_; rintro e w' ⟨he, rfl⟩; rw [HB.out] at he; subst he)
          go_ret
          have e := HE.out
          rw [HF.out] at e
          rw [e]
          exact ⟨rfl, HK1.out, by simp⟩
      · have hks : k = f.list.length := by omega
        have hall : f.list.all nameOk = true := by have h := HA.out; rw [hks, List.take_length] at h; exact h
        clear hks
        have hjl := joined_len _ hall (by omega)
        have HF := hid hall; clear hall
        have hcl := hcap.2
        have hjs : (⟨(joined f.list).toArray⟩ : ByteArray).size = (joined f.list).length := rfl
        have HJS := hid hjs; clear hjs
        have HJL := hid hjl
        go_wp2_with (first
          | (go_at_call 103
             refine (join_any base lA lc f.list _ HT1.out (Nat.le_trans hw0 HK1.out.size) hcl (by omega) HJL.out).mono ?_
             rintro e w2 ⟨rfl, hb2⟩
             have hk2 : Kept base [126, 5] w w2 := HK1.out.trans (Kept.of_below hb2 _ _)
             have hs2 : WSt w2 base g bs := hs1.kept (Kept.of_below hb2 0 []) (by simp) (by simp)
             have HK2 := hid hk2
             clear hk2 hb2)
          | (go_at_call 102; go_must (
             refine (number_any base g bs (joined f.list).length (by have := HJL.out; omega) _ hs2 (by have := HL.out; omega)).mono ?_
             rintro e w3 ⟨rfl, hs3, hk3⟩
             have hk3' : Kept base [126, 5] w w3 := HK2.out.trans hk3
             have HK3 := hid hk3'
             obtain ⟨hbg, A, c, hx, ho⟩ := hs3
             obtain ⟨bs1, HB⟩ : ∃ bs1, Hid (bs ++ four (joined f.list).length = bs1) := ⟨_, rfl⟩
             have hl4 : Hid (bs1.length = bs.length + 4) := by show _ = _; rw [← HB.out]; simp [four]
             rw [HB.out] at hx ho
             have hc1 : w3.cell? ⟨g, 0, none⟩ = some (.slice A bs1.length c) := hx.cell 0
             clear hk3 hk3'))
          | (at_builtin
             refine wpList_app_str _ rfl (.tmp 35) (.tmp 36) 22 9 rfl base 5 i0 Tryd.underlying22 Tryd.underlying9 hi0 hz0 hz1 hz2 A bs1.length c (bv bs1) rfl ho ⟨(joined f.list).toArray⟩ rfl (by have := HL.out; have := hl4.out; have := HJS.out; have := HJL.out; unfold maxLen; omega) (by have := HL.out; have := hl4.out; have := HJS.out; have := HJL.out; omega) (Nat.le_trans hw0 HK3.out.size) ?_
             intro A' c' w4 ho' hg
             have hx2 : Box w4 g 126 #[.slice A bs1.length c] := hx.same (hg.block g hx.lt (fun e => own_ne ho hx (by decide) e.symm))
             have hc2 : w4.cell? ⟨g, 0, none⟩ = some (.slice A bs1.length c) := hx2.cell 0
             have hf2 : w4.frozen? ⟨g, 0, none⟩ = false := hx2.frozen 0
             have HF2 := hid (wst_store (w := w3) (cs := joined f.list) (A' := A') (c' := c') hbg hx ho HK3.out hg ho')))
        go_ret
        have e := HE.out
        rw [HF.out] at e
        simp at e
        rw [e]
        have e2 : bs1 ++ joined f.list = bs ++ (four (joined f.list).length ++ joined f.list) := by rw [← HB.out, List.append_assoc]
        refine ⟨rfl, HF2.out.2, fun _ => ?_⟩
        rw [← e2]
        exact HF2.out.1

end Go.Proofs.YtdplngplljejhaaDoor
