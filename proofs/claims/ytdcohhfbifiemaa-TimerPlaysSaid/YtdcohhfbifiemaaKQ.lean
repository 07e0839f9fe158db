import Derived.Test.YtdcohhfbifiemaaKP
namespace Go.Proofs.Ytdcohhfbifiemaa
open Go.RowKit Go.Maps

def lenV : Value → Nat
  | .slice _ n _ => n
  | _ => 0
/-- Where a row of numbers grows the timers stay. -/
theorem tr_grown {w w' : World} {T H M base n : Nat} {rb : Option Nat} {S : List Tm} {v : Value} {xs : List Value} (ht : Tr w T H M rb S) (hv : w.ownsRow base 3 1 v n xs) (hg : w.grownBy w' v.ownBlock) : Tr w' T H M rb S := by
  have hk : But v.ownBlock.toList w w' := (But.refl _ w).grown hg fun k hk => .inl (by rw [hk]; simp)
  obtain ⟨L, hp, hh, hpm⟩ := ht.body
  obtain ⟨A, c, f, hb, hr, hm, _⟩ := hp.body
  have hne : ∀ g, v.ownBlock = some g → ∃ cs, Box w g 3 cs := fun g hg => (own_box hv g hg).2
  refine ht.keep hk (fun e => ?_) (fun x hx e => ?_)
  · obtain ⟨cs, hg⟩ := hne T (by simpa using e)
    exact box_ne ht.box hg (by decide) rfl
  · obtain ⟨cs, hg⟩ := hne x (by simpa using e)
    simp only [plB, List.mem_cons, Option.mem_toList] at hx
    rcases hx with e | e | hx
    · subst e
      exact box_ne hb hg (by decide) rfl
    · subst e
      exact hm.ne hg rfl
    · obtain ⟨cs', hx⟩ := hr.box x hx
      exact box_ne hx hg (by decide) rfl
theorem du_next {w wr w1 : World} {T H M n c : Nat} {rb : Option Nat} {S P R : List Tm} {now : Int} {A : Option Addr} (h : Du w wr T H M rb S P R now A n c) (k : But [] wr w1) : Du w w1 T H M rb S P R now A n c := by
  obtain ⟨⟨rb1, h1, h2⟩, h3⟩ := h.nx
  exact ⟨h.split, h.due, h.len, ⟨⟨rb1, h1.keep0 k, h2⟩, h3.same (k.mono (by simp))⟩, k.own h.own (by simp)⟩
theorem du_pop {w w1 w2 : World} {T H M n c : Nat} {rb rb1 : Option Nat} {S P R : List Tm} {s : Tm} {now : Int} {A : Option Addr} (h : Du w w1 T H M rb S P (s :: R) now A n c) (ht : Tr w1 T H M rb1 (s :: R)) (hr : ∀ y, rb1 = some y → rb = some y ∨ w.heap.size ≤ y) (hk : But (plB H M rb) w w1)
    {L : List Tm} (hpm : L.Perm (s :: R)) (hF : ∃ L', Pl w2 H M rb1 L' ∧ OneL L L' s ∧ But (plB H M rb1) w1 w2) : Nx w w2 T H M rb R ∧ w2.ownsRow w.heap.size 3 1 (.slice A n c) n (iv (ids P)) := by
  obtain ⟨L', hp, ho, hk2⟩ := hF
  have h1 := one_fin ht hp hpm ho hk2
  rw [rem_head ht.nd] at h1
  exact ⟨h1.trans hr hk, tr_own ht hk2 h.own⟩
theorem du_app {w w2 w3 w4 : World} {T H M n c c4 : Nat} {rb : Option Nat} {S P R : List Tm} {s : Tm} {now : Int} {A A4 : Option Addr} (hs : S = P ++ s :: R) (hd : ∀ y ∈ P, y.2 ≤ now) (hl : P.length = n) (hsd : s.2 ≤ now) (hnx : Nx w w2 T H M rb R) (hown : w2.ownsRow w.heap.size 3 1 (.slice A n c) n (iv (ids P)))
    (k3 : But [] w2 w3) (hg : w3.grownBy w4 (Value.slice A n c).ownBlock) (hown4 : w4.ownsRow w.heap.size 3 1 (.slice A4 (n + 1) c4) (n + 1) (iv (ids P) ++ [.int .i64 s.1])) : Du w w4 T H M rb S (P ++ [s]) R now A4 (n + 1) c4 := by
  obtain ⟨⟨rb1, h1, h2⟩, h3⟩ := hnx
  have hown3 := k3.own hown (by simp)
  refine ⟨by rw [hs]; simp, fun y hy => ?_, by simp [hl], ⟨⟨rb1, tr_grown (h1.keep0 k3) hown3 hg, h2⟩, (h3.same (k3.mono (by simp))).grown hg (fun k hk => .inr (hown3.lt k hk).1)⟩, ?_⟩
  · rcases List.mem_append.1 hy with h | h
    · exact hd y h
    · simp at h
      subst h
      exact hsd
  · have : iv (ids (P ++ [s])) = iv (ids P) ++ [.int .i64 s.1] := by simp [iv, ids]
    rw [this]
    exact hown4
/-- What Due hands back. -/
def DueR (w : World) (T H M : Nat) (rb : Option Nat) (S : List Tm) (now : Int) (e : Ending) (w' : World) : Prop :=
  ∃ A n c, e = .returned (.slice A n c) ∧ Hid (w'.ownsRow w.heap.size 3 1 (.slice A n c) n (iv (ids (dueP now S)))) ∧ Hid (Nx w w' T H M rb (dueS now S))
theorem due_end {w wr : World} {T H M n c : Nat} {rb : Option Nat} {S P R : List Tm} {now : Int} {A : Option Addr} (h : Du w wr T H M rb S P R now A n c) (hR : ∀ s, R.head? = some s → now < s.2) : DueR w T H M rb S now (.returned (.slice A n c)) wr := by
  obtain ⟨e1, e2⟩ := take_while (now := now) h.due hR
  rw [← h.split] at e1 e2
  refine ⟨A, n, c, rfl, hid ?_, hid ?_⟩
  · unfold dueP
    rw [e1]
    exact h.own
  · unfold dueS
    rw [e2]
    exact h.nx
section
variable (w : World)
set_option maxHeartbeats 4000000 in
set_option maxRecDepth 100000 in
theorem due_any {T H M : Nat} {rb : Option Nat} {S : List Tm} {now : Int} (ht : Hid (Tr w T H M rb S)) :
    Calls Try.prog 14 #[.pointer (some ⟨T, 0, none⟩), .int .i64 now] w (DueR w T H M rb S now) := by
  obtain ⟨i0, hi0, hz0, hz1, hz2⟩ := info_parts Try.info3
  have hcnt := ht.out.cnt
  go_enter Try.func14, Try.ntmps14
  go_wp2
  go_loopw [5] (fun v wr => ∃ (P R : List Tm) (A : Option Addr) (n c : Nat), v = .slice A n c ∧ n + R.length ≤ 256 ∧ Hid (Du w wr T H M rb S P R now A n c)) (fun v _ => 300 - lenV v)
  case atStart => exact ⟨[], S, none, 0, 0, rfl, by simpa using hcnt, ⟨rfl, by simp, rfl, ⟨⟨rb, ht.out, fun y hy => .inl hy⟩, But.refl _ _⟩, World.ownsRow_nil _ _ _ _⟩⟩
  case round =>
    obtain ⟨P, R, A, n, c, rfl, hnR, HD⟩ := hrel
    obtain ⟨⟨rb1, htr, hrb⟩, hkk⟩ := HD.out.nx
    have HTR := hid htr
    have HRB := hid hrb
    have HKK := hid hkk
    clear htr hrb hkk
    cases R with
    | nil =>
      go_wp2_with (first
        | (go_at_call 16
           refine (next_none _ HTR).mono ?_
           rintro e w1 ⟨rfl, HK1⟩
           have HD1 := hid (du_next HD.out HK1.out)))
      go_ret
      exact due_end HD1.out (by simp)
    | cons s R =>
      have HX : Hid (∃ L, Pl wr H M rb1 L ∧ Hp L.length L ∧ L.Perm (s :: R)) := hid HTR.out.body
      by_cases hsd : s.2 > now
      · go_wp2_with (first
          | (go_at_call 16
             refine (next_some _ HTR).mono ?_
             rintro e w1 ⟨rfl, HK1⟩
             have HD1 := hid (du_next HD.out HK1.out)))
        go_ret
        exact due_end HD1.out (fun y hy => by simp at hy; subst hy; omega)
      · go_wp2_with (first
          | (go_at_call 16
             refine (next_some _ HTR).mono ?_
             rintro e w1 ⟨rfl, HK1⟩
             have HD1 := hid (du_next HD.out HK1.out)
             have HTR1 := hid (HTR.out.keep0 HK1.out)
             have HKK1 := hid (HKK.out.same (HK1.out.mono (L' := plB H M rb) (by simp)))
             have c0 : w1.cell? ⟨T, 0, none⟩ = some (.pointer (some ⟨H, 0, none⟩)) := HTR1.out.box.cell 0
             obtain ⟨L, hp, hh, hpm⟩ := HTR1.out.body
             have HP := hid hp
             have HH := hid hh
             have HPM := hid hpm
             have HX0 := hid ((hp_head hh hpm HTR1.out.srt).trans (rfl : (s :: R).head? = some s))
             clear hp hh hpm)
          | (go_at_call 23
             refine (hpop_any _ HP HH HX0).mono ?_
             rintro e w2 ⟨rfl, HF⟩
             have hpp := du_pop HD1.out HTR1.out HRB.out HKK1.out HPM.out HF.out
             have HNX := hid hpp.1
             have HOWN := hid hpp.2
             have HK3 := hid ((But.refl [] w2).alloc (.cells #[.int .i64 s.1] 3))
             have HOWN3 := hid (HK3.out.own HOWN.out (by simp))
             have hb2 : w.heap.size ≤ (w2.alloc (.cells #[.int .i64 s.1] 3)).heap.size := Nat.le_trans HNX.out.2.size HK3.out.size
             have HB3 := hid hb2
             clear hpp hb2)
          | (at_builtin
             (refine wpList_app _ rfl (.tmp 29) (.tmp 31) 37 rfl w.heap.size 3 i0 _ 1 8 Try.underlying37 hi0 hz0 hz1 hz2 rfl (by decide) A n c (iv (ids P)) rfl HOWN3.out (w2.heap.size + 1) (some ⟨w2.heap.size, 0, none⟩) 1 1 [.int .i64 s.1] rfl rfl (lies_lit w2 #[.int .i64 s.1] 3) (by simp [Value.oneCell']) (by unfold maxLen; omega) (by omega) HB3.out ?_
              intro A4 c4 w4 ho4 hg4
              have HD4 := hid (du_app HD1.out.split HD1.out.due HD1.out.len (by omega) HNX.out HOWN.out HK3.out hg4 ho4)
              clear ho4 hg4)))
        go_roundw
        case rel => exact ⟨P ++ [s], R, A4, n + 1, c4, rfl, by simp at hnR; omega, HD4⟩
        case measure => simp [lenV]; simp at hnR; omega
end
end Go.Proofs.Ytdcohhfbifiemaa
