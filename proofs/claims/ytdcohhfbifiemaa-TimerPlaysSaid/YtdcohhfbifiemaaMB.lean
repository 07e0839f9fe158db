import Derived.Test.YtdcohhfbifiemaaMA
namespace Go.Proofs.Ytdcohhfbifiemaa
open Go.RowKit Go.Maps

/-- A step of the document's timers. -/
def MdK (w w' : World) (G : Nat) (S : List Tm) : Prop := Md w' G S ∧ But [G] w w'
theorem md_store {w w1 : World} {G n c n0 c0 : Nat} {A A0 : Option Addr} {R : List Tm} (hb : Box w G 29 #[.slice A0 n0 c0]) (hB : But [] w w1) (hr : Ro w1 A n c R) : MdK w (w1.setCell ⟨G, 0, none⟩ (.slice A n c)) G R := by
  have hb1 := hB.box hb (by simp)
  have hk : But [G] w1 (w1.setCell ⟨G, 0, none⟩ (.slice A n c)) := (But.refl [G] w1).store (.inl (by simp)) _
  have hl := hr.len
  subst hl
  exact ⟨⟨A, c, hb1.store 0 _, hr.keep hk (fun x hx cs hb2 => by simp at hx; subst hx; exact box_ne hb1 hb2 (by decide) rfl)⟩, (hB.mono (by simp)).same hk⟩
section
variable (w : World)
set_option maxHeartbeats 4000000 in
set_option maxRecDepth 100000 in
theorem mcancel_any {G : Nat} {S : List Tm} {id : Int} (h : Hid (Md w G S)) (hn : S.length ≤ 1000) : Calls Try.prog 12 #[.pointer (some ⟨G, 0, none⟩), .int .i64 id] w fun e w' => e = .returned (.bool (has id S)) ∧ Hid (MdK w w' G (rem id S)) := by
  obtain ⟨A, c, hb, hr⟩ := h.out
  have HB := hid hb
  have HR := hid hr
  have c0 : w.cell? ⟨G, 0, none⟩ = some (.slice A S.length c) := hb.cell 0
  clear hb hr
  go_enter Try.func12, Try.ntmps12
  go_wp2_with (first
    | (go_at_call 21
       refine (cut_any w HR hn).mono ?_
       rintro e w1 ⟨A1, n1, c1, rfl, HO1, HB1⟩
       have HK1 := hid (But.of_below HB1.out [])
       have HX1 := hid (HK1.out.box HB.out (by simp))
       have c1' : w1.cell? ⟨G, 0, none⟩ = some (.slice A S.length c) := HX1.out.cell 0
       have f1' : w1.frozen? ⟨G, 0, none⟩ = false := HX1.out.frozen 0))
  go_ret
  exact ⟨rfl, md_store HB.out HK1.out (Ro.of_own HO1.out)⟩
/-- What the document's Due hands back. -/
def MDueR (w : World) (G : Nat) (S : List Tm) (now : Int) (e : Ending) (w' : World) : Prop :=
  ∃ A n c, e = .returned (.slice A n c) ∧ Hid (w'.ownsRow w.heap.size 3 1 (.slice A n c) n (iv (ids (dueP now S)))) ∧ Hid (MdK w w' G (dueS now S))
structure MDu (w wr : World) (G : Nat) (S P R : List Tm) (now : Int) (A : Option Addr) (n c : Nat) : Prop where
  split : S = P ++ R
  due : ∀ y ∈ P, y.2 ≤ now
  len : P.length = n
  md : MdK w wr G R
  own : wr.ownsRow w.heap.size 3 1 (.slice A n c) n (iv (ids P))
theorem mdue_end {w wr : World} {G n c : Nat} {S P R : List Tm} {now : Int} {A : Option Addr} (h : MDu w wr G S P R now A n c) (hR : ∀ s, R.head? = some s → now < s.2) : MDueR w G S now (.returned (.slice A n c)) wr := by
  obtain ⟨e1, e2⟩ := take_while (now := now) h.due hR
  rw [← h.split] at e1 e2
  refine ⟨A, n, c, rfl, hid ?_, hid ?_⟩
  · unfold dueP
    rw [e1]
    exact h.own
  · unfold dueS
    rw [e2]
    exact h.md
theorem mdue_step {w wr w3 w4 : World} {G n c c4 : Nat} {S P R : List Tm} {s : Tm} {now : Int} {A A4 : Option Addr} {a : Addr} {cm : Nat} (h : MDu w wr G S P (s :: R) now A n c) (hsd : s.2 ≤ now) (hb : Box wr G 29 #[.slice (some a) (R.length + 1) cm]) (hr : Ro wr (some a) (R.length + 1) cm (s :: R))
    (k3 : But [] wr w3) (hg : w3.grownBy w4 (Value.slice A n c).ownBlock) (hown4 : w4.ownsRow w.heap.size 3 1 (.slice A4 (n + 1) c4) (n + 1) (iv (ids P) ++ [.int .i64 s.1])) :
    MDu w (w4.setCell ⟨G, 0, none⟩ (.slice (some (if cm = 1 then a else a.add 2)) R.length (cm - 1))) G S (P ++ [s]) R now A4 (n + 1) c4 ∧ Box w4 G 29 #[.slice (some a) (R.length + 1) cm] := by
  have hown3 := k3.own h.own (by simp)
  have hk4 : But (Value.slice A n c).ownBlock.toList w3 w4 := (But.refl _ w3).grown hg fun k hk => .inl (by rw [hk]; simp)
  have hK : ∀ x ∈ (Value.slice A n c).ownBlock.toList, w.heap.size ≤ x ∧ ∃ cs, Box w3 x 3 cs := fun x hx => own_box hown3 x (by simpa using hx)
  have hb3 := k3.box hb (by simp)
  have hb4 : Box w4 G 29 #[.slice (some a) (R.length + 1) cm] := hk4.box hb3 (fun hx => by obtain ⟨_, cs, hc⟩ := hK G hx; exact box_ne hb3 hc (by decide) rfl)
  have hr4 : Ro w4 (some a) (R.length + 1) cm (s :: R) := (hr.keep0 k3).keep hk4 (fun x hx cs hc => by obtain ⟨_, cs', hc'⟩ := hK x hx; exact box_ne hc hc' (by decide) rfl)
  have hk5 : But [G] w4 (w4.setCell ⟨G, 0, none⟩ (.slice (some (if cm = 1 then a else a.add 2)) R.length (cm - 1))) := (But.refl [G] w4).store (.inl (by simp)) _
  have hd := hr4.drop 1 (by omega)
  simp only [List.drop_succ_cons, List.drop_zero, Nat.add_sub_cancel, Nat.one_mul] at hd
  refine ⟨⟨by rw [h.split]; simp, fun y hy => ?_, by simp [h.len], ⟨⟨_, _, hb4.store 0 _, hd.keep hk5 (fun x hx cs hb2 => by simp at hx; subst hx; exact box_ne hb4 hb2 (by decide) rfl)⟩, ?_⟩, ?_⟩, hb4⟩
  · rcases List.mem_append.1 hy with h1 | h1
    · exact h.due y h1
    · simp at h1
      subst h1
      exact hsd
  · exact ((h.md.2.same (k3.mono (by simp))).trans hk4 (fun x hx => .inr (hK x hx).1)).same hk5
  · have e : iv (ids (P ++ [s])) = iv (ids P) ++ [.int .i64 s.1] := by simp [iv, ids]
    rw [e]
    exact hk5.own hown4 (fun g hg hx => by
      obtain ⟨_, cs, hc⟩ := own_box hown4 g hg
      simp at hx
      subst hx
      exact box_ne hb4 hc (by decide) rfl)
set_option maxHeartbeats 4000000 in
set_option maxRecDepth 100000 in
theorem mdue_any {G : Nat} {S : List Tm} {now : Int} (h : Hid (Md w G S)) (hn : S.length ≤ 1000) : Calls Try.prog 15 #[.pointer (some ⟨G, 0, none⟩), .int .i64 now] w (MDueR w G S now) := by
  obtain ⟨i0, hi0, hz0, hz1, hz2⟩ := info_parts Try.info3
  go_enter Try.func15, Try.ntmps15
  go_wp2
  go_loopw [5] (fun v wr => ∃ (P R : List Tm) (A : Option Addr) (n c : Nat), v = .slice A n c ∧ n + R.length ≤ 1000 ∧ Hid (MDu w wr G S P R now A n c)) (fun v _ => 2000 - lenV v)
  case atStart => exact ⟨[], S, none, 0, 0, rfl, by simpa using hn, ⟨rfl, by simp, rfl, ⟨h.out, But.refl _ _⟩, World.ownsRow_nil _ _ _ _⟩⟩
  case round =>
    obtain ⟨P, R, A, n, c, rfl, hnR, HD⟩ := hrel
    obtain ⟨Am, cm, hb, hr⟩ := HD.out.md.1
    have HBX := hid hb
    have HR := hid hr
    have c0 : wr.cell? ⟨G, 0, none⟩ = some (.slice Am R.length cm) := hb.cell 0
    cases R with
    | nil =>
      clear hb hr
      go_wp2
      go_ret
      exact mdue_end HD.out (by simp)
    | cons s R =>
      obtain ⟨b, o, rfl, q0, q1⟩ := hr.at (j := 0) (x := s) rfl
      simp only [Nat.zero_mul, Nat.add_zero] at q0 q1
      have hcm := hr.le
      have hmx := hr.max
      obtain ⟨k, hk⟩ : ∃ k, R.length = k := ⟨_, rfl⟩
      rw [List.length_cons, hk] at c0 hcm
      have b0 : 0 ≤ (0 : Int) ∧ (0 : Int) < ((k + 1 : Nat) : Int) := by omega
      have t0 : (((k + 1 : Nat) : Int) > 0) := by omega
      clear hb hr
      by_cases hsd : s.2 ≤ now
      · have HK3 : Hid (But [] wr (wr.alloc (.cells #[.int .i64 s.1] 3))) := hid ((But.refl [] wr).alloc _)
        have HOWN3 := hid (HK3.out.own HD.out.own (by simp))
        have HB3 : Hid (w.heap.size ≤ (wr.alloc (.cells #[.int .i64 s.1] 3)).heap.size) := hid (Nat.le_trans HD.out.md.2.size HK3.out.size)
        have HKL := hid hk
        simp at hnR
        clear hk
        go_wp2_with (first
          | (at_builtin
             (refine wpList_app _ rfl (.tmp 23) (.tmp 31) 37 rfl w.heap.size 3 i0 _ 1 8 Try.underlying37 hi0 hz0 hz1 hz2 rfl (by decide) A n c (iv (ids P)) rfl HOWN3.out (wr.heap.size + 1) (some ⟨wr.heap.size, 0, none⟩) 1 1 [.int .i64 s.1] rfl rfl (lies_lit wr #[.int .i64 s.1] 3) (by simp [Value.oneCell']) (by unfold maxLen; omega) (by omega) HB3.out ?_
              intro A4 c4 w4 ho4 hg4
              have hst := mdue_step HD.out hsd HBX.out HR.out HK3.out hg4 ho4
              rw [HKL.out] at hst
              have c4' : w4.cell? ⟨G, 0, none⟩ = some (.slice (some ⟨b, o, none⟩) (k + 1) cm) := hst.2.cell 0
              have f4' : w4.frozen? ⟨G, 0, none⟩ = false := hst.2.frozen 0
              have HST := hid hst.1
              clear hst ho4 hg4)))
        have HST2 : Hid (MDu w (w4.setCell ⟨G, 0, none⟩ (.slice (if cm = 1 then some ⟨b, o, none⟩ else some ⟨b, o + 2, none⟩) k (cm - 1))) G S (P ++ [s]) R now A4 (n + 1) c4) := hid (by
          have e : (if cm = 1 then some (⟨b, o, none⟩ : Addr) else some ⟨b, o + 2, none⟩) = some (if cm = 1 then ⟨b, o, none⟩ else (⟨b, o, none⟩ : Addr).add 2) := by split <;> simp [Addr.add]
          rw [e]
          exact HST.out)
        go_roundw
        case rel => exact ⟨P ++ [s], R, A4, n + 1, c4, rfl, by omega, HST2⟩
        case measure => simp [lenV]; omega
      · go_wp2
        go_ret
        exact mdue_end HD.out (fun y hy => by simp at hy; subst hy; omega)
end
end Go.Proofs.Ytdcohhfbifiemaa
