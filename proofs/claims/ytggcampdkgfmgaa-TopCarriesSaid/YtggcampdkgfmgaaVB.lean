import Derived.Test.YtggcampdkgfmgaaVA
namespace Go.Proofs.Ytggcampdkgfmgaa.W1
open Go.RowKit

set_option maxHeartbeats 400000 in
set_option maxRecDepth 100000 in
theorem number_any (base g : Nat) (bs : List UInt8) (n : Nat) (h : n < 4294967296) (w : World) (hs : WSt w base g bs) (hl : bs.length ≤ 1000000) :
    Calls Try.prog 50 #[.pointer (some ⟨g, 0, none⟩), .int .u32 n] w fun e w' => e = .returned (.tuple #[]) ∧ WSt w' base g (bs ++ four n) ∧ Kept base [71, 5] w w' := by
  obtain ⟨hbg, A, c, hx, ho⟩ := hs
  obtain ⟨i0, hi0, hz0, hz1, hz2⟩ := info_parts Try.info5
  have hc : w.cell? ⟨g, 0, none⟩ = some (.slice A bs.length c) := hx.cell 0
  have hlt := hx.lt
  have HN := hid (four_v n h)
  have HL := hid hl; clear hl
  go_enter Try.func50, Try.ntmps50
  go_wp2_with (at_builtin; refine wpList_app _ rfl (.tmp 8) (.tmp 20) 27 rfl base 5 i0 _ 1 1 Try.underlying27 hi0 hz0 hz1 hz2 rfl (by omega) A bs.length c (bv bs) rfl ?own (w.heap.size + 1) (some ⟨w.heap.size, 0, none⟩) 4 4 (bv (four n)) rfl rfl ?c1 ?c2 ?b1 ?b2 ?b3 ?grow)
  case own => exact ho.alloc _
  case c1 => rw [HN.out]; exact lies_lit _ _ _
  case c2 => exact bv_one _
  case b1 => have := HL.out; unfold maxLen; omega
  case b2 => have := HL.out; omega
  case b3 => simp; omega
  case grow =>
    intro A' c' w' ho' hg
    generalize hW : w.alloc _ = w1 at hg
    have hx1 : Box w1 g 71 #[.slice A bs.length c] := by subst hW; exact hx.same (Below.heap_alloc _ _ _ hlt)
    have hk1 : Kept base [71, 5] w w1 := by subst hW; exact (Kept.refl base [71, 5] w).alloc _
    have ho1 : w1.ownsRow base 5 1 (.slice A bs.length c) bs.length (bv bs) := by subst hW; exact ho.alloc _
    clear hW
    have hfin := wst_store (cs := four n) hbg hx1 ho1 hk1 hg ho'
    have hx2 : Box w' g 71 #[.slice A bs.length c] := hx1.same (hg.block g hx1.lt (fun e => own_ne ho hx (by decide) e.symm))
    have hc2 : w'.cell? ⟨g, 0, none⟩ = some (.slice A bs.length c) := hx2.cell 0
    have hf2 : w'.frozen? ⟨g, 0, none⟩ = false := hx2.frozen 0
    have HF := hid hfin; clear hfin
    go_wp2
    go_end0
    exact ⟨rfl, HF.out⟩

/-- A field as the program has it. -/
structure Fd where
  kind : Int
  n : Nat
  text : List UInt8
  list : List ByteArray

/-- A field's value: what it holds, in memory below block B. -/
def FdV (w : World) (B : Nat) (v : Value) (f : Fd) : Prop :=
  ∃ tA tc lA lc, v = .agg #[.int .i64 f.kind, .int .u32 f.n, .slice tA f.text.length tc, .slice lA f.list.length lc] ∧ f.n < 4294967296 ∧ (-9223372036854775808 ≤ f.kind ∧ f.kind ≤ 9223372036854775807) ∧
    f.text.length ≤ maxLen ∧ f.list.length ≤ maxLen ∧ (f.text.length ≤ tc ∧ f.list.length ≤ lc) ∧ Lies w B tA (bv f.text) ∧ Lies w B lA (sv f.list) ∧ ∀ s ∈ f.list, s.size ≤ maxLen

theorem FdV.keep {w w' : World} {B : Nat} {v : Value} {f : Fd} (h : FdV w B v f) (hb : Below B w w') : FdV w' B v f := by
  obtain ⟨tA, tc, lA, lc, e, hn, hk, h1, h2, hc, h3, h4, h5⟩ := h
  exact ⟨tA, tc, lA, lc, e, hn, hk, h1, h2, hc, h3.below hb, h4.below hb, h5⟩

theorem WSt.lt {w : World} {base g : Nat} {bs : List UInt8} (h : WSt w base g bs) : base ≤ w.heap.size := by
  obtain ⟨hb, A, c, hx, _⟩ := h
  have := hx.lt
  omega
theorem WSt.kept {w w' : World} {base B g : Nat} {bs : List UInt8} {T : List TypeId} (h : WSt w base g bs) (k : Kept B T w w') (h1 : 71 ∉ T) (h2 : 5 ∉ T) : WSt w' base g bs := by
  obtain ⟨hb, A, c, hx, ho⟩ := h
  exact ⟨hb, A, c, k.box hx h1, k.own ho h2⟩

/-- What a call that puts a field does: an error's number, or so many bytes more. -/
def PutR (base g : Nat) (bs : List UInt8) (er : Int) (new : List UInt8) (w : World) (e : Ending) (w' : World) : Prop :=
  e = .returned (.int .i64 er) ∧ Kept base [71, 5] w w' ∧ (er = 0 → WSt w' base g (bs ++ new))

set_option maxHeartbeats 400000 in
set_option maxRecDepth 100000 in
theorem putByte_any (base g : Nat) (bs : List UInt8) (w : World) (v : Value) (f : Fd) (hv : FdV w base v f) (hs : WSt w base g bs) (hl : bs.length ≤ 1000000) :
    Calls Try.prog 39 #[.pointer (some ⟨g, 0, none⟩), v] w (PutR base g bs (if 255 < f.n then 5 else 0) [UInt8.ofNat f.n] w) := by
  obtain ⟨tA, tc, lA, lc, rfl, hn, _, _⟩ := hv
  have k0 : ∀ o, Kept base [71, 5] w (w.alloc o) := fun o => (Kept.refl _ _ _).alloc o
  have s0 : ∀ o, WSt (w.alloc o) base g bs := fun o => hs.kept (B := 0) (T := []) ((Kept.refl _ _ _).alloc o) (by simp) (by simp)
  have HL := hid hl; clear hl
  by_cases h : 255 < f.n
  · rw [if_pos h]
    go_enter Try.func39, Try.ntmps39
    go_wp2_with (go_at_call 49; refine (small_high g f.n 255 h _).mono ?_; rintro e w' ⟨rfl, rfl⟩)
    go_ret
    exact ⟨rfl, k0 _, by simp⟩
  · rw [if_neg h]
    go_enter Try.func39, Try.ntmps39
    go_wp2_with (go_at_call 49; refine (small_low base g bs f.n 255 (by omega) (by omega) _ (s0 _) HL.out).mono ?_; rintro e w' ⟨rfl, hw, hk⟩)
    go_ret
    exact ⟨rfl, (k0 _).trans hk, fun _ => hw⟩

set_option maxHeartbeats 400000 in
set_option maxRecDepth 100000 in
theorem putBool_any (base g : Nat) (bs : List UInt8) (w : World) (v : Value) (f : Fd) (hv : FdV w base v f) (hs : WSt w base g bs) (hl : bs.length ≤ 1000000) :
    Calls Try.prog 40 #[.pointer (some ⟨g, 0, none⟩), v] w (PutR base g bs (if 1 < f.n then 5 else 0) [UInt8.ofNat f.n] w) := by
  obtain ⟨tA, tc, lA, lc, rfl, hn, _, _⟩ := hv
  have k0 : ∀ o, Kept base [71, 5] w (w.alloc o) := fun o => (Kept.refl _ _ _).alloc o
  have s0 : ∀ o, WSt (w.alloc o) base g bs := fun o => hs.kept (B := 0) (T := []) ((Kept.refl _ _ _).alloc o) (by simp) (by simp)
  have HL := hid hl; clear hl
  by_cases h : 1 < f.n
  · rw [if_pos h]
    go_enter Try.func40, Try.ntmps40
    go_wp2_with (go_at_call 49; refine (small_high g f.n 1 h _).mono ?_; rintro e w' ⟨rfl, rfl⟩)
    go_ret
    exact ⟨rfl, k0 _, by simp⟩
  · rw [if_neg h]
    go_enter Try.func40, Try.ntmps40
    go_wp2_with (go_at_call 49; refine (small_low base g bs f.n 1 (by omega) (by omega) _ (s0 _) HL.out).mono ?_; rintro e w' ⟨rfl, hw, hk⟩)
    go_ret
    exact ⟨rfl, (k0 _).trans hk, fun _ => hw⟩

set_option maxHeartbeats 400000 in
set_option maxRecDepth 100000 in
theorem putUint32_any (base g : Nat) (bs : List UInt8) (w : World) (v : Value) (f : Fd) (hv : FdV w base v f) (hs : WSt w base g bs) (hl : bs.length ≤ 1000000) :
    Calls Try.prog 41 #[.pointer (some ⟨g, 0, none⟩), v] w (PutR base g bs 0 (four f.n) w) := by
  obtain ⟨tA, tc, lA, lc, rfl, hn, _, _⟩ := hv
  have k0 : ∀ o, Kept base [71, 5] w (w.alloc o) := fun o => (Kept.refl _ _ _).alloc o
  have s0 : ∀ o, WSt (w.alloc o) base g bs := fun o => hs.kept (B := 0) (T := []) ((Kept.refl _ _ _).alloc o) (by simp) (by simp)
  have HL := hid hl; clear hl
  go_enter Try.func41, Try.ntmps41
  go_wp2_with (go_at_call 50; refine (number_any base g bs f.n hn _ (s0 _) HL.out).mono ?_; rintro e w' ⟨rfl, hw, hk⟩)
  go_ret
  exact ⟨rfl, (k0 _).trans hk, fun _ => hw⟩

set_option maxHeartbeats 800000 in
set_option maxRecDepth 100000 in
theorem putRest_any (base g : Nat) (bs : List UInt8) (w : World) (v : Value) (f : Fd) (hv : FdV w base v f) (hs : WSt w base g bs) (hl : bs.length ≤ 1000000) :
    Calls Try.prog 44 #[.pointer (some ⟨g, 0, none⟩), v] w (PutR base g bs (if 33792 < f.text.length then 6 else 0) f.text w) := by
  obtain ⟨tA, tc, lA, lc, rfl, hn, _, ht, _, _, hT, _⟩ := hv
  have k0 : ∀ o, Kept base [71, 5] w (w.alloc o) := fun o => (Kept.refl _ _ _).alloc o
  have hw0 := hs.lt
  by_cases h : 33792 < f.text.length
  · rw [if_pos h]
    go_enter Try.func44, Try.ntmps44
    go_wp2
    go_ret
    exact ⟨rfl, k0 _, by simp⟩
  · rw [if_neg h]
    obtain ⟨i0, hi0, hz0, hz1, hz2⟩ := info_parts Try.info5
    obtain ⟨hbg, A, c, hx, ho⟩ := hs
    have hlt := hx.lt
    have HL := hid hl; clear hl
    have hc : w.cell? ⟨g, 0, none⟩ = some (.slice A bs.length c) := hx.cell 0
    have HT := hid hT; clear hT
    go_enter Try.func44, Try.ntmps44
    go_wp2
    generalize hW : w.alloc _ = w1
    have hx1 : Box w1 g 71 #[.slice A bs.length c] := by subst hW; exact hx.same (Below.heap_alloc _ _ _ hlt)
    have hk1 : Kept base [71, 5] w w1.drew := by subst hW; exact ((Kept.refl base [71, 5] w).alloc _).drew
    have ho1 : w1.drew.ownsRow base 5 1 (.slice A bs.length c) bs.length (bv bs) := by subst hW; exact ho.alloc _
    have hT1 : Lies w1.drew base tA (bv f.text) := HT.out.below (hk1.below hw0)
    have hc1 : w1.cell? ⟨g, 0, none⟩ = some (.slice A bs.length c) := hx1.cell 0
    have hc0 : w1.cell? ⟨w.heap.size, 2, none⟩ = some (.slice tA f.text.length tc) := by subst hW; exact (Box.new w 46 _).cell 2
    have hb1 : base ≤ w1.drew.heap.size := Nat.le_trans hw0 hk1.size
    have HT1 := hid hT1; clear hT1
    have HK1 := hid hk1; clear hk1
    clear hW
    go_region_law (
                   refine step_app _ rfl (.tmp 13) (.tmp 15) 27 rfl base 5 i0 _ 1 1 Try.underlying27 hi0 hz0 hz1 hz2 rfl (by decide) A bs.length c (bv bs) rfl ho1 base tA f.text.length tc (bv f.text) rfl (by simp [bv]) HT1.out (bv_one _) (by have := HL.out; unfold maxLen; omega) (by have := HL.out; omega) hb1 ?_
                   intro A' c' w' ho' hg
                   have hx2 : Box w' g 71 #[.slice A bs.length c] := hx1.same (hg.block g hx1.lt (fun e => own_ne ho hx (by decide) e.symm))
                   have hc2 : w'.cell? ⟨g, 0, none⟩ = some (.slice A bs.length c) := hx2.cell 0
                   have hf2 : w'.frozen? ⟨g, 0, none⟩ = false := hx2.frozen 0
                   have HF := hid (wst_store (w := w1.drew) (cs := f.text) hbg hx1 ho1 HK1.out hg ho'))
    all_goals
      go_wp2
      go_ret
      exact ⟨rfl, HF.out.2, fun _ => HF.out.1⟩

end Go.Proofs.Ytggcampdkgfmgaa.W1
