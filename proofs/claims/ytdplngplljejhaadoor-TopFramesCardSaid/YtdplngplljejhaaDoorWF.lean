import Derived.Test.YtdplngplljejhaaDoorWE
import Derived.BigQuiet
import Derived.Deep.QuietTactic
namespace Go.Proofs.YtdplngplljejhaaDoor
open Go.RowKit

/-- A slice of bytes that lies below block B. -/
def SlB (w : World) (B : Nat) (A : Option Addr) (c : Nat) (bs : List UInt8) : Prop :=
  bs.length ≤ c ∧ c ≤ maxLen ∧ (A = none → c = 0) ∧ Lies w B A (bv bs)
theorem SlB.below {w w' : World} {B : Nat} {A : Option Addr} {c : Nat} {bs : List UInt8} (h : SlB w B A c bs) (hb : Below B w w') : SlB w' B A c bs :=
  ⟨h.1, h.2.1, h.2.2.1, h.2.2.2.below hb⟩
theorem SlB.take {w : World} {B : Nat} {A : Option Addr} {c : Nat} {bs : List UInt8} (h : SlB w B A c bs) (n : Nat) : SlB w B A c (bs.take n) := by
  obtain ⟨h1, h2, h3, h4⟩ := h
  refine ⟨by rw [List.length_take]; omega, h2, h3, fun hn => ?_⟩
  have hne : bv bs ≠ [] := by
    intro e
    have : bs = [] := by simpa [bv] using e
    subst this; simp [bv] at hn
  obtain ⟨b, o, rfl, hb, hc⟩ := h4 hne
  refine ⟨b, o, rfl, hb, fun j u hu => hc j u ?_⟩
  simp only [bv, List.map_take] at hu ⊢
  rw [List.getElem?_take] at hu
  split at hu
  · exact hu
  · cases hu
theorem SlB.drop {w : World} {B : Nat} {a : Addr} {c : Nat} {bs : List UInt8} (h : SlB w B (some a) c bs) (n : Nat) (hn : n ≤ bs.length) : SlB w B (some (if c = n then a else a.add n)) (c - n) (bs.drop n) := by
  obtain ⟨h1, h2, h3, h4⟩ := h
  refine ⟨by rw [List.length_drop]; omega, by omega, by simp, fun hne => ?_⟩
  have hlt : n < bs.length := by
    have : (bv (bs.drop n)).length ≠ 0 := fun e => hne (List.eq_nil_of_length_eq_zero e)
    simp [bv] at this; omega
  obtain ⟨b, o, e, hb, hc⟩ := h4 (by intro e; have := congrArg List.length e; simp [bv] at this; subst this; simp at hlt)
  injection e with e
  subst e
  rw [if_neg (by omega)]
  refine ⟨b, o + n, by rw [Addr.add_lit], hb, fun j u hu => ?_⟩
  rw [Nat.add_assoc]
  apply hc
  simp only [bv, List.map_drop, List.getElem?_drop] at hu ⊢
  exact hu

/-- The reader's block and the bytes that it has left. -/
def RSt (w : World) (B g : Nat) (left : List UInt8) : Prop :=
  B ≤ g ∧ ∃ A c, Box w g 111 #[.slice A left.length c] ∧ SlB w B A c left

def TakeR (B g n : Nat) (left : List UInt8) (w : World) (e : Ending) (w' : World) : Prop :=
  ∃ A c, e = .returned (.tuple #[.slice A n c, .int .i64 0]) ∧ SlB w' B A c (left.take n) ∧ RSt w' B g (left.drop n) ∧ Kept B [111] w w'

set_option maxHeartbeats 400000 in
set_option maxRecDepth 100000 in
theorem take_short (B g n : Nat) (left : List UInt8) (h : left.length < n) (_hn : n ≤ maxLen) (w : World) (hs : RSt w B g left) :
    Calls Tryd.prog 94 #[.pointer (some ⟨g, 0, none⟩), .int .i64 n] w fun e w' => e = .returned (.tuple #[.slice none 0 0, .int .i64 3]) ∧ w = w' := by
  obtain ⟨hbg, A, c, hx, hl⟩ := hs
  have hc : w.cell? ⟨g, 0, none⟩ = some (.slice A left.length c) := hx.cell 0
  unfold maxLen at _hn
  clear hl
  go_enter Tryd.func94, Tryd.ntmps94
  go_wp2
  go_ret2
  exact ⟨rfl, rfl⟩

theorem take_fin {B g n c : Nat} {left : List UInt8} {a : Addr} {w : World} (hbg : B ≤ g) (hB : B ≤ w.heap.size) (h : n ≤ left.length) (hx : Box w g 111 #[.slice (some a) left.length c]) (hl : SlB w B (some a) c left) :
    TakeR B g n left w (.returned (.tuple #[.slice (some a) n c, .int .i64 0])) (w.setCell ⟨g, 0, none⟩ (.slice (some (if c = n then a else a.add n)) (left.length - n) (c - n))) := by
  have hk : Kept B [111] w (w.setCell ⟨g, 0, none⟩ (.slice (some (if c = n then a else a.add n)) (left.length - n) (c - n))) := (Kept.refl _ _ _).store hx hbg (by simp) _
  have hb := hk.below hB
  refine ⟨_, _, by rfl, (hl.take n).below hb, ⟨hbg, _, _, ?_, (hl.drop n h).below hb⟩, hk⟩
  have := hx.store 0 (.slice (some (if c = n then a else a.add n)) (left.length - n) (c - n))
  rw [List.length_drop]
  simpa using this

set_option maxHeartbeats 400000 in
set_option maxRecDepth 100000 in
theorem take_any (B g n : Nat) (left : List UInt8) (hle : n ≤ left.length) (w : World) (hs : RSt w B g left) (hB : B ≤ w.heap.size) :
    Calls Tryd.prog 94 #[.pointer (some ⟨g, 0, none⟩), .int .i64 n] w (TakeR B g n left w) := by
  obtain ⟨hbg, A, c, hx, hl⟩ := hs
  have hc : w.cell? ⟨g, 0, none⟩ = some (.slice A left.length c) := hx.cell 0
  have hf : w.frozen? ⟨g, 0, none⟩ = false := hx.frozen 0
  have h1 := hl.1
  have h2 := hl.2.1
  unfold maxLen at h2
  have HX := hid hx
  have HL := hid hl
  clear hx hl
  cases A with
  | none =>
    have hc0 : c = 0 := HL.out.2.2.1 rfl
    subst hc0
    have hl0 : left = [] := List.eq_nil_of_length_eq_zero (by omega)
    subst hl0
    have hn0 : n = 0 := by simpa using hle
    subst hn0
    show Calls Tryd.prog 94 #[.pointer (some ⟨g, 0, none⟩), .int .i64 0] w (TakeR B g 0 [] w)
    have hc' : w.cell? ⟨g, 0, none⟩ = some (.slice none 0 0) := hc
    clear hc hle h1 h2
    go_enter Tryd.func94, Tryd.ntmps94
    go_wp2
    go_ret2
    have hk : Kept B [111] w (w.setCell ⟨g, 0, none⟩ (.slice none 0 0)) := (Kept.refl _ _ _).store HX.out hbg (by simp) _
    have hb := hk.below hB
    refine ⟨_, _, by rfl, (HL.out.take 0).below hb, ⟨hbg, _, _, ?_, (HL.out.take 0).below hb⟩, hk⟩
    have := HX.out.store 0 (.slice none 0 0)
    simpa using this
  | some a =>
    go_enter Tryd.func94, Tryd.ntmps94
    go_wp2
    all_goals go_ret2
    · have hcn : c = n := by assumption
      subst hcn
      have t := take_fin hbg hB hle HX.out HL.out
      rw [if_pos rfl, Nat.sub_self] at t
      exact t
    · have hcn : ¬ c = n := by assumption
      have t := take_fin hbg hB hle HX.out HL.out
      rw [if_neg hcn] at t
      exact t

def num4 (l : List UInt8) : Nat := (l.getD 0 0).toNat * 16777216 + (l.getD 1 0).toNat * 65536 + (l.getD 2 0).toNat * 256 + (l.getD 3 0).toNat

theorem or4 (a b c d : UInt8) : bits .or .u32 (bits .or .u32 (bits .or .u32 ((a.toNat : Int) % 4294967296 * 16777216 % 4294967296) ((b.toNat : Int) % 4294967296 * 65536 % 4294967296)) ((c.toNat : Int) % 4294967296 * 256 % 4294967296)) ((d.toNat : Int) % 4294967296)
    = ((a.toNat * 16777216 + b.toNat * 65536 + c.toNat * 256 + d.toNat : Nat) : Int) := by
  have h0 := a.toNat_lt
  have h1 := b.toNat_lt
  have h2 := c.toNat_lt
  have h3 := d.toNat_lt
  have w32 : ∀ n : Int, 0 ≤ n → n < 2 ^ 32 → IntKind.u32.wrap n = n := fun n h₀ h₁ => by rw [IntKind.wrap_u32']; omega
  rw [bits_join .u32 32 (by decide) w32 24 ((a.toNat : Int) % 4294967296 * 16777216 % 4294967296) _ (by omega) (by omega) (by omega) (by omega) (by omega) (by omega)]
  rw [bits_join .u32 32 (by decide) w32 16 (_ + _) _ (by omega) (by omega) (by omega) (by omega) (by omega) (by omega)]
  rw [bits_join .u32 32 (by decide) w32 8 (_ + _) _ (by omega) (by omega) (by omega) (by omega) (by omega) (by omega)]
  omega
theorem ret2_u32 {x : Int} {n : Nat} (h : x = n) : Ending.returned (.tuple #[.int .u32 x, .int .i64 0]) = .returned (.tuple #[.int .u32 n, .int .i64 0]) := by rw [h]

def NumR (B g : Nat) (left : List UInt8) (w : World) (e : Ending) (w' : World) : Prop :=
  e = .returned (.tuple #[.int .u32 (num4 left), .int .i64 0]) ∧ RSt w' B g (left.drop 4) ∧ Kept B [111] w w'

set_option maxHeartbeats 400000 in
set_option maxRecDepth 100000 in
theorem rnum_short (B g : Nat) (left : List UInt8) (h : left.length < 4) (w : World) (hs : RSt w B g left) :
    Calls Tryd.prog 95 #[.pointer (some ⟨g, 0, none⟩)] w fun e w' => e = .returned (.tuple #[.int .u32 0, .int .i64 3]) ∧ w = w' := by
  go_enter Tryd.func95, Tryd.ntmps95
  go_wp2_with (go_at_call 94; refine (take_short B g 4 left h (by unfold maxLen; omega) _ hs).mono ?_; rintro e w' ⟨rfl, rfl⟩)
  go_ret2
  exact ⟨rfl, rfl⟩

set_option maxHeartbeats 1000000 in
set_option maxRecDepth 100000 in
theorem rnum_any (B g : Nat) (left : List UInt8) (h : 4 ≤ left.length) (w : World) (hs : RSt w B g left) (hB : B ≤ w.heap.size) :
    Calls Tryd.prog 95 #[.pointer (some ⟨g, 0, none⟩)] w (NumR B g left w) := by
  match left, h with
  | a :: b :: c :: d :: r, _ =>
    go_enter Tryd.func95, Tryd.ntmps95
    go_wp2_with (
      go_at_call 94
      refine (take_any B g 4 (a :: b :: c :: d :: r) (by simp) _ hs hB).mono ?_
      rintro e w' ⟨A, cp, rfl, hsl, hr, hk⟩
      obtain ⟨hcp, _, _, hli⟩ := hsl
      obtain ⟨bk, o, rfl, hbk, hcells⟩ := hli (by simp [bv])
      have c0 : w'.cell? ⟨bk, o, none⟩ = some (.int .u8 a.toNat) := hcells 0 _ rfl
      have c1 : w'.cell? ⟨bk, o + 1, none⟩ = some (.int .u8 b.toNat) := hcells 1 _ rfl
      have c2 : w'.cell? ⟨bk, o + 2, none⟩ = some (.int .u8 c.toNat) := hcells 2 _ rfl
      have c3 : w'.cell? ⟨bk, o + 3, none⟩ = some (.int .u8 d.toNat) := hcells 3 _ rfl
      clear hcells hli)
    go_quiet (fail)
    go_wp2
    go_ret2
    exact ⟨ret2_u32 (or4 a b c d), hr, hk.drewN nq⟩

theorem text_short (B g : Nat) (left : List UInt8) (h : left.length < 4) (w : World) (hs : RSt w B g left) :
    Calls Tryd.prog 96 #[.pointer (some ⟨g, 0, none⟩)] w fun e w' => e = .returned (.tuple #[.slice none 0 0, .int .i64 3]) ∧ w = w' := by
  go_enter Tryd.func96, Tryd.ntmps96
  go_wp2_with (go_at_call 95; refine (rnum_short B g left h _ hs).mono ?_; rintro e w' ⟨rfl, rfl⟩)
  go_ret2
  exact ⟨rfl, rfl⟩

theorem num4_lt (l : List UInt8) : num4 l < 4294967296 := by
  have h0 := (l.getD 0 0).toNat_lt
  have h1 := (l.getD 1 0).toNat_lt
  have h2 := (l.getD 2 0).toNat_lt
  have h3 := (l.getD 3 0).toNat_lt
  unfold num4
  omega

/-- The text that its length tells: an error's number, the text, what is left. -/
def textF (left : List UInt8) : Int × List UInt8 × List UInt8 :=
  if left.length < 4 then (3, [], []) else if 32768 < num4 left then (6, [], []) else if (left.drop 4).length < num4 left then (3, [], [])
  else (0, (left.drop 4).take (num4 left), (left.drop 4).drop (num4 left))

def TextR (B g : Nat) (x : Int × List UInt8 × List UInt8) (w : World) (e : Ending) (w' : World) : Prop :=
  (x.1 ≠ 0 → e = .returned (.tuple #[.slice none 0 0, .int .i64 x.1]) ∧ Kept B [111] w w') ∧
  (x.1 = 0 → ∃ A c, e = .returned (.tuple #[.slice A x.2.1.length c, .int .i64 0]) ∧ SlB w' B A c x.2.1 ∧ RSt w' B g x.2.2 ∧ Kept B [111] w w')

set_option maxHeartbeats 1000000 in
set_option maxRecDepth 100000 in
theorem text_any (B g : Nat) (left : List UInt8) (w : World) (hs : RSt w B g left) (hB : B ≤ w.heap.size) :
    Calls Tryd.prog 96 #[.pointer (some ⟨g, 0, none⟩)] w (TextR B g (textF left) w) := by
  by_cases h4 : left.length < 4
  · have e : textF left = (3, [], []) := by simp [textF, h4]
    rw [e]
    exact (text_short B g left h4 w hs).mono fun e w' ⟨h1, h2⟩ => ⟨fun _ => ⟨h1, h2 ▸ Kept.refl _ _ _⟩, fun h => by simp at h⟩
  · have h4' : 4 ≤ left.length := by omega
    by_cases h6 : 32768 < num4 left
    · have e : textF left = (6, [], []) := by simp [textF, h4, h6]
      rw [e]
      go_enter Tryd.func96, Tryd.ntmps96
      go_wp2_with (go_at_call 95; refine (rnum_any B g left h4' _ hs hB).mono ?_; rintro e w' ⟨rfl, hr, hk⟩)
      go_ret2
      exact ⟨fun _ => ⟨rfl, hk⟩, fun h => by simp at h⟩
    · have h6' : num4 left ≤ 32768 := by omega
      by_cases h3 : (left.drop 4).length < num4 left
      · have e : textF left = (3, [], []) := by rw [textF, if_neg h4, if_neg h6, if_pos h3]
        rw [e]
        have H3 := hid h3
        clear h3 h6
        go_enter Tryd.func96, Tryd.ntmps96
        go_wp2_with (first
          | (go_at_call 95; refine (rnum_any B g left h4' _ hs hB).mono ?_; rintro e w' ⟨rfl, hr, hk⟩)
          | (go_at_call 94; refine (take_short B g (num4 left) _ H3.out (by unfold maxLen; omega) _ hr).mono ?_; rintro e w2 ⟨rfl, rfl⟩))
        go_ret2
        exact ⟨fun _ => ⟨rfl, hk⟩, fun h => by simp at h⟩
      · have hE : textF left = (0, (left.drop 4).take (num4 left), (left.drop 4).drop (num4 left)) := by rw [textF, if_neg h4, if_neg h6, if_neg h3]
        have HE := hid hE
        have H3 : Hid (num4 left ≤ (left.drop 4).length) := Nat.le_of_not_lt h3
        clear h3 h6 hE
        go_enter Tryd.func96, Tryd.ntmps96
        go_wp2_with (first
          | (go_at_call 95; refine (rnum_any B g left h4' _ hs hB).mono ?_; rintro e w' ⟨rfl, hr, hk⟩)
          | (go_at_call 94; refine (take_any B g (num4 left) _ H3.out _ hr (Nat.le_trans hB hk.size)).mono ?_; rintro e w2 ⟨A, c, rfl, hsl, hr2, hk2⟩))
        go_ret2
        rw [HE.out]
        have hl : ((left.drop 4).take (num4 left)).length = num4 left := by rw [List.length_take]; have := H3.out; omega
        exact ⟨fun h => absurd rfl h, fun _ => ⟨A, c, by rw [hl]; rfl, hsl, hr2, hk.trans hk2⟩⟩
end Go.Proofs.YtdplngplljejhaaDoor
