import Derived.Test.YtggcampdkgfmgaaRows
import Derived.Test.YtggcampdkgfmgaaJB
namespace Go.Proofs.Ytggcampdkgfmgaa.W1
open Go.RowKit

def nameByte (c : UInt8) : Bool := decide (33 ≤ c.toNat) && decide (c.toNat ≤ 126) && !decide (c.toNat = 44)
def nameOk (s : ByteArray) : Bool := decide (1 ≤ s.size) && decide (s.size ≤ 64) && s.data.toList.all nameByte

/-- The writer's block and the row of bytes that it has. -/
def WSt (w : World) (base g : Nat) (bs : List UInt8) : Prop :=
  base ≤ g ∧ ∃ A c, Box w g 71 #[.slice A bs.length c] ∧ w.ownsRow base 5 1 (.slice A bs.length c) bs.length (bv bs)

theorem wst_store {base g : Nat} {bs cs : List UInt8} {A A' : Option Addr} {c c' : Nat} {w0 w w' : World} (hbg : base ≤ g) (hx : Box w g 71 #[.slice A bs.length c]) (ho : w.ownsRow base 5 1 (.slice A bs.length c) bs.length (bv bs))
    (hk : Kept base [71, 5] w0 w) (hg : w.grownBy w' (Value.slice A bs.length c).ownBlock) (ho' : w'.ownsRow base 5 1 (.slice A' (bs.length + cs.length) c') (bs.length + cs.length) (bv bs ++ bv cs)) :
    WSt (w'.setCell ⟨g, 0, none⟩ (.slice A' (bs.length + cs.length) c')) base g (bs ++ cs) ∧ Kept base [71, 5] w0 (w'.setCell ⟨g, 0, none⟩ (.slice A' (bs.length + cs.length) c')) := by
  have hne : (Value.slice A bs.length c).ownBlock ≠ some g := own_ne ho hx (by decide)
  have hx' : Box w' g 71 #[.slice A bs.length c] := hx.same (hg.block g hx.lt (fun e => hne e.symm))
  have k1 : Kept base [71, 5] w w' := (Kept.refl _ _ _).grown hg (fun k hk => by obtain ⟨a, cs, b⟩ := own_box ho k hk; exact ⟨a, 5, cs, by simp, b⟩)
  have k2 := (hk.trans k1).store (i := 0) hx' hbg (by simp) (.slice A' (bs.length + cs.length) c')
  refine ⟨⟨hbg, A', c', ?_, ?_⟩, k2⟩
  · have := hx'.store 0 (.slice A' (bs.length + cs.length) c')
    simpa using this
  · have k3 : Kept 0 [71] w' (w'.setCell ⟨g, 0, none⟩ (.slice A' (bs.length + cs.length) c')) := (Kept.refl _ _ _).store hx' (Nat.zero_le _) (by simp) _
    have := k3.own ho' (by decide)
    simpa [bv_append] using this

set_option maxHeartbeats 400000 in
set_option maxRecDepth 100000 in
theorem small_high (g : Nat) (n m : Nat) (h : m < n) (w : World) :
    Calls Try.prog 49 #[.pointer (some ⟨g, 0, none⟩), .int .u32 n, .int .u32 m] w fun e w' => e = .returned (.int .i64 5) ∧ w = w' := by
  go_enter Try.func49, Try.ntmps49
  go_wp2
  go_ret
  exact ⟨rfl, rfl⟩

set_option maxHeartbeats 400000 in
set_option maxRecDepth 100000 in
theorem small_low (base g : Nat) (bs : List UInt8) (n m : Nat) (h : n ≤ m) (hm : m ≤ 255) (w : World) (hs : WSt w base g bs) (hl : bs.length ≤ 1000000) :
    Calls Try.prog 49 #[.pointer (some ⟨g, 0, none⟩), .int .u32 n, .int .u32 m] w fun e w' => e = .returned (.int .i64 0) ∧ WSt w' base g (bs ++ [UInt8.ofNat n]) ∧ Kept base [71, 5] w w' := by
  obtain ⟨hbg, A, c, hx, ho⟩ := hs
  obtain ⟨i0, hi0, hz0, hz1, hz2⟩ := info_parts Try.info5
  have hc : w.cell? ⟨g, 0, none⟩ = some (.slice A bs.length c) := hx.cell 0
  have hlt := hx.lt
  have hn : bv [UInt8.ofNat n] = [.int .u8 n] := by simp [bv]; omega
  have HN := hid hn; clear hn
  have HL := hid hl; clear hl
  go_enter Try.func49, Try.ntmps49
  go_wp2_with (at_builtin; refine wpList_app _ rfl (.tmp 14) (.tmp 17) 27 rfl base 5 i0 _ 1 1 Try.underlying27 hi0 hz0 hz1 hz2 rfl (by omega) A bs.length c (bv bs) rfl ?own (w.heap.size + 1) (some ⟨w.heap.size, 0, none⟩) 1 1 [.int .u8 n] rfl rfl ?c1 ?c2 ?b1 ?b2 ?b3 ?grow)
  case own => exact ho.alloc _
  case c1 => exact lies_lit _ _ _
  case c2 => intro u hu; simp at hu; subst hu; rfl
  case b1 => have := HL.out; unfold maxLen; omega
  case b2 => have := HL.out; omega
  case b3 => simp; omega
  case grow =>
    intro A' c' w' ho' hg
    rw [← HN.out] at ho'
    have hx1 : Box (w.alloc (.cells #[.int .u8 n] 5)) g 71 #[.slice A bs.length c] := hx.same (Below.heap_alloc _ _ _ hlt)
    have hfin := wst_store (cs := [UInt8.ofNat n]) hbg hx1 (ho.alloc _) ((Kept.refl base [71, 5] w).alloc _) hg ho'
    have hx2 : Box w' g 71 #[.slice A bs.length c] := hx1.same (hg.block g hx1.lt (fun e => own_ne ho hx (by decide) e.symm))
    have hc2 : w'.cell? ⟨g, 0, none⟩ = some (.slice A bs.length c) := hx2.cell 0
    have hf2 : w'.frozen? ⟨g, 0, none⟩ = false := hx2.frozen 0
    have HF := hid hfin; clear hfin
    go_wp2
    go_ret
    exact ⟨rfl, HF.out⟩

end Go.Proofs.Ytggcampdkgfmgaa.W1
