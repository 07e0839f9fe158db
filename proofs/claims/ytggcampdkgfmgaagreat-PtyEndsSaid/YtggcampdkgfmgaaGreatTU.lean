import Derived.Test.YtggcampdkgfmgaaGreatTT
import Derived.Test.YtggcampdkgfmgaaGreatTL
import Derived.Test.YtggcampdkgfmgaaGreatTM
import Derived.Test.YtggcampdkgfmgaaGreatQN
namespace Go.Proofs.YtggcampdkgfmgaaGreat
open Go.RowKit

/-! Layer 17: a terminal and a discipline, side by side. -/
structure Bo (w0 w : World) (g p q : Nat) (S T : Nat → Prop) (P : Ps) (D : Ds) : Prop where
  pt : AlP w0 w g p S P
  di : Al w0 w q T D
  dis : ∀ x, T x → ¬ GS g S x
/-- Bytes that neither turns. -/
structure By (w : World) (g : Nat) (S T : Nat → Prop) (A : Option Addr) (c : Nat) (b : List UInt8) : Prop where
  sl : SlB w w.heap.size A c b
  off : b ≠ [] → ∀ a, A = some a → ¬ GS g S a.block ∧ ¬ T a.block
section
variable {w0 w w' : World} {g p q : Nat} {S S' T T' : Nat → Prop} {P P' : Ps} {D D' : Ds} {A A' : Option Addr} {c c' : Nat} {b b' : List UInt8}
theorem GS.lt (H : AlP w0 w g p S P) {x : Nat} (h : GS g S x) : x < w.heap.size := by
  rcases h with h | rfl
  · exact H.at_.at_.top _ h
  · exact H.at_.lt
theorem GS.new (h : Py w g p S w' S' P') {x : Nat} (hx : GS g S' x) : GS g S x ∨ w.heap.size ≤ x := by
  rcases hx with hx | rfl
  · rcases h.new _ hx with h | h
    · exact .inl (.inl h)
    · exact .inr h
  · exact .inl (.inr rfl)
theorem Bo.grow (H : Bo w0 w g p q S T P D) (k : Below w.heap.size w w') : Bo w0 w' g p q S T P D := ⟨H.pt.grow k, H.di.grow k, H.dis⟩
theorem Bo.left (H : Bo w0 w g p q S T P D) (h : Hid (Py w g p S w' S' P')) : Bo w0 w' g p q S' T P' D := by
  refine ⟨H.pt.next h, H.di.keep h.out.but H.dis H.pt.new, fun x hx hg => ?_⟩
  rcases GS.new h.out hg with h1 | h1
  · exact H.dis x hx h1
  · have := H.di.at_.top x hx; omega
theorem Bo.leftO (H : Bo w0 w g p q S T P D) (h : POut w g p S P' w') : ∃ S', Hid (Bo w0 w' g p q S' T P' D) ∧ Hid (Py w g p S w' S' P') := by
  obtain ⟨S', h⟩ := h
  exact ⟨S', hid (H.left h), h⟩
theorem Bo.right_ (H : Bo w0 w g p q S T P D) (h1 : DAt w' q T' D') (h2 : ∀ x, T' x → T x ∨ w.heap.size ≤ x) (h3 : ButP T w w') : Bo w0 w' g p q S T' P D' := by
  refine ⟨⟨H.pt.at_.keep h3 (fun x hg ht => H.dis x ht hg), H.pt.new, H.pt.bel.trans (h3.below H.pt.bel.size H.di.new)⟩, ⟨h1, fun x hx => ?_, H.di.bel.trans (h3.below H.di.bel.size H.di.new)⟩, fun x hx hg => ?_⟩
  · rcases h2 x hx with h | h
    · exact H.di.new x h
    · exact Nat.le_trans H.di.bel.size h
  · rcases h2 x hx with h | h
    · exact H.dis x h hg
    · have := GS.lt H.pt hg; omega
theorem Bo.right (H : Bo w0 w g p q S T P D) (h : DOut w q T D' w') : ∃ T', Hid (Bo w0 w' g p q S T' P D') ∧ Hid (∀ x, T' x → T x ∨ w.heap.size ≤ x) ∧ Hid (ButP T w w') := by
  obtain ⟨T', h1, h2, h3⟩ := h
  exact ⟨T', hid (H.right_ h1.out h2.out h3.out), h2, h3⟩
theorem By.grow (H : By w g S T A c b) (k : Below w.heap.size w w') : By w' g S T A c b := ⟨(slb_at (hid H.sl) (hid k)).out, H.off⟩
theorem By.ns (Y : By w g S T A c b) : b ≠ [] → ∀ a, A = some a → ¬ S a.block := fun hb a ha hS => (Y.off hb a ha).1 (Or.inl hS)
theorem By.nt (Y : By w g S T A c b) : b ≠ [] → ∀ a, A = some a → ¬ T a.block := fun hb a ha => (Y.off hb a ha).2
theorem By.left (Y : By w g S T A c b) (h : Hid (Py w g p S w' S' P')) : By w' g S' T A c b := by
  refine ⟨(slb_but (hid Y.sl) h.out.but (fun hb a ha => (Y.off hb a ha).1)).out, fun hb a ha => ⟨fun hg => ?_, (Y.off hb a ha).2⟩⟩
  rcases GS.new h.out hg with h1 | h1
  · exact (Y.off hb a ha).1 h1
  · have := slb_lt (hid Y.sl) hb a ha; omega
theorem By.right (Y : By w g S T A c b) (h2 : Hid (∀ x, T' x → T x ∨ w.heap.size ≤ x)) (h3 : Hid (ButP T w w')) : By w' g S T' A c b := by
  refine ⟨(slb_but (hid Y.sl) h3.out (fun hb a ha => (Y.off hb a ha).2)).out, fun hb a ha => ⟨(Y.off hb a ha).1, fun ht => ?_⟩⟩
  rcases h2.out _ ht with h1 | h1
  · exact (Y.off hb a ha).2 h1
  · have := slb_lt (hid Y.sl) hb a ha; omega
/-- Bytes that were there before both. -/
theorem By.old (H : Bo w0 w g p q S T P D) (h : SlB w0 w0.heap.size A c b) : By w g S T A c b :=
  ⟨(slb_at (hid h) (hid H.pt.bel)).out, fun hb a ha => by
    have h1 := slb_lt (hid h) hb a ha
    exact ⟨fun hg => by have := H.pt.new _ hg; omega, fun ht => by have := H.di.new _ ht; omega⟩⟩
theorem Bo.bytes {r : Ps × List UInt8 × Int} {e : Ending} (H : Bo w0 w g p q S T P D) (h : RetPb w g p S r e w') : ∃ A n c S', e = .returned (.tuple #[.slice A n c, .int .i64 r.2.2]) ∧ Hid (r.2.1.length = n) ∧ Hid (Bo w0 w' g p q S' T r.1 D) ∧ Hid (By w' g S' T A c r.2.1) ∧ Hid (Py w g p S w' S' r.1) := by
  obtain ⟨A, n, c, S', rfl, hn, hs, h1, h2⟩ := h
  refine ⟨A, n, c, S', rfl, hn, hid (H.left h1), hid ⟨hs.out, fun hb a ha => ⟨(h2.out hb a ha).2, fun ht => ?_⟩⟩, h1⟩
  have h3 := (h2.out hb a ha).1
  have := H.di.at_.top _ ht
  omega
theorem Bo.bytesR (H : Bo w0 w g p q S T P D) (hs : Hid (SlB w' w'.heap.size A c b)) (h : DOutF w q T D' A b w') : ∃ T', Hid (Bo w0 w' g p q S T' P D') ∧ Hid (By w' g S T' A c b) ∧ Hid (∀ x, T' x → T x ∨ w.heap.size ≤ x) ∧ Hid (ButP T w w') := by
  obtain ⟨T', h1, h2, h3, h4, h5⟩ := h
  refine ⟨T', hid (H.right_ h1.out h2.out h3.out), hid ⟨hs.out, fun hb a ha => ⟨fun hg => ?_, h4.out hb a ha⟩⟩, h2, h3⟩
  have k1 := h5.out hb a ha
  have := GS.lt H.pt hg
  omega
theorem Bo.events {r : Ps × Nat × List (Int × Int)} {e : Ending} (H : Bo w0 w g p q S T P D) (h : RetMw w g p S r e w') : ∃ A n c S', e = .returned (.tuple #[.int .i64 (r.2.1 : Int), .slice A n c]) ∧ Hid (Bo w0 w' g p q S' T r.1 D) ∧ Hid (Py w g p S w' S' r.1) := by
  obtain ⟨A, n, c, S', rfl, _, _, h1, _⟩ := h
  exact ⟨A, n, c, S', rfl, hid (H.left h1), h1⟩
end
/-- All of it, typed. -/
def inAll (D : Ds) (b : List UInt8) : Ds := b.foldl (fun D c => (inputD D c).1) D
theorem Inv.inAll {D : Ds} (h : Inv D) : ∀ b : List UInt8, Inv (inAll D b)
  | [] => h
  | c :: r => (h.input c).inAll r
theorem Inv.used {D : Ds} (h : Inv D) : usedD D ≤ 2303 := by
  have h1 := h.line
  have h2 := h.ls
  have h3 := h.raw
  unfold usedD
  omega
theorem typeM_inv : ∀ (b : List UInt8) {D : Ds}, Inv D → (typeM D b).1 = inAll D b ∧ (typeM D b).2.1 = b.length
  | [], _, _ => ⟨rfl, rfl⟩
  | c :: r, D, h => by
    have h1 := h.used
    have h2 := typeM_inv r (h.input c)
    unfold typeM
    rw [if_neg (by omega)]
    exact ⟨h2.1, by show (typeM (inputD D c).1 r).2.1 + 1 = _; rw [h2.2, List.length_cons]⟩
theorem inAll_take {D : Ds} {b : List UInt8} {k : Nat} {y : UInt8} (h : b[k]? = some y) : inAll D (b.take (k + 1)) = (inputD (inAll D (b.take k)) y).1 := by
  have hk : k < b.length := (List.getElem?_eq_some_iff.1 h).1
  have hy := (List.getElem?_eq_some_iff.1 h).2
  unfold inAll
  rw [List.take_succ_eq_append_getElem hk, List.foldl_append, hy]
  rfl
theorem readD_no (D : Ds) (n k : Int) (h : (readD D n k).2.2 = false) : (readD D n k).2.1 = [] := by
  unfold readD at h ⊢
  by_cases h1 : D.has 51 = true
  · rw [if_pos h1] at h ⊢
    dsimp only at h ⊢
    by_cases h2 : (L13.readL D.ls n).2.2 = true
    · rw [if_pos h2] at h; cases h
    · rw [if_neg h2]
  · rw [if_neg h1] at h ⊢
    dsimp only at h ⊢
    by_cases h2 : (L14.readyI D.t.m D.t.s D.raw.length n D.idle k).2 = true
    · rw [if_pos h2] at h; cases h
    · rw [if_neg h2]
end Go.Proofs.YtggcampdkgfmgaaGreat
