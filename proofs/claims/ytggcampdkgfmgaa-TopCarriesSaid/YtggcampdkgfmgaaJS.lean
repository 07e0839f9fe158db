import Derived.Test.YtggcampdkgfmgaaJR
import Derived.Test.YtggcampdkgfmgaaJL
namespace Go.Proofs.Ytggcampdkgfmgaa
open Go.RowKit

/-! Layer 16: a byte that is typed, stripped already. -/
/-- What a byte has made of it: the signals, in memory that isn't the discipline's. -/
def RetIy (w0 : World) (p : Nat) (S0 : Nat → Prop) (r : Ds × List Int) (e : Ending) (w' : World) : Prop := ∃ A n c S' h', e = .returned (.slice A n c) ∧ Hid (r.2.length = n) ∧ Hid (SlI w' w'.heap.size A c r.2) ∧ Hid (Wy w0 p S0 w' S' r.1 h') ∧ Hid (r.2 ≠ [] → ∀ a, A = some a → ¬ S' a.block)
section
variable {w0 w : World} {p : Nat} {S0 S : Nat → Prop} {D E : Ds} {h : Ph}
theorem nots (H : Hid (Wy w0 p S0 w S D h)) {g : Nat} (hg : w.heap.size ≤ g) : Hid (¬ S g) := hid fun hs => absurd (H.out.at_.top _ hs) (by omega)
theorem Wy.self (H : Hid (Wy w0 p S0 w S D h)) : Hid (Wy w p S w S D h) := hid ⟨H.out.at_, fun x hx => .inl hx, ButP.refl S w⟩
theorem dout_box {w' : World} {D' : Ds} (K : DOut w p S D' w') {g : Nat} {T : TypeId} {cs : Array Value} (X : Hid (Box w g T cs)) (hg : Hid (¬ S g)) : Hid (Box w' g T cs) := by
  obtain ⟨_, _, _, k⟩ := K
  exact hid (k.out.box X.out hg.out)
theorem sli_nil (w : World) : Hid (SlI w w.heap.size none 0 []) := hid ⟨Nat.le_refl _, Nat.zero_le _, fun _ => rfl, fun hn => absurd rfl hn⟩
theorem reti_nil (H : Hid (Wy w0 p S0 w S D h)) : RetIy w0 p S0 (D, []) (.returned (.slice none 0 0)) w := ⟨none, 0, 0, S, h, rfl, hid rfl, sli_nil w, H, hid (fun hn => absurd rfl hn)⟩
theorem reti_one (H : Hid (Wy w0 p S0 w S D h)) (sg : Int) : RetIy w0 p S0 (D, [sg]) (.returned (.slice (some ⟨w.heap.size, 0, none⟩) 1 1)) (w.alloc (.cells #[.int .i64 sg] 3)) := by
  refine ⟨_, 1, 1, S, h, rfl, hid rfl, hid ⟨Nat.le_refl _, by unfold maxLen; omega, (fun e => by cases e), fun _ => ⟨w.heap.size, 0, rfl, by simp, fun j u hu => ?_⟩⟩, Wy.bel H ((Below.refl _ _).alloc (Nat.le_refl _) _), hid (fun _ a ha => ?_)⟩
  · rw [Nat.zero_add, (Box.new w 3 #[.int .i64 sg]).cell j]
    simpa using hu
  · injection ha with ha
    subst ha
    intro hs
    exact absurd (H.out.at_.top _ hs) (Nat.lt_irrefl _)
attribute [local go_sem ↓] wp_ldR ex_ldR

end
end Go.Proofs.Ytggcampdkgfmgaa
