import Derived.Test.YtfpkjocoifoigaaGreatDoorQU
import Derived.Deep.RegionHeld3
namespace Go.Proofs.YtfpkjocoifoigaaGreatDoor
open Go.RowKit

theorem q_tk_hid {w w' : World} {base c : Nat} {A : Option Addr} {bs : List UInt8} (h : Hid (TK w base A c bs)) (hb : Hid (Below w.heap.size w w')) : Hid (TK w' base A c bs) := h.out.below hb.out
theorem q_tk_base {w : World} {base base' c : Nat} {A : Option Addr} {bs : List UInt8} (h : Hid (TK w base A c bs)) (hb : base ≤ base') : Hid (TK w base' A c bs) :=
  ⟨h.out.1, h.out.2.1, fun hn => by obtain ⟨b, o, e, h1, h2, h3⟩ := h.out.2.2 hn; exact ⟨b, o, e, h1, h2.imp (fun x => by omega) id, h3⟩⟩
theorem q_box_a {w : World} {g : Nat} {t : TypeId} {cs : Array Value} (h : Hid (Box w g t cs)) (o : Obj) : Hid (Box (w.alloc o) g t cs) := box_below h.out (bel1 w o)
theorem greatq_x (w : World) (r : Rq) (A : Option Addr) (c l : Nat) (g : Bool) (hX : Hid (greatQ r = g)) (hr : Hid r.Ok) (hl : r.modes.length = l) (hm : l ≤ maxLen) :
    Calls Tryz.prog 6 #[.agg #[.int .i64 r.kind, .string r.text, .string r.value, .string r.lang, .int .u32 r.cols, .int .u32 r.rows, .int .u32 r.width, .int .u32 r.height, .slice A l c, .bool r.on, .int .u32 r.code]] w fun e w' => e = .returned (.bool g) ∧ Hid (Below w.heap.size w w') := by
  subst hl
  refine (greatq_any r A c w hr.out hm).mono ?_
  rw [hX.out]
  exact fun e w' h => h
theorem sameq_x (w : World) (X : Rq) (A A2 : Option Addr) (c c2 lx : Nat) (hl : X.modes.length = lx) (hx : Hid (Lies w w.heap.size A (bv X.modes))) (hy : Hid (Lies w w.heap.size A2 (bv X.modes))) (hm : lx ≤ maxLen) :
    Calls Tryz.prog 12 #[.agg #[.int .i64 X.kind, .string X.text, .string X.value, .string X.lang, .int .u32 X.cols, .int .u32 X.rows, .int .u32 X.width, .int .u32 X.height, .slice A lx c, .bool X.on, .int .u32 X.code], .agg #[.int .i64 X.kind, .string X.text, .string X.value, .string X.lang, .int .u32 X.cols, .int .u32 X.rows, .int .u32 X.width, .int .u32 X.height, .slice A2 lx c2, .bool X.on, .int .u32 X.code]] w fun e w' => e = .returned (.bool true) ∧ Hid (Below w.heap.size w w') := by
  subst hl
  exact (same_q X A A2 c c2 _ _ w hx.out hy.out (Nat.le_refl _) (Nat.le_refl _) hm)
theorem ownq_x (w : World) (k : Rw) (r X : Rq) (A : Option Addr) (c l lx base : Nat) (hk : Hid (r.kind = k.kind)) (hX : Hid (k.own r = X)) (hl : r.modes.length = l) (hm : X.modes.length = lx) (hd : Hid (TK w base A c r.modes)) :
    Calls Tryz.prog 19 #[.agg #[.int .i64 r.kind, .string r.text, .string r.value, .string r.lang, .int .u32 r.cols, .int .u32 r.rows, .int .u32 r.width, .int .u32 r.height, .slice A l c, .bool r.on, .int .u32 r.code]] w fun e w' => ∃ A2 c2, e = .returned (.agg #[.int .i64 X.kind, .string X.text, .string X.value, .string X.lang, .int .u32 X.cols, .int .u32 X.rows, .int .u32 X.width, .int .u32 X.height, .slice A2 lx c2, .bool X.on, .int .u32 X.code]) ∧ Hid (Below w.heap.size w w') ∧ Hid (TK w' base A2 c2 X.modes) := by
  have h := ownq_any k r A c l lx base w hk.out hl (by rw [hX.out]; exact hm) hd
  rw [hX.out] at h
  exact h

end Go.Proofs.YtfpkjocoifoigaaGreatDoor
