import Derived.Test.YtdplngplljejhaaDoorQA
namespace Go.Proofs.YtdplngplljejhaaDoor
open Go.RowKit

theorem Tryd.info83 : (Tryd.prog.info? 80).map (fun i => (i.zero, i.size, i.bytes)) = some (some (.agg #[.int .i64 0, .int .u32 0, .slice none 0 0, .slice none 0 0]), 4, 64) := by kernel_rfl
theorem own_bel {w w' : World} {base : Nat} {e : TypeId} {size n : Nat} {v : Value} {xs : List Value} (h : w.ownsRow base e size v n xs) (hb : Below w.heap.size w w') : w'.ownsRow base e size v n xs :=
  (Kept.of_below hb w.heap.size []).own h (by simp)
theorem one4k (k : Int) (n : Nat) (tA lA : Option Addr) (a b tc lc : Nat) : ∀ u ∈ (#[Value.int .i64 k, .int .u32 n, .slice tA a tc, .slice lA b lc] : Array Value).toList, u.oneCell' = true := by
  intro u hu
  simp only [List.mem_cons, List.mem_nil_iff, or_false] at hu
  rcases hu with rfl | rfl | rfl | rfl <;> rfl

/-- A writer's cells. -/
def Rq.wcells (r : Rq) (A : Option Addr) (c : Nat) (fA : Option Addr) (n fc : Nat) (bad long : Bool) : Array Value :=
  #[.int .i64 r.kind, .string r.text, .string r.value, .string r.lang, .int .u32 r.cols, .int .u32 r.rows, .int .u32 r.width, .int .u32 r.height, .slice A r.modes.length c, .bool r.on, .int .u32 r.code, .slice fA n fc, .bool bad, .bool long]
/-- A writer's block, and the fields that it has. -/
def WrS (w : World) (base g : Nat) (r : Rq) (A : Option Addr) (c : Nat) (s : Ws) : Prop :=
  base ≤ g ∧ TK w base A c r.modes ∧ ∃ fA fc cs, Box w g 72 (r.wcells A c fA s.fs.length fc s.bad s.long) ∧ w.ownsRow base 80 4 (.slice fA s.fs.length fc) s.fs.length cs ∧ FlatK w base s.fs cs
section
variable {w w' w0 : World} {base g c : Nat} {r : Rq} {A : Option Addr} {s : Ws}
theorem WrS.lt (h : WrS w base g r A c s) : base ≤ w.heap.size := by
  obtain ⟨h0, _, fA, fc, cs, hx, _⟩ := h
  have := hx.lt
  omega
theorem WrS.low (h : WrS w base g r A c s) : g < w.heap.size := by
  obtain ⟨h0, _, fA, fc, cs, hx, _⟩ := h
  exact hx.lt
theorem WrS.kept {T : List TypeId} (h : WrS w base g r A c s) (k : Kept base T w w') (h1 : 72 ∉ T) (h2 : 80 ∉ T) (h3 : 5 ∉ T) : WrS w' base g r A c s := by
  obtain ⟨h0, ht, fA, fc, cs, hx, ho, hf⟩ := h
  exact ⟨h0, ht.kept k h3, fA, fc, cs, k.box hx h1, k.own ho h2, FlatK.kept k h3 _ _ hf⟩
theorem WrS.below (h : WrS w base g r A c s) (k : Below w.heap.size w w') : WrS w' base g r A c s := h.kept (Kept.of_below k base []) (by simp) (by simp) (by simp)
theorem WrS.kept0 {T : List TypeId} {B : Nat} (h : WrS w base g r A c s) (k : Kept B T w w') (h0 : base ≤ B) (h1 : 72 ∉ T) (h2 : 80 ∉ T) (h3 : 5 ∉ T) : WrS w' base g r A c s := h.kept (k.mono h0 (fun _ h => h)) h1 h2 h3
theorem wr_store {fA A' tA : Option Addr} {fc n c' tc : Nat} {cs : List Value} {f : Fd} {bad long : Bool} {fs : List Fd} (hn : fs.length = n) (hbg : base ≤ g) (ht : TK w base A c r.modes) (hx : Box w g 72 (r.wcells A c fA n fc bad long))
    (ho : w.ownsRow base 80 4 (.slice fA n fc) n cs) (hf : FlatK w base fs cs) (htk : TK w base tA tc f.text) (hl : f.list = [])
    (ho' : w'.ownsRow base 80 4 (.slice A' (n + 1) c') (n + 1) (cs ++ (#[.int .i64 f.kind, .int .u32 f.n, .slice tA f.text.length tc, .slice none 0 0] : Array Value).toList)) (hg : w.grownBy w' (Value.slice fA n fc).ownBlock) :
    WrS (w'.setCell ⟨g, 11, none⟩ (.slice A' (n + 1) c')) base g r A c ⟨fs ++ [f], bad, long⟩ ∧ Kept base [72, 80] w (w'.setCell ⟨g, 11, none⟩ (.slice A' (n + 1) c')) := by
  subst hn
  have hne : (Value.slice fA fs.length fc).ownBlock ≠ some g := own_ne ho hx (by decide)
  have hx' : Box w' g 72 (r.wcells A c fA fs.length fc bad long) := hx.same (hg.block g hx.lt (fun e => hne e.symm))
  have k1 : Kept base [80] w w' := (Kept.refl _ _ _).grown hg (fun k hk => by obtain ⟨a, cs, b⟩ := own_box ho k hk; exact ⟨a, 80, cs, by simp, b⟩)
  have k2 : Kept base [72] w' (w'.setCell ⟨g, 11, none⟩ (.slice A' (fs.length + 1) c')) := (Kept.refl _ _ _).store hx' hbg (by simp) _
  have k3 : Kept base [72, 80] w (w'.setCell ⟨g, 11, none⟩ (.slice A' (fs.length + 1) c')) := (k1.mono (Nat.le_refl _) (by simp)).trans (k2.mono (Nat.le_refl _) (by simp))
  have e : (fs ++ [f]).length = fs.length + 1 := by simp
  have hx3 : Box (w'.setCell ⟨g, 11, none⟩ (.slice A' (fs.length + 1) c')) g 72 (r.wcells A c A' (fs ++ [f]).length c' bad long) := by rw [e]; exact hx'.store 11 (.slice A' (fs.length + 1) c')
  have ho3 : (w'.setCell ⟨g, 11, none⟩ (.slice A' (fs.length + 1) c')).ownsRow base 80 4 (.slice A' (fs ++ [f]).length c') (fs ++ [f]).length (cs ++ (#[.int .i64 f.kind, .int .u32 f.n, .slice tA f.text.length tc, .slice none 0 0] : Array Value).toList) := by rw [e]; exact k2.own ho' (by decide)
  exact ⟨⟨hbg, (ht.kept k1 (by decide)).kept k2 (by decide), A', c', _, hx3, ho3, FlatK.kept k2 (by decide) _ _ (FlatK.snoc (htk.kept k1 (by decide)) hl _ _ (FlatK.kept k1 (by decide) _ _ hf))⟩, k3⟩
theorem wr_bad (h : WrS w base g r A c s) : WrS (w.setCell ⟨g, 12, none⟩ (.bool true)) base g r A c ⟨s.fs, true, s.long⟩ ∧ Kept base [72, 80] w (w.setCell ⟨g, 12, none⟩ (.bool true)) := by
  obtain ⟨h0, ht, fA, fc, cs, hx, ho, hf⟩ := h
  have k2 : Kept base [72] w (w.setCell ⟨g, 12, none⟩ (.bool true)) := (Kept.refl _ _ _).store hx h0 (by simp) _
  exact ⟨⟨h0, ht.kept k2 (by decide), fA, fc, cs, hx.store 12 (.bool true), k2.own ho (by decide), FlatK.kept k2 (by decide) _ _ hf⟩, k2.mono (Nat.le_refl _) (by simp)⟩
theorem wr_long (h : WrS w base g r A c s) : WrS (w.setCell ⟨g, 13, none⟩ (.bool true)) base g r A c ⟨s.fs, s.bad, true⟩ ∧ Kept base [72, 80] w (w.setCell ⟨g, 13, none⟩ (.bool true)) := by
  obtain ⟨h0, ht, fA, fc, cs, hx, ho, hf⟩ := h
  have k2 : Kept base [72] w (w.setCell ⟨g, 13, none⟩ (.bool true)) := (Kept.refl _ _ _).store hx h0 (by simp) _
  exact ⟨⟨h0, ht.kept k2 (by decide), fA, fc, cs, hx.store 13 (.bool true), k2.own ho (by decide), FlatK.kept k2 (by decide) _ _ hf⟩, k2.mono (Nat.le_refl _) (by simp)⟩
end
/-- What a call that puts fields does. -/
def PutW (base g : Nat) (r : Rq) (A : Option Addr) (c : Nat) (s : Ws) (w : World) (e : Ending) (w' : World) : Prop := e = .returned (.tuple #[]) ∧ WrS w' base g r A c s ∧ Kept base [72, 80] w w'

set_option maxHeartbeats 800000 in
set_option maxRecDepth 100000 in
theorem wnum_any (base g n c : Nat) (r : Rq) (A : Option Addr) (s : Ws) (w : World) (hs : WrS w base g r A c s) (hl : s.fs.length ≤ 100) :
    Calls Tryd.prog 93 #[.pointer (some ⟨g, 0, none⟩), .int .u32 n] w (PutW base g r A c (s.num n) w) := by
  obtain ⟨hbg, ht, fA, fc, cs, hx, ho, hf⟩ := hs
  obtain ⟨i0, hi0, hz0, hz1, hz2⟩ := info_parts Tryd.info83
  have hc : w.cell? ⟨g, 11, none⟩ = some (.slice fA s.fs.length fc) := hx.cell 11
  have hlt := hx.lt
  have HX := hid hx
  have HO := hid ho
  have HF := hid hf
  have HT := hid ht
  clear hx ho hf ht
  obtain ⟨m, HM⟩ : ∃ m, Hid (s.fs.length = m) := ⟨_, hid rfl⟩
  rw [HM.out] at hc HO hl
  have HX1 : Hid (Box w g 72 (r.wcells A c fA m fc s.bad s.long)) := by have h := HX.out; rw [HM.out] at h; exact h
  go_enter Tryd.func93, Tryd.ntmps93
  go_wp2_with (
    at_builtin
    refine wpList_app _ rfl (.tmp 8) (.tmp 11) 63 rfl base 80 i0 _ 4 64 Tryd.underlying63 hi0 hz0 hz1 hz2 rfl ?g1 fA m fc cs rfl (own_bel HO.out ((Below.refl _ _).alloc (Nat.le_refl _) _)) _ _ 1 1 _ rfl ?g2 (lies_lit _ _ _) (one4k _ _ _ _ _ _ _ _) ?g3 ?g4 ?g5 ?_
    case g1 => omega
    case g2 => rfl
    case g3 => unfold maxLen; omega
    case g4 => omega
    case g5 => simp; omega
    intro A6 c6 w6 ho6 hg6
    have hb1 : Below w.heap.size w (w.alloc (.cells #[.int .i64 3, .int .u32 n, .slice none 0 0, .slice none 0 0] 80)) := (Below.refl _ _).alloc (Nat.le_refl _) _
    have hx1 : Box (w.alloc (.cells #[.int .i64 3, .int .u32 n, .slice none 0 0, .slice none 0 0] 80)) g 72 (r.wcells A c fA m fc s.bad s.long) := HX1.out.same (hb1.block _ hlt)
    have ho1 := own_bel HO.out hb1
    have hx2 : Box w6 g 72 (r.wcells A c fA m fc s.bad s.long) := hx1.same (hg6.block g hx1.lt (fun e => own_ne ho1 hx1 (by decide) e.symm))
    have hc2 : w6.cell? ⟨g, 11, none⟩ = some (.slice fA m fc) := hx2.cell 11
    have hf2 : w6.frozen? ⟨g, 11, none⟩ = false := hx2.frozen 11
    have hfin := wr_store (f := ⟨3, n, [], []⟩) HM.out hbg (HT.out.below hb1) hx1 ho1 (FlatK.kept (Kept.of_below hb1 base []) (by simp) _ _ HF.out) (TK.nil_ _ _) rfl ho6 hg6
    have HB1 := hid hb1
    have HFIN := hid hfin
    clear hfin ho6 hg6 hx1 hx2 ho1 hb1)
  go_end0
  exact ⟨rfl, HFIN.out.1, ((Kept.of_below HB1.out base [72, 80])).trans HFIN.out.2⟩

end Go.Proofs.YtdplngplljejhaaDoor
