import Derived.Test.YtdplngplljejhaaDoorMF
namespace Go.Proofs.YtdplngplljejhaaDoor
open Go.RowKit

namespace Pl
def put (f : Fd) (m : Mg) : Pl → Mg
  | code => { m with code := f.n }
  | text => { m with data := f.text }
  | lang => { m with lang := ⟨f.text.toArray⟩ }
  | name => { m with name := ⟨f.text.toArray⟩ }
  | want => { m with want := !decide ((f.n : Int) = 0) }
  | rest => { m with data := f.text }
  | sender => { m with sender := f.n }
  | window => { m with window := f.n }
  | packet => { m with packet := f.n }
  | chan => { m with chan := f.n }
end Pl
def zeroM : Mg := ⟨0, 0, 0, 0, 0, 0, ⟨#[]⟩, ⟨#[]⟩, false, []⟩
def putsF : List Pl → List Fd → Mg → Int × Mg
  | [], _, m => (0, m)
  | _ :: _, [], m => (0, m)
  | p :: ps, f :: fs, m => if Pl.ok (p.put f m) p = true then putsF ps fs (p.put f m) else (4, zeroM)
/-- The message that a payload is. -/
def decF : List UInt8 → Int × Mg
  | [] => (3, zeroM)
  | k :: r => match look k.toNat tab with
    | none => (8, zeroM)
    | some ps => if (readF (1 :: ps.map Pl.kind) (k :: r)).1 = 0 then putsF ps ((readF (1 :: ps.map Pl.kind) (k :: r)).2.drop 1) { zeroM with kind := k.toNat } else ((readF (1 :: ps.map Pl.kind) (k :: r)).1, zeroM)

/-- A letter's block, its bytes the call's own. -/
def MsgO (w : World) (base g : Nat) (m : Mg) : Prop :=
  base ≤ g ∧ m.name.size ≤ maxLen ∧ m.lang.size ≤ maxLen ∧ ∃ A c, Box w g 89 (m.cells A c) ∧ w.ownsRow base 5 1 (.slice A m.data.length c) m.data.length (bv m.data)
theorem MsgO.kept {w w' : World} {base g : Nat} {m : Mg} {B : Nat} {T : List TypeId} (h : MsgO w base g m) (k : Kept B T w w') (h1 : 89 ∉ T) (h5 : 5 ∉ T) : MsgO w' base g m := by
  obtain ⟨a0, a, b, A, c, hx, ht⟩ := h
  exact ⟨a0, a, b, A, c, k.box hx h1, k.own ht h5⟩
theorem MsgO.below {w w' : World} {base g : Nat} {m : Mg} (h : MsgO w base g m) (k : Below w.heap.size w w') : MsgO w' base g m := h.kept (Kept.of_below k 0 []) (by simp) (by simp)

def PutO (base g : Nat) (m : Mg) (er : Int) (w : World) (e : Ending) (w' : World) : Prop := e = .returned (.int .i64 er) ∧ MsgO w' base g m ∧ Kept base [89] w w'
theorem putO_of {w w1 w' : World} {base g i c c' : Nat} {m m' : Mg} {A A' : Option Addr} {v : Value} (hg : base ≤ g) (hx : Box w g 89 (m.cells A c)) (hb1 : Below w.heap.size w w1) (hb2 : Below w1.heap.size (w1.setCell ⟨g, i, none⟩ v) w')
    (hc : (m.cells A c).setIfInBounds i v = m'.cells A' c') (hn : m'.name.size ≤ maxLen) (hl : m'.lang.size ≤ maxLen) (ho : w.ownsRow base 5 1 (.slice A' m'.data.length c') m'.data.length (bv m'.data)) :
    MsgO w' base g m' ∧ Kept base [89] w w' := by
  have hx1 : Box w1 g 89 (m.cells A c) := box_below hx hb1
  have k1 : Kept base [89] w (w1.setCell ⟨g, i, none⟩ v) := (Kept.of_below hb1 base [89]).store hx1 hg (by simp) v
  have k2 : Kept base [89] w w' := k1.trans (Kept.of_below (hb2.mono (by simp)) base [89])
  refine ⟨⟨hg, hn, hl, A', c', ?_, k2.own ho (by decide)⟩, k2⟩
  have h := (hx1.store i v)
  rw [hc] at h
  exact h.same (hb2.block _ hx1.lt)
theorem txt_size (tx : List UInt8) : (⟨tx.toArray⟩ : ByteArray).size = tx.length := by show tx.toArray.size = _; simp

set_option maxHeartbeats 1000000 in
theorem put_any (p : Pl) (f : Fd) (m : Mg) (er : Int) (base g n tc ln lc : Nat) (tA lA : Option Addr) (w : World) (hm : MsgO w base g m) (he : (if Pl.ok (p.put f m) p = true then (0 : Int) else 4) = er) (hn : f.text.length = n)
    (hT : w.ownsRow base 5 1 (.slice tA f.text.length tc) f.text.length (bv f.text)) :
    Calls Tryd.prog p.putN #[p.recv g, .agg #[.int .i64 f.kind, .int .u32 f.n, .slice tA n tc, .slice lA ln lc]] w (PutO base g (p.put f m) er w) := by
  subst hn
  obtain ⟨hg, hs1, hs2, A, c, hx, ho⟩ := hm
  have hlt := hx.lt
  have hcap := own_caps hT
  have hN : f.text.length ≤ maxLen := Nat.le_trans hcap.1 hcap.2
  cases p with
  | code =>
    refine (put81 ⟨g, 5, none⟩ m.code f.kind f.n f.text.length tc ln lc tA lA w hlt (hx.cell 5) (hx.frozen 5)).mono ?_
    rintro e w' ⟨rfl, w1, hb1, hb2⟩
    have h : er = 0 := by rw [← he]; rfl
    subst h
    exact ⟨rfl, putO_of (m' := Pl.put f m .code) hg hx hb1 hb2 rfl hs1 hs2 ho⟩
  | sender =>
    refine (put81 ⟨g, 2, none⟩ m.sender f.kind f.n f.text.length tc ln lc tA lA w hlt (hx.cell 2) (hx.frozen 2)).mono ?_
    rintro e w' ⟨rfl, w1, hb1, hb2⟩
    have h : er = 0 := by rw [← he]; rfl
    subst h
    exact ⟨rfl, putO_of (m' := Pl.put f m .sender) hg hx hb1 hb2 rfl hs1 hs2 ho⟩
  | window =>
    refine (put81 ⟨g, 3, none⟩ m.window f.kind f.n f.text.length tc ln lc tA lA w hlt (hx.cell 3) (hx.frozen 3)).mono ?_
    rintro e w' ⟨rfl, w1, hb1, hb2⟩
    have h : er = 0 := by rw [← he]; rfl
    subst h
    exact ⟨rfl, putO_of (m' := Pl.put f m .window) hg hx hb1 hb2 rfl hs1 hs2 ho⟩
  | packet =>
    refine (put81 ⟨g, 4, none⟩ m.packet f.kind f.n f.text.length tc ln lc tA lA w hlt (hx.cell 4) (hx.frozen 4)).mono ?_
    rintro e w' ⟨rfl, w1, hb1, hb2⟩
    have h : er = 0 := by rw [← he]; rfl
    subst h
    exact ⟨rfl, putO_of (m' := Pl.put f m .packet) hg hx hb1 hb2 rfl hs1 hs2 ho⟩
  | chan =>
    refine (put81 ⟨g, 1, none⟩ m.chan f.kind f.n f.text.length tc ln lc tA lA w hlt (hx.cell 1) (hx.frozen 1)).mono ?_
    rintro e w' ⟨rfl, w1, hb1, hb2⟩
    have h : er = 0 := by rw [← he]; rfl
    subst h
    exact ⟨rfl, putO_of (m' := Pl.put f m .chan) hg hx hb1 hb2 rfl hs1 hs2 ho⟩
  | text =>
    refine (put83 ⟨g, 9, none⟩ A m.data.length c f.kind f.n f.text.length tc ln lc tA lA w hlt (hx.cell 9) (hx.frozen 9)).mono ?_
    rintro e w' ⟨rfl, w1, hb1, hb2⟩
    have h : er = 0 := by rw [← he]; rfl
    subst h
    exact ⟨rfl, putO_of (m' := Pl.put f m .text) hg hx hb1 hb2 rfl hs1 hs2 hT⟩
  | rest =>
    refine (put83 ⟨g, 9, none⟩ A m.data.length c f.kind f.n f.text.length tc ln lc tA lA w hlt (hx.cell 9) (hx.frozen 9)).mono ?_
    rintro e w' ⟨rfl, w1, hb1, hb2⟩
    have h : er = 0 := by rw [← he]; rfl
    subst h
    exact ⟨rfl, putO_of (m' := Pl.put f m .rest) hg hx hb1 hb2 rfl hs1 hs2 hT⟩
  | lang =>
    refine (put85 er ⟨g, 7, none⟩ 0 m.lang f.text f.kind f.n f.text.length tc ln lc tA lA w rfl he (by omega) hN (Lies.own hT) hlt (hx.cell 7) (hx.frozen 7)).mono ?_
    rintro e w' ⟨rfl, w1, hb1, hb2⟩
    exact ⟨rfl, putO_of (m' := Pl.put f m .lang) hg hx hb1 hb2 rfl hs1 (by show (_ : ByteArray).size ≤ _; rw [txt_size]; exact hN) ho⟩
  | name =>
    refine (put85 er ⟨g, 6, none⟩ 1 m.name f.text f.kind f.n f.text.length tc ln lc tA lA w rfl he (by omega) hN (Lies.own hT) hlt (hx.cell 6) (hx.frozen 6)).mono ?_
    rintro e w' ⟨rfl, w1, hb1, hb2⟩
    exact ⟨rfl, putO_of (m' := Pl.put f m .name) hg hx hb1 hb2 rfl (by show (_ : ByteArray).size ≤ _; rw [txt_size]; exact hN) hs2 ho⟩
  | want =>
    refine (put70 ⟨g, 8, none⟩ m.want f.kind f.n f.text.length tc ln lc tA lA w hlt (hx.cell 8) (hx.frozen 8)).mono ?_
    rintro e w' ⟨rfl, w1, hb1, hb2⟩
    have h : er = 0 := by rw [← he]; rfl
    subst h
    exact ⟨rfl, putO_of (m' := Pl.put f m .want) hg hx hb1 hb2 rfl hs1 hs2 ho⟩

theorem FlatF.base {w : World} {base base' : Nat} (hb : base' ≤ base) : ∀ (fs : List Fd) (cs : List Value), FlatF w base fs cs → FlatF w base' fs cs
  | [], _, h => h
  | _ :: fs, _, ⟨tA, tc, lA, lc, r, e, h1, h2, h3⟩ => ⟨tA, tc, lA, lc, r, e, own_mono h1 hb, own_mono h2 hb, FlatF.base hb fs r h3⟩

end Go.Proofs.YtdplngplljejhaaDoor
