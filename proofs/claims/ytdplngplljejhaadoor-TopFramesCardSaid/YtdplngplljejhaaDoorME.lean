import Derived.Test.YtdplngplljejhaaDoorMD
import Derived.Test.YtdplngplljejhaaDoorNB
import Derived.Test.YtdplngplljejhaaDoorQZ
namespace Go.Proofs.YtdplngplljejhaaDoor
open Go.RowKit

def GotR (base : Nat) (p : Pl) (m : Mg) (w : World) (e : Ending) (w' : World) : Prop :=
  Below w.heap.size w w' ∧ (p.ok m = true → ∃ tA tc, e = .returned (.tuple #[.agg #[.int .i64 0, .int .u32 (p.fld m).n, .slice tA (p.fld m).text.length tc, .slice none 0 0], .int .i64 0]) ∧ TK w' base tA tc (p.fld m).text) ∧
    (p.ok m = false → e = .returned (.tuple #[.agg #[.int .i64 0, .int .u32 0, .slice none 0 0, .slice none 0 0], .int .i64 4]))
theorem get_any (p : Pl) (m : Mg) (base g : Nat) (w : World) (hm : MsgB w base g m) (hbase : base ≤ w.heap.size) : Calls Tryd.prog p.getN #[p.recv g] w (GotR base p m w) := by
  obtain ⟨hs1, hs2, A, c, hx, ht⟩ := hm
  have hg := hx.lt
  cases p with
  | code =>
    refine (get80 ⟨g, 5, none⟩ m.code w hg (hx.cell 5)).mono ?_
    rintro e w' ⟨rfl, hb⟩
    exact ⟨hb, fun _ => ⟨none, 0, rfl, TK.nil_ _ _⟩, fun h => absurd h (by simp [Pl.ok])⟩
  | sender =>
    refine (get80 ⟨g, 2, none⟩ m.sender w hg (hx.cell 2)).mono ?_
    rintro e w' ⟨rfl, hb⟩
    exact ⟨hb, fun _ => ⟨none, 0, rfl, TK.nil_ _ _⟩, fun h => absurd h (by simp [Pl.ok])⟩
  | window =>
    refine (get80 ⟨g, 3, none⟩ m.window w hg (hx.cell 3)).mono ?_
    rintro e w' ⟨rfl, hb⟩
    exact ⟨hb, fun _ => ⟨none, 0, rfl, TK.nil_ _ _⟩, fun h => absurd h (by simp [Pl.ok])⟩
  | packet =>
    refine (get80 ⟨g, 4, none⟩ m.packet w hg (hx.cell 4)).mono ?_
    rintro e w' ⟨rfl, hb⟩
    exact ⟨hb, fun _ => ⟨none, 0, rfl, TK.nil_ _ _⟩, fun h => absurd h (by simp [Pl.ok])⟩
  | chan =>
    refine (get80 ⟨g, 1, none⟩ m.chan w hg (hx.cell 1)).mono ?_
    rintro e w' ⟨rfl, hb⟩
    exact ⟨hb, fun _ => ⟨none, 0, rfl, TK.nil_ _ _⟩, fun h => absurd h (by simp [Pl.ok])⟩
  | text =>
    refine (get82 ⟨g, 9, none⟩ A m.data.length c w hg (hx.cell 9)).mono ?_
    rintro e w' ⟨rfl, hb⟩
    exact ⟨hb, fun _ => ⟨A, c, rfl, ht.below hb⟩, fun h => absurd h (by simp [Pl.ok])⟩
  | rest =>
    refine (get82 ⟨g, 9, none⟩ A m.data.length c w hg (hx.cell 9)).mono ?_
    rintro e w' ⟨rfl, hb⟩
    exact ⟨hb, fun _ => ⟨A, c, rfl, ht.below hb⟩, fun h => absurd h (by simp [Pl.ok])⟩
  | lang =>
    refine (get84 base ⟨g, 7, none⟩ 0 m.lang w hg (hx.cell 7) hs2 (by omega) hbase).mono ?_
    rintro e w' ⟨hb, h1, h2⟩
    refine ⟨hb, fun h => ?_, fun h => h2 h⟩
    obtain ⟨tA, tc, rfl, hk⟩ := h1 h
    exact ⟨tA, tc, by rw [← str_len]; rfl, hk⟩
  | name =>
    refine (get84 base ⟨g, 6, none⟩ 1 m.name w hg (hx.cell 6) hs1 (by omega) hbase).mono ?_
    rintro e w' ⟨hb, h1, h2⟩
    refine ⟨hb, fun h => ?_, fun h => h2 h⟩
    obtain ⟨tA, tc, rfl, hk⟩ := h1 h
    exact ⟨tA, tc, by rw [← str_len]; rfl, hk⟩
  | want =>
    refine (get69 ⟨g, 8, none⟩ m.want w hg (hx.cell 8)).mono ?_
    rintro e w' ⟨rfl, hb⟩
    refine ⟨hb, fun _ => ⟨none, 0, rfl, TK.nil_ _ _⟩, fun h => absurd h (by simp [Pl.ok])⟩

theorem flatK_fds {w : World} {base b0 n c : Nat} {A : Option Addr} {fs : List Fd} {cs : List Value} (hn : fs.length = n) (ho : w.ownsRow b0 80 4 (.slice A n c) n cs) (hf : FlatK w base fs cs) (hw : ∀ f ∈ fs, Wf f) : FdsV w w.heap.size A fs := by
  subst hn
  intro hne
  have hl := hf.length
  have h0 : cs ≠ [] := by
    intro e
    rw [e] at hl
    have : fs.length ≠ 0 := fun h => hne (List.eq_nil_of_length_eq_zero h)
    simp at hl; omega
  obtain ⟨b, o, rfl, hb, hc⟩ := Lies.own ho h0
  refine ⟨b, o, rfl, hb, fun k hk => ?_⟩
  obtain ⟨tA, tc, g0, g1, g2, g3, g4, g5⟩ := flatK_at fs cs hf k hk
  obtain ⟨w1, w2, w3⟩ := hw fs[k] (List.getElem_mem hk)
  have e0 : fs[k].list.length = 0 := by rw [g4]; rfl
  refine ⟨tA, tc, none, 0, ⟨tA, tc, none, 0, rfl, w1, w2, Nat.le_trans g5.1 g5.2.1, by rw [e0]; exact Nat.zero_le _, ⟨g5.1, by rw [e0]; exact Nat.le_refl _⟩, g5.lies, by rw [g4]; exact Lies.nil_, w3⟩, hc _ _ g0, ?_, ?_, ?_⟩
  · rw [Nat.add_assoc]; exact hc _ _ g1
  · rw [Nat.add_assoc]; exact hc _ _ g2
  · rw [Nat.add_assoc, e0]; exact hc _ _ g3

def kfm (m : Mg) : Fd := ⟨1, m.kind.toNat, [], []⟩
/-- A message as a payload. -/
def encF (m : Mg) : Int × List UInt8 :=
  match look m.kind tab with
  | none => (8, [])
  | some ps => if ps.all (Pl.ok m) = true then writeF (kfm m :: ps.map (Pl.fld m)) else (4, [])

end Go.Proofs.YtdplngplljejhaaDoor
