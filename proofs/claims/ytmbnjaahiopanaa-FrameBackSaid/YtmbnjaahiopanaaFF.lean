import Derived.Test.YtmbnjaahiopanaaFE
namespace Go.Proofs.Ytmbnjaahiopanaa
open Go.RowKit

/-- Are bytes more than are looked at? -/
def great (ls : List (List UInt8)) : Bool := ls.any fun b => decide (200000 < b.length)

set_option maxHeartbeats 1000000 in
set_option maxRecDepth 100000 in
theorem great_any (w : World) (B : Nat) (A : Option Addr) (c : Nat) (ls : List (List UInt8)) (hl : LisV w B A ls) (hn : ls.length ≤ maxLen) (hs : ∀ b ∈ ls, b.length ≤ maxLen) :
    Calls Try.prog 9 #[.slice A ls.length c] w fun e w' => e = .returned (.bool (great ls)) ∧ w = w' := by
  unfold maxLen at hn hs
  have HL := hid hl
  have HS := hid hs
  clear hl hs
  go_enter Try.func9, Try.ntmps9
  go_wp2
  go_loop [7] (fun i => ∃ k : Nat, k ≤ ls.length ∧ i = .int .i64 k ∧ Hid (great ls = great (ls.drop k))) (fun i => ls.length - (intOf i).toNat)
  case atStart => exact ⟨0, Nat.zero_le _, rfl, rfl⟩
  case round =>
    obtain ⟨k, hk, rfl, HG⟩ := hrel
    by_cases hlt : k < ls.length
    · obtain ⟨b, o, rfl, hbw, hcells⟩ := HL.out (by intro e; rw [e] at hlt; simp at hlt)
      obtain ⟨A', c', hc, _⟩ := hcells k hlt
      have hsz := HS.out ls[k] (List.getElem_mem hlt)
      have HD : Hid (great ls = (decide (200000 < ls[k].length) || great (ls.drop (k + 1)))) := by
        show _ = _
        rw [HG.out, List.drop_eq_getElem_cons hlt]
        rfl
      obtain ⟨n, Hn⟩ : ∃ n, Hid (ls[k].length = n) := ⟨_, hid rfl⟩
      rw [Hn.out] at hc hsz HD
      clear hcells Hn
      by_cases h2 : 200000 < n
      · have h3 : (200000 : Int) < n := by omega
        have hF : great ls = true := by rw [HD.out]; simp [h2]
        go_wp2
        go_ret
        exact ⟨rfl, rfl⟩
      · have h3 : ¬ ((200000 : Int) < n) := by omega
        go_wp2
        go_roundw
        case rel => exact ⟨k + 1, by omega, by go_num, by show _ = _; rw [HD.out]; simp [h2]⟩
        case measure => simp [intOf]; omega
    · have hF : great ls = false := by rw [HG.out, List.drop_of_length_le (by omega)]; rfl
      go_wp2
      go_ret
      exact ⟨rfl, rfl⟩

/-- What a result's two cells are set to. -/
theorem two_fin {B g : Nat} {w0 w : World} {v0 v1 u0 u1 : Value} (hb : Below B w0 w) (hg : B ≤ g) (hx : Box w g 34 #[v0, v1]) :
    Box ((w.setCell ⟨g, 0, none⟩ u0).setCell ⟨g, 1, none⟩ u1) g 34 #[u0, u1] ∧ Below B w0 ((w.setCell ⟨g, 0, none⟩ u0).setCell ⟨g, 1, none⟩ u1) ∧ Kept B [34] w ((w.setCell ⟨g, 0, none⟩ u0).setCell ⟨g, 1, none⟩ u1) := by
  have hx1 := hx.store 0 u0
  have hx2 := hx1.store 1 u1
  refine ⟨by simpa using hx2, (hb.setCell hg _).setCell hg _, ((Kept.refl B [34] w).store hx hg (by simp) u0).store hx1 hg (by simp) u1⟩

set_option maxHeartbeats 1000000 in
set_option maxRecDepth 100000 in
theorem to_any (w : World) (B : Nat) (A : Option Addr) (c : Nat) (bs : List UInt8) (b : Bool) (h : SlB w B A c bs) (hB : B ≤ w.heap.size) (hl : bs.length ≤ 1000000) :
    Calls Try.prog 13 #[.agg #[.slice A bs.length c, .bool b]] w fun e w' => ∃ A' c', e = .returned (.agg #[.slice A' bs.length c', .bool b]) ∧ w'.ownsRow w.heap.size 5 1 (.slice A' bs.length c') bs.length (bv bs) ∧ Below w.heap.size w w' := by
  obtain ⟨i0, hi0, hz0, hz1, hz2⟩ := info_parts Try.info5
  have HS := hid h
  clear h
  go_enter Try.func13, Try.ntmps13
  go_wp2
  generalize hW : (w.alloc _).alloc _ = w1
  have HX1 : Hid (Box w1 w.heap.size 33 #[.slice A bs.length c, .bool b]) := by subst hW; exact box_below (Box.new w 33 _) ((Below.refl _ _).alloc (Nat.le_refl _) _)
  have HX2 : Hid (Box w1 (w.heap.size + 1) 34 #[.slice none 0 0, .bool false]) := by
    subst hW
    have h := Box.new (w.alloc (Obj.cells #[Value.slice A bs.length c, Value.bool b] 33)) 34 #[.slice none 0 0, .bool false]
    show Box _ _ _ _
    simpa using h
  have HB1 : Hid (Below w.heap.size w w1) := by subst hW; exact ((Below.refl _ _).alloc (Nat.le_refl _) _).alloc (by simp) _
  have hsz1 : w.heap.size ≤ w1.heap.size := HB1.out.size
  have c10 : w1.cell? ⟨w.heap.size, 0, none⟩ = some (.slice A bs.length c) := HX1.out.cell 0
  have c11 : w1.cell? ⟨w.heap.size, 1, none⟩ = some (.bool b) := HX1.out.cell 1
  have HX3 : Hid (Box (w1.drew.alloc (.cells #[] 5)) w.heap.size 33 #[.slice A bs.length c, .bool b]) := box_below (w := w1.drew) HX1.out ((Below.refl _ _).alloc (Nat.le_refl _) _)
  have HX4 : Hid (Box (w1.drew.alloc (.cells #[] 5)) (w.heap.size + 1) 34 #[.slice none 0 0, .bool false]) := box_below (w := w1.drew) HX2.out ((Below.refl _ _).alloc (Nat.le_refl _) _)
  have c20 : (w1.alloc (.cells #[] 5)).cell? ⟨w.heap.size, 0, none⟩ = some (.slice A bs.length c) := HX3.out.cell 0
  have c21 : (w1.alloc (.cells #[] 5)).cell? ⟨w.heap.size, 1, none⟩ = some (.bool b) := HX3.out.cell 1
  have HB2 : Hid (Below w.heap.size w (w1.drew.alloc (.cells #[] 5))) := (bel_drewN HB1.out 1).alloc hsz1 _
  clear hW
  go_region_law (
    refine step_app _ rfl (.tmp 3) (.tmp 5) 22 rfl w.heap.size 5 i0 _ 1 1 Try.underlying22 hi0 hz0 hz1 hz2 rfl (by decide) (some ⟨w1.heap.size, 0, none⟩) 0 0 [] rfl (lit_own (w := w1.drew) hsz1 rfl) w.heap.size A bs.length c (bv bs) rfl (by simp [bv]) ((HS.out.2.2.2.more hB).below HB2.out) (bv_one _) (by unfold maxLen; omega) (by omega) HB2.out.size ?_
    intro A8 c8 w8 ho8 hg8
    have hbb := lit_grown (w := w1.drew) (g := w1.heap.size) rfl hg8
    have hx1 := box_below (w := w1.drew) HX1.out hbb
    have hx2 := box_below (w := w1.drew) HX2.out hbb
    have c30 : w8.cell? ⟨w.heap.size, 0, none⟩ = some (.slice A bs.length c) := hx1.cell 0
    have c31 : w8.cell? ⟨w.heap.size, 1, none⟩ = some (.bool b) := hx1.cell 1
    have c40 : w8.cell? ⟨w.heap.size + 1, 0, none⟩ = some (.slice none 0 0) := hx2.cell 0
    have c41 : w8.cell? ⟨w.heap.size + 1, 1, none⟩ = some (.bool false) := hx2.cell 1
    have f40 : w8.frozen? ⟨w.heap.size + 1, 0, none⟩ = false := hx2.frozen 0
    have f41 : w8.frozen? ⟨w.heap.size + 1, 1, none⟩ = false := hx2.frozen 1
    have HO8 := hid ho8
    have HB8 := hid ((bel_drewN HB1.out 1).trans (hbb.mono hsz1))
    have HX8 := hid hx2
    clear ho8 hg8 hbb hx1 hx2)
  all_goals
    have hf := two_fin (u0 := .slice A8 bs.length c8) (u1 := .bool b) HB8.out (Nat.le_succ _) HX8.out
    have ho := hf.2.2.own HO8.out (by decide)
    rw [Nat.zero_add, List.nil_append] at ho
    generalize (w8.setCell _ _).setCell _ _ = w9 at hf ho ⊢
    have HF := hid hf
    have HO := hid ho
    have d0 : w9.cell? ⟨w.heap.size + 1, 0, none⟩ = some (.slice A8 bs.length c8) := hf.1.cell 0
    have d1 : w9.cell? ⟨w.heap.size + 1, 1, none⟩ = some (.bool b) := hf.1.cell 1
    clear hf ho
    go_wp2
    refine bodyPost_ret (v := .agg #[.slice A8 bs.length c8, .bool b]) (by simp [results, Try.results13, go_sem, d0, d1]) rfl ?_
    exact ⟨_, _, rfl, HO.out, HF.out.2.1⟩
end Go.Proofs.Ytmbnjaahiopanaa
