import Derived.Test.YtdplngplljejhaaDoorQJ
namespace Go.Proofs.YtdplngplljejhaaDoor
open Go.RowKit

theorem rd_set {w : World} {base g i : Nat} {r : Rq} (r' : Rq) {fs : List Fd} (v : Value) (h : RdS w base g r fs) (hc : ∀ A c lA n lc, (r.rcells A c lA n lc).setIfInBounds i v = r'.rcells A c lA n lc) (hm : r'.modes = r.modes) :
    RdS (w.setCell ⟨g, i, none⟩ v) base g r' fs ∧ Kept base [69] w (w.setCell ⟨g, i, none⟩ v) := by
  obtain ⟨h0, A, c, lA, lc, cs, hx, ho, hb, hl, hf⟩ := h
  have k1 : Kept base [69] w (w.setCell ⟨g, i, none⟩ v) := (Kept.refl _ _ _).store hx h0 (by simp) _
  have hx1 := hx.store i v
  rw [hc] at hx1
  refine ⟨⟨h0, A, c, lA, lc, cs, hx1, ?_, hb, hl.kept k1 (by decide), FlatF.kept k1 (by decide) (by decide) _ _ hf⟩, k1⟩
  rw [hm]
  exact k1.own ho (by decide)
theorem rd_modes {w : World} {base g : Nat} {r : Rq} {fs : List Fd} {tA : Option Addr} {tc : Nat} (t : List UInt8) (h : RdS w base g r fs) (ht : w.ownsRow base 5 1 (.slice tA t.length tc) t.length (bv t)) :
    RdS (w.setCell ⟨g, 8, none⟩ (.slice tA t.length tc)) base g { r with modes := t } fs ∧ Kept base [69] w (w.setCell ⟨g, 8, none⟩ (.slice tA t.length tc)) := by
  obtain ⟨h0, A, c, lA, lc, cs, hx, ho, hb, hl, hf⟩ := h
  have k1 : Kept base [69] w (w.setCell ⟨g, 8, none⟩ (.slice tA t.length tc)) := (Kept.refl _ _ _).store hx h0 (by simp) _
  exact ⟨⟨h0, tA, tc, lA, lc, cs, hx.store 8 (.slice tA t.length tc), k1.own ht (by decide), hb, hl.kept k1 (by decide), FlatF.kept k1 (by decide) (by decide) _ _ hf⟩, k1⟩
section
variable {w : World} {base g : Nat} {r : Rq} {fs : List Fd}
theorem RdS.fz (h : RdS w base g r fs) (i : Nat) : w.frozen? ⟨g, i, none⟩ = false := by
  obtain ⟨h0, A, c, lA, lc, cs, hx, _⟩ := h
  exact hx.frozen i
theorem RdS.c0 (h : RdS w base g r fs) : w.cell? ⟨g, 0, none⟩ = some (.int .i64 r.kind) := by
  obtain ⟨h0, A, c, lA, lc, cs, hx, _⟩ := h
  exact hx.cell 0
theorem RdS.c1 (h : RdS w base g r fs) : w.cell? ⟨g, 1, none⟩ = some (.string r.text) := by
  obtain ⟨h0, A, c, lA, lc, cs, hx, _⟩ := h
  exact hx.cell 1
theorem RdS.c2 (h : RdS w base g r fs) : w.cell? ⟨g, 2, none⟩ = some (.string r.value) := by
  obtain ⟨h0, A, c, lA, lc, cs, hx, _⟩ := h
  exact hx.cell 2
theorem RdS.c3 (h : RdS w base g r fs) : w.cell? ⟨g, 3, none⟩ = some (.string r.lang) := by
  obtain ⟨h0, A, c, lA, lc, cs, hx, _⟩ := h
  exact hx.cell 3
theorem RdS.c4 (h : RdS w base g r fs) : w.cell? ⟨g, 4, none⟩ = some (.int .u32 r.cols) := by
  obtain ⟨h0, A, c, lA, lc, cs, hx, _⟩ := h
  exact hx.cell 4
theorem RdS.c5 (h : RdS w base g r fs) : w.cell? ⟨g, 5, none⟩ = some (.int .u32 r.rows) := by
  obtain ⟨h0, A, c, lA, lc, cs, hx, _⟩ := h
  exact hx.cell 5
theorem RdS.c6 (h : RdS w base g r fs) : w.cell? ⟨g, 6, none⟩ = some (.int .u32 r.width) := by
  obtain ⟨h0, A, c, lA, lc, cs, hx, _⟩ := h
  exact hx.cell 6
theorem RdS.c7 (h : RdS w base g r fs) : w.cell? ⟨g, 7, none⟩ = some (.int .u32 r.height) := by
  obtain ⟨h0, A, c, lA, lc, cs, hx, _⟩ := h
  exact hx.cell 7
theorem RdS.c9 (h : RdS w base g r fs) : w.cell? ⟨g, 9, none⟩ = some (.bool r.on) := by
  obtain ⟨h0, A, c, lA, lc, cs, hx, _⟩ := h
  exact hx.cell 9
theorem RdS.c10 (h : RdS w base g r fs) : w.cell? ⟨g, 10, none⟩ = some (.int .u32 r.code) := by
  obtain ⟨h0, A, c, lA, lc, cs, hx, _⟩ := h
  exact hx.cell 10
theorem RdS.c8 (h : RdS w base g r fs) : ∃ A c, w.cell? ⟨g, 8, none⟩ = some (.slice A r.modes.length c) := by
  obtain ⟨h0, A, c, lA, lc, cs, hx, _⟩ := h
  exact ⟨A, c, hx.cell 8⟩
end
/-- What a call that takes fields does. -/
def GetQ (base g : Nat) (r : Rq) (fs : List Fd) (w : World) (e : Ending) (w' : World) : Prop := e = .returned (.tuple #[]) ∧ RdS w' base g r fs ∧ Kept base [69] w w'
theorem run_fld1 (n ln lc tl tc : Nat) (kd : Int) (tA lA : Option Addr) (w : World) : (Instr.field 80 (.agg #[.int .i64 kd, .int .u32 n, .slice tA tl tc, .slice lA ln lc]) 1).run Tryd.prog w = .ok (.int .u32 n) w := by
  simp [Instr.field, asAgg, go_sem, run_underlying Tryd.underlying80]
theorem run_fld2 (n ln lc tl tc : Nat) (kd : Int) (tA lA : Option Addr) (w : World) : (Instr.field 80 (.agg #[.int .i64 kd, .int .u32 n, .slice tA tl tc, .slice lA ln lc]) 2).run Tryd.prog w = .ok (.slice tA tl tc) w := by
  simp [Instr.field, asAgg, go_sem, run_underlying Tryd.underlying80]
theorem on_eq (n : Nat) : ((n : Int) == 1) = decide (n = 1) := by
  by_cases h : n = 1
  · subst h; rfl
  · have : ¬ (n : Int) = 1 := by omega
    simp [h, this]
theorem str_of (f : Fd) : (⟨f.text.toArray⟩ : ByteArray) = Rw.str f := rfl
set_option maxHeartbeats 2000000 in
set_option maxRecDepth 100000 in
theorem gettext_any (base g : Nat) (r : Rq) (a : Fd) (fs : List Fd) (w : World) (hs : RdS w base g r (a :: fs)) : Calls Tryd.prog 54 #[.pointer (some ⟨g, 0, none⟩)] w (GetQ base g ({ r with text := Rw.str a }) fs w) := by
  have HS0 := hid hs
  have HK0 : Hid (Kept base [69] w w) := hid (Kept.refl _ _ _)
  clear hs
  have hfl1 := run_fld1
  have hfl2 := run_fld2
  go_enter Tryd.func54, Tryd.ntmps54
  go_wp2_with (first
    | (go_at_call 90
       ((with_reducible refine (next_any base g _ a fs _ HS0.out).mono ?_); rintro e w1 ⟨tA0, tc0, lA0, lc0, rfl, HT0, HN0, HK0'⟩)
       have cc0 := HN0.out.c1
       have ff0 := HN0.out.fz 1
       have cv0 := str_back w1 _ tA0 tc0 a.text (Lies.own HT0.out)
       rw [str_of] at cv0
       have hfin0 := rd_set { r with text := Rw.str a } (i := 1) (.string (Rw.str a)) HN0.out (fun _ _ _ _ _ => rfl) rfl
       have HS1 := hid hfin0.1
       have HK1 := hid (HK0.out.trans (HK0'.out.trans hfin0.2))
       clear hfin0))
  go_end0
  exact ⟨rfl, HS1.out, HK1.out⟩
set_option maxHeartbeats 2000000 in
set_option maxRecDepth 100000 in
theorem getvalue_any (base g : Nat) (r : Rq) (a : Fd) (fs : List Fd) (w : World) (hs : RdS w base g r (a :: fs)) : Calls Tryd.prog 92 #[.pointer (some ⟨g, 0, none⟩)] w (GetQ base g ({ r with value := Rw.str a }) fs w) := by
  have HS0 := hid hs
  have HK0 : Hid (Kept base [69] w w) := hid (Kept.refl _ _ _)
  clear hs
  have hfl1 := run_fld1
  have hfl2 := run_fld2
  go_enter Tryd.func92, Tryd.ntmps92
  go_wp2_with (first
    | (go_at_call 90
       ((with_reducible refine (next_any base g _ a fs _ HS0.out).mono ?_); rintro e w1 ⟨tA0, tc0, lA0, lc0, rfl, HT0, HN0, HK0'⟩)
       have cc0 := HN0.out.c2
       have ff0 := HN0.out.fz 2
       have cv0 := str_back w1 _ tA0 tc0 a.text (Lies.own HT0.out)
       rw [str_of] at cv0
       have hfin0 := rd_set { r with value := Rw.str a } (i := 2) (.string (Rw.str a)) HN0.out (fun _ _ _ _ _ => rfl) rfl
       have HS1 := hid hfin0.1
       have HK1 := hid (HK0.out.trans (HK0'.out.trans hfin0.2))
       clear hfin0))
  go_end0
  exact ⟨rfl, HS1.out, HK1.out⟩
set_option maxHeartbeats 2000000 in
set_option maxRecDepth 100000 in
theorem getcode_any (base g : Nat) (r : Rq) (a : Fd) (fs : List Fd) (w : World) (hs : RdS w base g r (a :: fs)) : Calls Tryd.prog 61 #[.pointer (some ⟨g, 0, none⟩)] w (GetQ base g ({ r with code := a.n }) fs w) := by
  have HS0 := hid hs
  have HK0 : Hid (Kept base [69] w w) := hid (Kept.refl _ _ _)
  clear hs
  have hfl1 := run_fld1
  have hfl2 := run_fld2
  go_enter Tryd.func61, Tryd.ntmps61
  go_wp2_with (first
    | (go_at_call 90
       ((with_reducible refine (next_any base g _ a fs _ HS0.out).mono ?_); rintro e w1 ⟨tA0, tc0, lA0, lc0, rfl, HT0, HN0, HK0'⟩)
       have cc0 := HN0.out.c10
       have ff0 := HN0.out.fz 10
       have hfin0 := rd_set { r with code := a.n } (i := 10) (.int .u32 a.n) HN0.out (fun _ _ _ _ _ => rfl) rfl
       have HS1 := hid hfin0.1
       have HK1 := hid (HK0.out.trans (HK0'.out.trans hfin0.2))
       clear hfin0))
  go_end0
  exact ⟨rfl, HS1.out, HK1.out⟩
set_option maxHeartbeats 2000000 in
set_option maxRecDepth 100000 in
theorem getsize_any (base g : Nat) (r : Rq) (a b c d : Fd) (fs : List Fd) (w : World) (hs : RdS w base g r (a :: b :: c :: d :: fs)) : Calls Tryd.prog 57 #[.pointer (some ⟨g, 0, none⟩)] w (GetQ base g ({ r with cols := a.n, rows := b.n, width := c.n, height := d.n }) fs w) := by
  have HS0 := hid hs
  have HK0 : Hid (Kept base [69] w w) := hid (Kept.refl _ _ _)
  clear hs
  have hfl1 := run_fld1
  have hfl2 := run_fld2
  go_enter Tryd.func57, Tryd.ntmps57
  go_wp2_with (first
    | (go_at_call 90
       ((with_reducible refine (next_any base g _ a (b :: c :: d :: fs) _ HS0.out).mono ?_); rintro e w1 ⟨tA0, tc0, lA0, lc0, rfl, HT0, HN0, HK0'⟩)
       have cc0 := HN0.out.c4
       have ff0 := HN0.out.fz 4
       have hfin0 := rd_set { r with cols := a.n } (i := 4) (.int .u32 a.n) HN0.out (fun _ _ _ _ _ => rfl) rfl
       have HS1 := hid hfin0.1
       have HK1 := hid (HK0.out.trans (HK0'.out.trans hfin0.2))
       clear hfin0)
    | (go_at_call 90
       ((with_reducible refine (next_any base g _ b (c :: d :: fs) _ HS1.out).mono ?_); rintro e w2 ⟨tA1, tc1, lA1, lc1, rfl, HT1, HN1, HK1'⟩)
       have cc1 := HN1.out.c5
       have ff1 := HN1.out.fz 5
       have hfin1 := rd_set { { r with cols := a.n } with rows := b.n } (i := 5) (.int .u32 b.n) HN1.out (fun _ _ _ _ _ => rfl) rfl
       have HS2 := hid hfin1.1
       have HK2 := hid (HK1.out.trans (HK1'.out.trans hfin1.2))
       clear hfin1)
    | (go_at_call 90
       ((with_reducible refine (next_any base g _ c (d :: fs) _ HS2.out).mono ?_); rintro e w3 ⟨tA2, tc2, lA2, lc2, rfl, HT2, HN2, HK2'⟩)
       have cc2 := HN2.out.c6
       have ff2 := HN2.out.fz 6
       have hfin2 := rd_set { { r with cols := a.n, rows := b.n } with width := c.n } (i := 6) (.int .u32 c.n) HN2.out (fun _ _ _ _ _ => rfl) rfl
       have HS3 := hid hfin2.1
       have HK3 := hid (HK2.out.trans (HK2'.out.trans hfin2.2))
       clear hfin2)
    | (go_at_call 90
       ((with_reducible refine (next_any base g _ d fs _ HS3.out).mono ?_); rintro e w4 ⟨tA3, tc3, lA3, lc3, rfl, HT3, HN3, HK3'⟩)
       have cc3 := HN3.out.c7
       have ff3 := HN3.out.fz 7
       have hfin3 := rd_set { { r with cols := a.n, rows := b.n, width := c.n } with height := d.n } (i := 7) (.int .u32 d.n) HN3.out (fun _ _ _ _ _ => rfl) rfl
       have HS4 := hid hfin3.1
       have HK4 := hid (HK3.out.trans (HK3'.out.trans hfin3.2))
       clear hfin3))
  go_end0
  exact ⟨rfl, HS4.out, HK4.out⟩
set_option maxHeartbeats 2000000 in
set_option maxRecDepth 100000 in
theorem geton_any (base g : Nat) (r : Rq) (a : Fd) (fs : List Fd) (w : World) (hs : RdS w base g r (a :: fs)) : Calls Tryd.prog 59 #[.pointer (some ⟨g, 0, none⟩)] w (GetQ base g ({ r with on := decide (a.n = 1) }) fs w) := by
  have HS0 := hid hs
  have HK0 : Hid (Kept base [69] w w) := hid (Kept.refl _ _ _)
  clear hs
  have hfl1 := run_fld1
  have hfl2 := run_fld2
  go_enter Tryd.func59, Tryd.ntmps59
  go_wp2_with (first
    | (go_at_call 90
       ((with_reducible refine (next_any base g _ a fs _ HS0.out).mono ?_); rintro e w1 ⟨tA0, tc0, lA0, lc0, rfl, HT0, HN0, HK0'⟩)
       have cc0 := HN0.out.c9
       have ff0 := HN0.out.fz 9
       have hfin0 := rd_set { r with on := decide (a.n = 1) } (i := 9) (.bool ((a.n : Int) == 1)) HN0.out (fun _ _ _ _ _ => by rw [on_eq]; rfl) rfl
       have HS1 := hid hfin0.1
       have HK1 := hid (HK0.out.trans (HK0'.out.trans hfin0.2))
       clear hfin0))
  go_end0
  exact ⟨rfl, HS1.out, HK1.out⟩
end Go.Proofs.YtdplngplljejhaaDoor
