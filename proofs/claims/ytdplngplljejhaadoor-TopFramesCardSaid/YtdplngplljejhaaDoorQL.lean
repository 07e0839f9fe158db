import Derived.Test.YtdplngplljejhaaDoorQK
namespace Go.Proofs.YtdplngplljejhaaDoor
open Go.RowKit

set_option maxHeartbeats 2000000 in
set_option maxRecDepth 100000 in
theorem getterminal_any (base g : Nat) (r : Rq) (a b c d e' f : Fd) (fs : List Fd) (w : World) (hs : RdS w base g r (a :: b :: c :: d :: e' :: f :: fs)) : Calls Tryd.prog 48 #[.pointer (some ⟨g, 0, none⟩)] w (GetQ base g (Rw.get (a :: b :: c :: d :: e' :: f :: []) r .pty) fs w) := by
  have HS0 := hid hs
  have HK0 : Hid (Kept base [69] w w) := hid (Kept.refl _ _ _)
  clear hs
  have hfl1 := run_fld1
  have hfl2 := run_fld2
  go_enter Tryd.func48, Tryd.ntmps48
  go_wp2_with (first
    | (go_at_call 54
       ((with_reducible refine (gettext_any base g r a _ _ HS0.out).mono ?_); rintro e w1 ⟨rfl, hs0, hk0⟩)
       have HS1 := hid hs0
       have HK1 := hid (HK0.out.trans hk0)
       clear hs0 hk0)
    | (go_at_call 57
       ((with_reducible refine (getsize_any base g _ b c d e' _ _ HS1.out).mono ?_); rintro e w2 ⟨rfl, hs1, hk1⟩)
       have HS2 := hid hs1
       have HK2 := hid (HK1.out.trans hk1)
       clear hs1 hk1)
    | (go_at_call 90
       ((with_reducible refine (next_any base g _ f fs _ HS2.out).mono ?_); rintro e w3 ⟨tA2, tc2, lA2, lc2, rfl, HT2, HN2, HK2'⟩)
       obtain ⟨mA2, mc2, cc2⟩ := HN2.out.c8
       have ff2 := HN2.out.fz 8
       have hfin2 := rd_modes f.text HN2.out HT2.out
       have HS3 := hid hfin2.1
       have HK3 := hid (HK2.out.trans (HK2'.out.trans hfin2.2))
       clear hfin2))
  go_end0
  exact ⟨rfl, HS3.out, HK3.out⟩
set_option maxHeartbeats 2000000 in
set_option maxRecDepth 100000 in
theorem getvariable_any (base g : Nat) (r : Rq) (a b : Fd) (fs : List Fd) (w : World) (hs : RdS w base g r (a :: b :: fs)) : Calls Tryd.prog 50 #[.pointer (some ⟨g, 0, none⟩)] w (GetQ base g (Rw.get (a :: b :: []) r .env) fs w) := by
  have HS0 := hid hs
  have HK0 : Hid (Kept base [69] w w) := hid (Kept.refl _ _ _)
  clear hs
  have hfl1 := run_fld1
  have hfl2 := run_fld2
  go_enter Tryd.func50, Tryd.ntmps50
  go_wp2_with (first
    | (go_at_call 54
       ((with_reducible refine (gettext_any base g r a _ _ HS0.out).mono ?_); rintro e w1 ⟨rfl, hs0, hk0⟩)
       have HS1 := hid hs0
       have HK1 := hid (HK0.out.trans hk0)
       clear hs0 hk0)
    | (go_at_call 92
       ((with_reducible refine (getvalue_any base g _ b _ _ HS1.out).mono ?_); rintro e w2 ⟨rfl, hs1, hk1⟩)
       have HS2 := hid hs1
       have HK2 := hid (HK1.out.trans hk1)
       clear hs1 hk1))
  go_end0
  exact ⟨rfl, HS2.out, HK2.out⟩
set_option maxHeartbeats 2000000 in
set_option maxRecDepth 100000 in
theorem getend_any (base g : Nat) (r : Rq) (a b c d : Fd) (fs : List Fd) (w : World) (hs : RdS w base g r (a :: b :: c :: d :: fs)) : Calls Tryd.prog 63 #[.pointer (some ⟨g, 0, none⟩)] w (GetQ base g (Rw.get (a :: b :: c :: d :: []) r .ends) fs w) := by
  have HS0 := hid hs
  have HK0 : Hid (Kept base [69] w w) := hid (Kept.refl _ _ _)
  clear hs
  have hfl1 := run_fld1
  have hfl2 := run_fld2
  go_enter Tryd.func63, Tryd.ntmps63
  go_wp2_with (first
    | (go_at_call 54
       ((with_reducible refine (gettext_any base g r a _ _ HS0.out).mono ?_); rintro e w1 ⟨rfl, hs0, hk0⟩)
       have HS1 := hid hs0
       have HK1 := hid (HK0.out.trans hk0)
       clear hs0 hk0)
    | (go_at_call 59
       ((with_reducible refine (geton_any base g _ b _ _ HS1.out).mono ?_); rintro e w2 ⟨rfl, hs1, hk1⟩)
       have HS2 := hid hs1
       have HK2 := hid (HK1.out.trans hk1)
       clear hs1 hk1)
    | (go_at_call 92
       ((with_reducible refine (getvalue_any base g _ c _ _ HS2.out).mono ?_); rintro e w3 ⟨rfl, hs2, hk2⟩)
       have HS3 := hid hs2
       have HK3 := hid (HK2.out.trans hk2)
       clear hs2 hk2)
    | (go_at_call 90
       ((with_reducible refine (next_any base g _ d fs _ HS3.out).mono ?_); rintro e w4 ⟨tA3, tc3, lA3, lc3, rfl, HT3, HN3, HK3'⟩)
       have cc3 := HN3.out.c3
       have ff3 := HN3.out.fz 3
       have cv3 := str_back w4 _ tA3 tc3 d.text (Lies.own HT3.out)
       rw [str_of] at cv3
       have hfin3 := rd_set { { r with text := Rw.str a, on := decide (b.n = 1), value := Rw.str c } with lang := Rw.str d } (i := 3) (.string (Rw.str d)) HN3.out (fun _ _ _ _ _ => rfl) rfl
       have HS4 := hid hfin3.1
       have HK4 := hid (HK3.out.trans (HK3'.out.trans hfin3.2))
       clear hfin3))
  go_end0
  exact ⟨rfl, HS4.out, HK4.out⟩
set_option maxHeartbeats 1000000 in
set_option maxRecDepth 100000 in
theorem getnothing_any (base g : Nat) (r : Rq) (fs : List Fd) (w : World) (hs : RdS w base g r fs) : Calls Tryd.prog 52 #[.pointer (some ⟨g, 0, none⟩)] w (GetQ base g r fs w) := by
  have HS := hid hs
  clear hs
  go_enter Tryd.func52, Tryd.ntmps52
  go_wp2
  go_end0
  exact ⟨rfl, HS.out, Kept.refl _ _ _⟩
/-- Each row takes its fields. -/
theorem get_any_r (k : Rw) (base g : Nat) (r : Rq) (fs : List Fd) (w : World) (hs : RdS w base g r fs) (hk : fs.map Fd.kind = k.kinds) :
    Calls Tryd.prog k.rfn #[.pointer (some ⟨g, 0, none⟩)] w (GetQ base g (k.get fs r) [] w) := by
  have hl : fs.length = k.kinds.length := by rw [← hk, List.length_map]
  cases k with
  | pty =>
    match fs, hl with
    | [a, b, c, d, e, f], _ => exact getterminal_any base g r a b c d e f [] w hs
  | env =>
    match fs, hl with
    | [a, b], _ => exact getvariable_any base g r a b [] w hs
  | shell =>
    match fs, hl with
    | [], _ => exact getnothing_any base g r [] w hs
  | exec =>
    match fs, hl with
    | [a], _ => exact gettext_any base g r a [] w hs
  | subsystem =>
    match fs, hl with
    | [a], _ => exact gettext_any base g r a [] w hs
  | change =>
    match fs, hl with
    | [a, b, c, d], _ => exact getsize_any base g r a b c d [] w hs
  | xon =>
    match fs, hl with
    | [a], _ => exact geton_any base g r a [] w hs
  | signal =>
    match fs, hl with
    | [a], _ => exact gettext_any base g r a [] w hs
  | status =>
    match fs, hl with
    | [a], _ => exact getcode_any base g r a [] w hs
  | ends =>
    match fs, hl with
    | [a, b, c, d], _ => exact getend_any base g r a b c d [] w hs
end Go.Proofs.YtdplngplljejhaaDoor
