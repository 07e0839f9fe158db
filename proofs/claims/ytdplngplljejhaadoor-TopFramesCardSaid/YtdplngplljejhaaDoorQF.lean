import Derived.Test.YtdplngplljejhaaDoorQE
namespace Go.Proofs.YtdplngplljejhaaDoor
open Go.RowKit

theorem contains61 (t : ByteArray) : decide (0 ≤ Lib.indexByte t.data.toList 61) = t.data.toList.contains 61 := (Lib.contains_iff_indexByte _ _).symm
theorem textc_at (base g c n : Nat) (t : ByteArray) (r : Rq) (A : Option Addr) (s : Ws) (w : World) (hn : n = w.heap.size) (hs : WrS w base g r A c s) (hl : s.fs.length ≤ 100) (ht : t.size ≤ maxLen) :
    Calls Tryd.prog 89 #[.pointer (some ⟨g, 0, none⟩), .slice (some ⟨n, 0, none⟩) t.size (grownCap w t.size 0 5)] (Lib.bytesWorld w 5 t) (PutW base g r A c (s.txt t.data.toList) w) := by
  subst hn
  exact textc_any base g c t r A s w hs hl ht
theorem Ws.eqs_yes {s : Ws} {t : ByteArray} (h : t.data.toList.contains 61 = true) : s.eqs t = ⟨s.fs, true, s.long⟩ := by simp only [Ws.eqs, h, Bool.or_true]
theorem Ws.eqs_no {s : Ws} {t : ByteArray} (h : t.data.toList.contains 61 = false) : s.eqs t = s := by simp only [Ws.eqs, h, Bool.or_false]
theorem word0_any (base g c : Nat) (t : ByteArray) (r : Rq) (A : Option Addr) (s : Ws) (w : World) (hs : WrS w base g r A c s) (hl : s.fs.length ≤ 100) (ht : t.size ≤ maxLen) :
    Calls Tryd.prog 88 #[.pointer (some ⟨g, 0, none⟩), .string t, .int .i64 0] w (PutW base g r A c (s.wrd 0 t) w) := word_any base g c 0 t r A s w hs hl (by omega) ht
theorem word1_any (base g c : Nat) (t : ByteArray) (r : Rq) (A : Option Addr) (s : Ws) (w : World) (hs : WrS w base g r A c s) (hl : s.fs.length ≤ 100) (ht : t.size ≤ maxLen) :
    Calls Tryd.prog 88 #[.pointer (some ⟨g, 0, none⟩), .string t, .int .i64 1] w (PutW base g r A c (s.wrd 1 t) w) := word_any base g c 1 t r A s w hs hl (by omega) ht
set_option maxHeartbeats 1000000 in
set_option maxRecDepth 100000 in
theorem putsize_any (base g c : Nat) (r : Rq) (A : Option Addr) (s : Ws) (w : World) (hs : WrS w base g r A c s) (hl : s.fs.length ≤ 50) :
    Calls Tryd.prog 56 #[.pointer (some ⟨g, 0, none⟩)] w (PutW base g r A c (s.size r) w) := by
  have HK : Hid (Kept base [72, 80] w w) := hid (Kept.refl _ _ _)
  have HS := hid hs
  clear hs
  have c1 := HS.out.c1
  have c2 := HS.out.c2
  have c3 := HS.out.c3
  have c4 := HS.out.c4
  have c5 := HS.out.c5
  have c6 := HS.out.c6
  have c7 := HS.out.c7
  have c8 := HS.out.c8
  have c10 := HS.out.c10
  go_enter Tryd.func56, Tryd.ntmps56
  go_wp2_with (first
    | (go_at_call 93
       ((with_reducible refine (wnum_any base g _ c r A _ _ HS.out (by first | omega | (simp [Ws.num, Ws.txt, Ws.wrd, Ws.flg, Ws.eqs, Ws.size]; omega))).mono ?_); rintro e w1 ⟨rfl, hs1, hk1⟩)
       have hk2 := HK.out.trans hk1
       clear HS HK
       have HS := hid hs1
       have HK := hid hk2
       clear hs1 hk1 hk2
       have c1 := HS.out.c1
       have c2 := HS.out.c2
       have c3 := HS.out.c3
       have c4 := HS.out.c4
       have c5 := HS.out.c5
       have c6 := HS.out.c6
       have c7 := HS.out.c7
       have c8 := HS.out.c8
       have c10 := HS.out.c10))
  go_end0
  exact ⟨rfl, HS.out, HK.out⟩
set_option maxHeartbeats 1000000 in
set_option maxRecDepth 100000 in
theorem putname_any (base g c : Nat) (r : Rq) (A : Option Addr) (s : Ws) (w : World) (hr : r.Ok) (hs : WrS w base g r A c s) (hl : s.fs.length ≤ 100) :
    Calls Tryd.prog 55 #[.pointer (some ⟨g, 0, none⟩)] w (PutW base g r A c (s.wrd 1 r.text) w) := by
  have h1 := hr.text
  have h2 := hr.value
  have h3 := hr.lang
  have HK : Hid (Kept base [72, 80] w w) := hid (Kept.refl _ _ _)
  have HS := hid hs
  clear hs
  have c1 := HS.out.c1
  have c2 := HS.out.c2
  have c3 := HS.out.c3
  have c4 := HS.out.c4
  have c5 := HS.out.c5
  have c6 := HS.out.c6
  have c7 := HS.out.c7
  have c8 := HS.out.c8
  have c10 := HS.out.c10
  go_enter Tryd.func55, Tryd.ntmps55
  go_wp2_with (first
    | (go_at_call 88
       ((with_reducible refine (word1_any base g c r.text r A _ _ HS.out (by first | omega | (simp [Ws.num, Ws.txt, Ws.wrd, Ws.flg, Ws.eqs, Ws.size]; omega)) h1).mono ?_); rintro e w1 ⟨rfl, hs1, hk1⟩)
       have hk2 := HK.out.trans hk1
       clear HS HK
       have HS := hid hs1
       have HK := hid hk2
       clear hs1 hk1 hk2
       have c1 := HS.out.c1
       have c2 := HS.out.c2
       have c3 := HS.out.c3
       have c4 := HS.out.c4
       have c5 := HS.out.c5
       have c6 := HS.out.c6
       have c7 := HS.out.c7
       have c8 := HS.out.c8
       have c10 := HS.out.c10))
  go_end0
  exact ⟨rfl, HS.out, HK.out⟩
set_option maxHeartbeats 1000000 in
set_option maxRecDepth 100000 in
theorem putterminal_any (base g c : Nat) (r : Rq) (A : Option Addr) (s : Ws) (w : World) (hr : r.Ok) (hs : WrS w base g r A c s) (hl : s.fs.length ≤ 20) :
    Calls Tryd.prog 47 #[.pointer (some ⟨g, 0, none⟩)] w (PutW base g r A c (Rw.put r s .pty) w) := by
  have h1 := hr.text
  have h2 := hr.value
  have h3 := hr.lang
  have HK : Hid (Kept base [72, 80] w w) := hid (Kept.refl _ _ _)
  have HS := hid hs
  clear hs
  have c1 := HS.out.c1
  have c2 := HS.out.c2
  have c3 := HS.out.c3
  have c4 := HS.out.c4
  have c5 := HS.out.c5
  have c6 := HS.out.c6
  have c7 := HS.out.c7
  have c8 := HS.out.c8
  have c10 := HS.out.c10
  go_enter Tryd.func47, Tryd.ntmps47
  go_wp2_with (first
    | (go_at_call 88
       ((with_reducible refine (word0_any base g c r.text r A _ _ HS.out (by first | omega | (simp [Ws.num, Ws.txt, Ws.wrd, Ws.flg, Ws.eqs, Ws.size]; omega)) h1).mono ?_); rintro e w1 ⟨rfl, hs1, hk1⟩)
       have hk2 := HK.out.trans hk1
       clear HS HK
       have HS := hid hs1
       have HK := hid hk2
       clear hs1 hk1 hk2
       have c1 := HS.out.c1
       have c2 := HS.out.c2
       have c3 := HS.out.c3
       have c4 := HS.out.c4
       have c5 := HS.out.c5
       have c6 := HS.out.c6
       have c7 := HS.out.c7
       have c8 := HS.out.c8
       have c10 := HS.out.c10)
    | (go_at_call 56
       ((with_reducible refine (putsize_any base g c r A _ _ HS.out (by first | omega | (simp [Ws.num, Ws.txt, Ws.wrd, Ws.flg, Ws.eqs, Ws.size]; omega))).mono ?_); rintro e w1 ⟨rfl, hs1, hk1⟩)
       have hk2 := HK.out.trans hk1
       clear HS HK
       have HS := hid hs1
       have HK := hid hk2
       clear hs1 hk1 hk2
       have c1 := HS.out.c1
       have c2 := HS.out.c2
       have c3 := HS.out.c3
       have c4 := HS.out.c4
       have c5 := HS.out.c5
       have c6 := HS.out.c6
       have c7 := HS.out.c7
       have c8 := HS.out.c8
       have c10 := HS.out.c10)
    | (go_at_call 89
       ((with_reducible refine (wtext_any base g c _ _ _ r.modes r A _ _ HS.out (by first | omega | (simp [Ws.num, Ws.txt, Ws.wrd, Ws.flg, Ws.eqs, Ws.size]; omega)) rfl HS.out.tk).mono ?_); rintro e w1 ⟨rfl, hs1, hk1⟩)
       have hk2 := HK.out.trans hk1
       clear HS HK
       have HS := hid hs1
       have HK := hid hk2
       clear hs1 hk1 hk2
       have c1 := HS.out.c1
       have c2 := HS.out.c2
       have c3 := HS.out.c3
       have c4 := HS.out.c4
       have c5 := HS.out.c5
       have c6 := HS.out.c6
       have c7 := HS.out.c7
       have c8 := HS.out.c8
       have c10 := HS.out.c10))
  go_end0
  exact ⟨rfl, HS.out, HK.out⟩
set_option maxHeartbeats 1000000 in
set_option maxRecDepth 100000 in
theorem putcommand_any (base g c : Nat) (r : Rq) (A : Option Addr) (s : Ws) (w : World) (hr : r.Ok) (hs : WrS w base g r A c s) (hl : s.fs.length ≤ 20) :
    Calls Tryd.prog 53 #[.pointer (some ⟨g, 0, none⟩)] w (PutW base g r A c (Rw.put r s .exec) w) := by
  have h1 := hr.text
  have h2 := hr.value
  have h3 := hr.lang
  have hcv : ∀ W : World, (convert 9 22 (.string r.text)).run Tryd.prog W = .ok (.slice (some ⟨W.heap.size, 0, none⟩) r.text.size (grownCap W r.text.size 0 5)) (Lib.bytesWorld W 5 r.text) := fun W => Lib.run_convert_string_bytes W 9 22 5 r.text Tryd.underlying9 Tryd.underlying22 Tryd.underlying5
  have HK : Hid (Kept base [72, 80] w w) := hid (Kept.refl _ _ _)
  have HS := hid hs
  clear hs
  have c1 := HS.out.c1
  have c2 := HS.out.c2
  have c3 := HS.out.c3
  have c4 := HS.out.c4
  have c5 := HS.out.c5
  have c6 := HS.out.c6
  have c7 := HS.out.c7
  have c8 := HS.out.c8
  have c10 := HS.out.c10
  go_enter Tryd.func53, Tryd.ntmps53
  go_wp2_with (first
    | (go_at_call 89
       ((with_reducible refine (textc_any base g c r.text r A _ _ HS.out (by first | omega | (simp [Ws.num, Ws.txt, Ws.wrd, Ws.flg, Ws.eqs, Ws.size]; omega)) h1).mono ?_); rintro e w1 ⟨rfl, hs1, hk1⟩)
       have hk2 := HK.out.trans hk1
       clear HS HK
       have HS := hid hs1
       have HK := hid hk2
       clear hs1 hk1 hk2
       have c1 := HS.out.c1
       have c2 := HS.out.c2
       have c3 := HS.out.c3
       have c4 := HS.out.c4
       have c5 := HS.out.c5
       have c6 := HS.out.c6
       have c7 := HS.out.c7
       have c8 := HS.out.c8
       have c10 := HS.out.c10))
  go_end0
  exact ⟨rfl, HS.out, HK.out⟩
set_option maxHeartbeats 1000000 in
set_option maxRecDepth 100000 in
theorem putcode_any (base g c : Nat) (r : Rq) (A : Option Addr) (s : Ws) (w : World) (hs : WrS w base g r A c s) (hl : s.fs.length ≤ 20) :
    Calls Tryd.prog 60 #[.pointer (some ⟨g, 0, none⟩)] w (PutW base g r A c (Rw.put r s .status) w) := by
  have HK : Hid (Kept base [72, 80] w w) := hid (Kept.refl _ _ _)
  have HS := hid hs
  clear hs
  have c1 := HS.out.c1
  have c2 := HS.out.c2
  have c3 := HS.out.c3
  have c4 := HS.out.c4
  have c5 := HS.out.c5
  have c6 := HS.out.c6
  have c7 := HS.out.c7
  have c8 := HS.out.c8
  have c10 := HS.out.c10
  go_enter Tryd.func60, Tryd.ntmps60
  go_wp2_with (first
    | (go_at_call 93
       ((with_reducible refine (wnum_any base g _ c r A _ _ HS.out (by first | omega | (simp [Ws.num, Ws.txt, Ws.wrd, Ws.flg, Ws.eqs, Ws.size]; omega))).mono ?_); rintro e w1 ⟨rfl, hs1, hk1⟩)
       have hk2 := HK.out.trans hk1
       clear HS HK
       have HS := hid hs1
       have HK := hid hk2
       clear hs1 hk1 hk2
       have c1 := HS.out.c1
       have c2 := HS.out.c2
       have c3 := HS.out.c3
       have c4 := HS.out.c4
       have c5 := HS.out.c5
       have c6 := HS.out.c6
       have c7 := HS.out.c7
       have c8 := HS.out.c8
       have c10 := HS.out.c10))
  go_end0
  exact ⟨rfl, HS.out, HK.out⟩
set_option maxHeartbeats 1000000 in
set_option maxRecDepth 100000 in
theorem putend_any (base g c : Nat) (r : Rq) (A : Option Addr) (s : Ws) (w : World) (hr : r.Ok) (hs : WrS w base g r A c s) (hl : s.fs.length ≤ 20) :
    Calls Tryd.prog 62 #[.pointer (some ⟨g, 0, none⟩)] w (PutW base g r A c (Rw.put r s .ends) w) := by
  have h1 := hr.text
  have h2 := hr.value
  have h3 := hr.lang
  have hcv : ∀ W : World, (convert 9 22 (.string r.value)).run Tryd.prog W = .ok (.slice (some ⟨W.heap.size, 0, none⟩) r.value.size (grownCap W r.value.size 0 5)) (Lib.bytesWorld W 5 r.value) := fun W => Lib.run_convert_string_bytes W 9 22 5 r.value Tryd.underlying9 Tryd.underlying22 Tryd.underlying5
  have HK : Hid (Kept base [72, 80] w w) := hid (Kept.refl _ _ _)
  have HS := hid hs
  clear hs
  have c1 := HS.out.c1
  have c2 := HS.out.c2
  have c3 := HS.out.c3
  have c4 := HS.out.c4
  have c5 := HS.out.c5
  have c6 := HS.out.c6
  have c7 := HS.out.c7
  have c8 := HS.out.c8
  have c10 := HS.out.c10
  go_enter Tryd.func62, Tryd.ntmps62
  go_wp2_with (first
    | (go_at_call 55
       ((with_reducible refine (putname_any base g c r A _ _ hr HS.out (by first | omega | (simp [Ws.num, Ws.txt, Ws.wrd, Ws.flg, Ws.eqs, Ws.size]; omega))).mono ?_); rintro e w1 ⟨rfl, hs1, hk1⟩)
       have hk2 := HK.out.trans hk1
       clear HS HK
       have HS := hid hs1
       have HK := hid hk2
       clear hs1 hk1 hk2
       have c1 := HS.out.c1
       have c2 := HS.out.c2
       have c3 := HS.out.c3
       have c4 := HS.out.c4
       have c5 := HS.out.c5
       have c6 := HS.out.c6
       have c7 := HS.out.c7
       have c8 := HS.out.c8
       have c10 := HS.out.c10)
    | (go_at_call 58
       ((with_reducible refine (puton_any base g c r A _ _ HS.out (by first | omega | (simp [Ws.num, Ws.txt, Ws.wrd, Ws.flg, Ws.eqs, Ws.size]; omega))).mono ?_); rintro e w1 ⟨rfl, hs1, hk1⟩)
       have hk2 := HK.out.trans hk1
       clear HS HK
       have HS := hid hs1
       have HK := hid hk2
       clear hs1 hk1 hk2
       have c1 := HS.out.c1
       have c2 := HS.out.c2
       have c3 := HS.out.c3
       have c4 := HS.out.c4
       have c5 := HS.out.c5
       have c6 := HS.out.c6
       have c7 := HS.out.c7
       have c8 := HS.out.c8
       have c10 := HS.out.c10)
    | (go_at_call 89
       ((with_reducible refine (textc_any base g c r.value r A _ _ HS.out (by first | omega | (simp [Ws.num, Ws.txt, Ws.wrd, Ws.flg, Ws.eqs, Ws.size]; omega)) h2).mono ?_); rintro e w1 ⟨rfl, hs1, hk1⟩)
       have hk2 := HK.out.trans hk1
       clear HS HK
       have HS := hid hs1
       have HK := hid hk2
       clear hs1 hk1 hk2
       have c1 := HS.out.c1
       have c2 := HS.out.c2
       have c3 := HS.out.c3
       have c4 := HS.out.c4
       have c5 := HS.out.c5
       have c6 := HS.out.c6
       have c7 := HS.out.c7
       have c8 := HS.out.c8
       have c10 := HS.out.c10)
    | (go_at_call 88
       ((with_reducible refine (word0_any base g c r.lang r A _ _ HS.out (by first | omega | (simp [Ws.num, Ws.txt, Ws.wrd, Ws.flg, Ws.eqs, Ws.size]; omega)) h3).mono ?_); rintro e w1 ⟨rfl, hs1, hk1⟩)
       have hk2 := HK.out.trans hk1
       clear HS HK
       have HS := hid hs1
       have HK := hid hk2
       clear hs1 hk1 hk2
       have c1 := HS.out.c1
       have c2 := HS.out.c2
       have c3 := HS.out.c3
       have c4 := HS.out.c4
       have c5 := HS.out.c5
       have c6 := HS.out.c6
       have c7 := HS.out.c7
       have c8 := HS.out.c8
       have c10 := HS.out.c10))
  go_end0
  exact ⟨rfl, HS.out, HK.out⟩
set_option maxHeartbeats 1000000 in
set_option maxRecDepth 100000 in
theorem putnothing_any (base g c : Nat) (r : Rq) (A : Option Addr) (s : Ws) (w : World) (hs : WrS w base g r A c s) :
    Calls Tryd.prog 51 #[.pointer (some ⟨g, 0, none⟩)] w (PutW base g r A c (Rw.put r s .shell) w) := by
  have HS := hid hs
  clear hs
  go_enter Tryd.func51, Tryd.ntmps51
  go_wp2
  go_end0
  exact ⟨rfl, HS.out, Kept.refl _ _ _⟩
set_option maxHeartbeats 1000000 in
set_option maxRecDepth 100000 in
theorem putvariable_yes (base g c : Nat) (r : Rq) (A : Option Addr) (s : Ws) (w : World) (hr : r.Ok) (hs : WrS w base g r A c s) (hl : s.fs.length ≤ 20) (heq : r.text.data.toList.contains 61 = true) :
    Calls Tryd.prog 49 #[.pointer (some ⟨g, 0, none⟩)] w (PutW base g r A c (Rw.put r s .env) w) := by
  have h1 := hr.text
  have h2 := hr.value
  have h3 := hr.lang
  have hcv : ∀ W : World, (convert 9 22 (.string r.value)).run Tryd.prog W = .ok (.slice (some ⟨W.heap.size, 0, none⟩) r.value.size (grownCap W r.value.size 0 5)) (Lib.bytesWorld W 5 r.value) := fun W => Lib.run_convert_string_bytes W 9 22 5 r.value Tryd.underlying9 Tryd.underlying22 Tryd.underlying5
  have HE := hid heq
  clear heq
  have HK : Hid (Kept base [72, 80] w w) := hid (Kept.refl _ _ _)
  have HS := hid hs
  clear hs
  have c1 := HS.out.c1
  have c2 := HS.out.c2
  have c3 := HS.out.c3
  have c4 := HS.out.c4
  have c5 := HS.out.c5
  have c6 := HS.out.c6
  have c7 := HS.out.c7
  have c8 := HS.out.c8
  have c10 := HS.out.c10
  go_enter Tryd.func49, Tryd.ntmps49
  go_wp2_with (first
    | (go_at_call 91
       ((with_reducible refine (Tryd.strings_Contains_one _ _ _).mono ?_); rintro e w1 ⟨rfl, rfl⟩)
       rw [contains61, HE.out]
       have hb := wr_bad HS.out
       have c12 := HS.out.c12
       have f12 := HS.out.f12
       have hb2 : WrS _ base g r A c (_ : Ws) := hb.1
       rw [← Ws.eqs_yes HE.out] at hb2
       have hk2 := HK.out.trans hb.2
       clear HS HK
       have HS := hid hb2
       have HK := hid hk2
       have d2 := HS.out.c2
       clear hb hb2 hk2)
    | (go_at_call 55
       ((with_reducible refine (putname_any base g c r A _ _ hr HS.out (by first | omega | (simp [Ws.num, Ws.txt, Ws.wrd, Ws.flg, Ws.eqs, Ws.size]; omega))).mono ?_); rintro e w1 ⟨rfl, hs1, hk1⟩)
       have hk2 := HK.out.trans hk1
       clear HS HK
       have HS := hid hs1
       have HK := hid hk2
       clear hs1 hk1 hk2
       have c1 := HS.out.c1
       have c2 := HS.out.c2
       have c3 := HS.out.c3
       have c4 := HS.out.c4
       have c5 := HS.out.c5
       have c6 := HS.out.c6
       have c7 := HS.out.c7
       have c8 := HS.out.c8
       have c10 := HS.out.c10)
    | (go_at_call 89
       ((with_reducible refine (textc_at base g c w1.heap.size r.value r A _ _ (by simp) HS.out (by first | omega | (simp [Ws.num, Ws.txt, Ws.wrd, Ws.flg, Ws.eqs, Ws.size]; omega)) h2).mono ?_); rintro e w1 ⟨rfl, hs1, hk1⟩)
       have hk2 := HK.out.trans hk1
       clear HS HK
       have HS := hid hs1
       have HK := hid hk2
       clear hs1 hk1 hk2
       have c1 := HS.out.c1
       have c2 := HS.out.c2
       have c3 := HS.out.c3
       have c4 := HS.out.c4
       have c5 := HS.out.c5
       have c6 := HS.out.c6
       have c7 := HS.out.c7
       have c8 := HS.out.c8
       have c10 := HS.out.c10))
  go_end0
  exact ⟨rfl, HS.out, HK.out⟩
set_option maxHeartbeats 1000000 in
set_option maxRecDepth 100000 in
theorem putvariable_no (base g c : Nat) (r : Rq) (A : Option Addr) (s : Ws) (w : World) (hr : r.Ok) (hs : WrS w base g r A c s) (hl : s.fs.length ≤ 20) (heq : r.text.data.toList.contains 61 = false) :
    Calls Tryd.prog 49 #[.pointer (some ⟨g, 0, none⟩)] w (PutW base g r A c (Rw.put r s .env) w) := by
  have h1 := hr.text
  have h2 := hr.value
  have h3 := hr.lang
  have hcv : ∀ W : World, (convert 9 22 (.string r.value)).run Tryd.prog W = .ok (.slice (some ⟨W.heap.size, 0, none⟩) r.value.size (grownCap W r.value.size 0 5)) (Lib.bytesWorld W 5 r.value) := fun W => Lib.run_convert_string_bytes W 9 22 5 r.value Tryd.underlying9 Tryd.underlying22 Tryd.underlying5
  have HE := hid heq
  clear heq
  have HK : Hid (Kept base [72, 80] w w) := hid (Kept.refl _ _ _)
  have HS := hid hs
  clear hs
  have c1 := HS.out.c1
  have c2 := HS.out.c2
  have c3 := HS.out.c3
  have c4 := HS.out.c4
  have c5 := HS.out.c5
  have c6 := HS.out.c6
  have c7 := HS.out.c7
  have c8 := HS.out.c8
  have c10 := HS.out.c10
  go_enter Tryd.func49, Tryd.ntmps49
  go_wp2_with (first
    | (go_at_call 91
       ((with_reducible refine (Tryd.strings_Contains_one _ _ _).mono ?_); rintro e w1 ⟨rfl, rfl⟩)
       rw [contains61, HE.out]
       have hb2 := HS.out
       rw [← Ws.eqs_no (s := s.wrd 1 r.text) HE.out] at hb2
       clear HS
       have HS := hid hb2
       clear hb2)
    | (go_at_call 55
       ((with_reducible refine (putname_any base g c r A _ _ hr HS.out (by first | omega | (simp [Ws.num, Ws.txt, Ws.wrd, Ws.flg, Ws.eqs, Ws.size]; omega))).mono ?_); rintro e w1 ⟨rfl, hs1, hk1⟩)
       have hk2 := HK.out.trans hk1
       clear HS HK
       have HS := hid hs1
       have HK := hid hk2
       clear hs1 hk1 hk2
       have c1 := HS.out.c1
       have c2 := HS.out.c2
       have c3 := HS.out.c3
       have c4 := HS.out.c4
       have c5 := HS.out.c5
       have c6 := HS.out.c6
       have c7 := HS.out.c7
       have c8 := HS.out.c8
       have c10 := HS.out.c10)
    | (go_at_call 89
       ((with_reducible refine (textc_any base g c r.value r A _ _ HS.out (by first | omega | (simp [Ws.num, Ws.txt, Ws.wrd, Ws.flg, Ws.eqs, Ws.size]; omega)) h2).mono ?_); rintro e w1 ⟨rfl, hs1, hk1⟩)
       have hk2 := HK.out.trans hk1
       clear HS HK
       have HS := hid hs1
       have HK := hid hk2
       clear hs1 hk1 hk2
       have c1 := HS.out.c1
       have c2 := HS.out.c2
       have c3 := HS.out.c3
       have c4 := HS.out.c4
       have c5 := HS.out.c5
       have c6 := HS.out.c6
       have c7 := HS.out.c7
       have c8 := HS.out.c8
       have c10 := HS.out.c10))
  go_end0
  exact ⟨rfl, HS.out, HK.out⟩
theorem putvariable_any (base g c : Nat) (r : Rq) (A : Option Addr) (s : Ws) (w : World) (hr : r.Ok) (hs : WrS w base g r A c s) (hl : s.fs.length ≤ 20) :
    Calls Tryd.prog 49 #[.pointer (some ⟨g, 0, none⟩)] w (PutW base g r A c (Rw.put r s .env) w) := by
  cases h : r.text.data.toList.contains 61 with
  | true => exact putvariable_yes base g c r A s w hr hs hl h
  | false => exact putvariable_no base g c r A s w hr hs hl h
end Go.Proofs.YtdplngplljejhaaDoor
