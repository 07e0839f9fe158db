import Derived.Test.YtoedhblihodgdaaDoorXB
namespace Go.Proofs.YtoedhblihodgdaaDoor
open Go.RowKit

theorem own_fin {w2 wr w8 : World} {base k : Nat} {A' tA lA : Option Addr} {c' tc lc : Nat} {fs : List Fd} {cs : List Value} {f : Fd} {o1 o2 o3 : Obj}
    (hbw : Below w2.heap.size w2 wr) (hro : wr.ownsRow w2.heap.size 37 4 (.slice A' k c') k cs) (hfl : FlatF wr base fs cs)
    (ho : wr.ownsRow base 5 1 (.slice tA f.text.length tc) f.text.length (bv f.text) ∧ wr.ownsRow base 9 1 (.slice lA f.list.length lc) f.list.length (sv f.list))
    (hg8 : (((wr.alloc o1).alloc o2).alloc o3).grownBy w8 (Value.slice A' k c').ownBlock) :
    FlatF w8 base (fs ++ [f]) (cs ++ [.int .i64 f.kind, .int .u32 f.n, .slice tA f.text.length tc, .slice lA f.list.length lc]) ∧ Below w2.heap.size w2 w8 := by
  have hro7 := ((hro.alloc o1).alloc o2).alloc o3
  have k8 : Kept w2.heap.size [37] wr w8 := ((((Kept.refl _ _ _).alloc _).alloc _).alloc _).grown hg8 (fun k hk => by obtain ⟨a, cs, b⟩ := own_box hro7 k hk; exact ⟨a, 37, cs, by simp, b⟩)
  exact ⟨FlatF.snoc (f := f) (k8.own ho.1 (by decide)) (k8.own ho.2 (by decide)) fs cs (FlatF.kept k8 (by decide) (by decide) _ _ hfl), hbw.trans (k8.below hbw.size)⟩

theorem fds_wf {w : World} {B : Nat} {A : Option Addr} {l : List Fd} (h : FdsV w B A l) : ∀ f ∈ l, Wf f := fun f hf => by
  obtain ⟨i, hi, rfl⟩ := List.getElem_of_mem hf
  obtain ⟨b, o, rfl, hb, hc⟩ := h (by rintro rfl; cases hf)
  obtain ⟨tA, tc, lA, lc, hfd, _⟩ := hc i hi
  obtain ⟨_, _, _, _, _, h1, h2, _, _, _, _, _, h3⟩ := hfd
  exact ⟨h1, h2, h3⟩
theorem ownF_wf {f : Fd} (h : Wf f) : Wf (ownF f) := by
  obtain ⟨h1, h2, h3⟩ := h
  refine ⟨?_, h2, ?_⟩
  · show (if _ then 0 else f.n) < _
    split <;> omega
  · intro s hs
    simp only [ownF] at hs
    split at hs
    · exact h3 s hs
    · cases hs

set_option maxHeartbeats 4000000 in
set_option maxRecDepth 100000 in
theorem own_any (w : World) (A : Option Addr) (c : Nat) (l : List Fd) (hl : FdsV w w.heap.size A l) (hs : Sized l) (hn : l.length ≤ 1000) :
    Calls Tryd.prog 19 #[.slice A l.length c] w fun e w' => ∃ A' c', e = .returned (.slice A' l.length c') ∧ FdsV w' w'.heap.size A' (l.map ownF) ∧ Below w.heap.size w w' := by
  have HL := hid hl
  have HS := hid hs
  have HWF := hid (fds_wf hl)
  clear hl hs
  go_enter Tryd.func19, Tryd.ntmps19
  go_wp2_with (first
    | (go_at_call 10
       ((with_reducible refine (copy_any _ A c l HL.out HS.out hn).mono ?_); rintro e w2 ⟨A2, c2, cs2, rfl, ho2, hf2, hb2⟩)
       have HO2 := hid ho2
       have HF2 := hid hf2
       have HB2 := hid hb2
       have hzz : w.heap.size ≤ w2.heap.size := hb2.size
       clear ho2 hf2 hb2))
  go_loopw [10, 3] (fun i v wr => ∃ (k : Nat) (A' : Option Addr) (c' : Nat) (cs : List Value), k ≤ l.length ∧ i = .int .i64 k ∧ v = .slice A' k c' ∧ wr.ownsRow w2.heap.size 37 4 (.slice A' k c') k cs ∧ FlatF wr w.heap.size ((l.take k).map ownF) cs ∧ Below w2.heap.size w2 wr) (fun i _ _ => l.length - (intOf i).toNat)
  case atStart => exact ⟨0, none, 0, [], Nat.zero_le _, rfl, rfl, World.ownsRow_nil _ _ _ _, rfl, Below.refl _ _⟩
  case round =>
    obtain ⟨k, A', c', cs, hk, rfl, rfl, hro, hfl, hbw⟩ := hrel
    have HRO := hid hro
    have HFL := hid hfl
    have HBW := hid hbw
    have hsz : w2.heap.size ≤ wr.heap.size := hbw.size
    by_cases hlt : k < l.length
    · have hcne : cs2 ≠ [] := by
        have := HF2.out.length
        intro e
        rw [e] at this
        simp at this
        omega
      obtain ⟨b, o, rfl, hbk, hcc⟩ := Lies.own HO2.out hcne
      obtain ⟨tA, tc, lA, lc, g0, g1, g2, g3, g4, g5⟩ := flat_at l cs2 HF2.out k hlt
      have c0 := (hbw.cell (p := ⟨b, _, none⟩) hbk).trans (hcc _ _ g0)
      have c1 := (hbw.cell (p := ⟨b, _, none⟩) hbk).trans (hcc _ _ g1)
      rw [← Nat.add_assoc] at c1
      have c2' := (hbw.cell (p := ⟨b, _, none⟩) hbk).trans (hcc _ _ g2)
      rw [← Nat.add_assoc] at c2'
      have c3 := (hbw.cell (p := ⟨b, _, none⟩) hbk).trans (hcc _ _ g3)
      rw [← Nat.add_assoc] at c3
      have hbo : b < w2.heap.size := hbk
      clear g0 g1 g2 g3 hcc hcne
      have HT : Hid (l.take (k + 1) = l.take k ++ [l[k]]) := take_snoc _ _ hlt
      have hwf := HWF.out l[k] (List.getElem_mem hlt)
      have HG4 := hid (own_keep g4 hbw)
      have HG5 := hid (own_keep g5 hbw)
      clear g4 g5 hro hfl hbw
      obtain ⟨f, Hf⟩ : ∃ f, Hid (l[k] = f) := ⟨_, hid rfl⟩
      rw [Hf.out] at c0 c1 c2' c3 HT HG4 HG5 hwf
      obtain ⟨hfn, hfk, _⟩ := hwf
      clear Hf HL
      have HNL5 : Hid (∀ W : World, W.ownsRow w.heap.size 5 1 (.slice none 0 0) 0 []) := fun W => World.ownsRow_nil _ _ _ _
      have HNL9 : Hid (∀ W : World, W.ownsRow w.heap.size 9 1 (.slice none 0 0) 0 []) := fun W => World.ownsRow_nil _ _ _ _
      obtain ⟨i0, hi0, hz0, hz1, hz2⟩ := info_parts Tryd.info37
      by_cases hk : f.kind = 4
      · have hO : ownF f = ⟨4, 0, f.text, []⟩ := by simp [ownF, hk]
        have HH := hid hO
        rw [hk] at c0
        clear hO hk
        go_wp2_with (first
          | (at_builtin
             (
               have hl7 := lit_lies ((wr.alloc (.cells #[.int .i64 4, .int .u32 f.n, .slice tA f.text.length tc, .slice lA f.list.length lc] 37)).alloc (.cells #[.int .i64 4, .int .u32 0, .slice tA f.text.length tc, .slice none 0 0] 37)) #[.int .i64 4, .int .u32 0, .slice tA f.text.length tc, .slice none 0 0] 37 (0, 0) (wr.heap.size + 2) (by simp)
               refine wpList_app _ rfl (.tmp 33) (.tmp 35) 22 rfl w2.heap.size 37 i0 _ 4 64 Tryd.underlying22 hi0 hz0 hz1 hz2 rfl (by decide) A' k c' cs ?a1 ?a2 ?aB ?aA 1 1 ?an ?a3 ?a4 ?a5 ?a6 ?g3 ?g4 ?g5 ?_
               case aB => exact wr.heap.size + 2 + 1
               case aA => exact some ⟨wr.heap.size + 2, 0, none⟩
               case an => exact (#[.int .i64 4, .int .u32 0, .slice tA f.text.length tc, .slice none 0 0] : Array Value).toList
               case a1 => rfl
               case a2 => exact ((HRO.out.alloc _).alloc _).alloc _
               case a5 => exact hl7
               case a3 => rfl
               case a4 => rfl
               case a6 => exact one4 _ _ _ _ _ _ _ _
               case g3 => unfold maxLen; omega
               case g4 => omega
               case g5 => simp; omega
               intro A8 c8 w8 ho8 hg8
               have HFIN := hid (own_fin (f := ownF f) HBW.out HRO.out HFL.out (by rw [HH.out]; exact ⟨HG4.out, HNL9.out wr⟩) hg8)
               have HO8 := hid ho8
               clear ho8 hg8 hl7)))
        go_roundw
        case rel =>
          obtain ⟨q1, q2⟩ := HFIN.out
          exact ⟨k + 1, A8, c8, _, by omega, by go_num, rfl, HO8.out, by rw [HT.out]; simp only [List.map_append, List.map_cons, List.map_nil]; rw [HH.out] at q1 ⊢; exact q1, q2⟩
        case measure => simp [intOf]; omega
      · have t4 : (f.kind == 4) = false := by simpa using hk
        have n4 := hid hk
        clear hk
        by_cases hk : f.kind = 6
        · have hO : ownF f = ⟨6, 0, f.text, []⟩ := by simp [ownF, hk]
          have HH := hid hO
          rw [hk] at c0
          clear hO hk
          go_wp2_with (first
            | (at_builtin
               (
                 have hl7 := lit_lies ((wr.alloc (.cells #[.int .i64 6, .int .u32 f.n, .slice tA f.text.length tc, .slice lA f.list.length lc] 37)).alloc (.cells #[.int .i64 6, .int .u32 0, .slice tA f.text.length tc, .slice none 0 0] 37)) #[.int .i64 6, .int .u32 0, .slice tA f.text.length tc, .slice none 0 0] 37 (0, 0) (wr.heap.size + 2) (by simp)
                 refine wpList_app _ rfl (.tmp 33) (.tmp 35) 22 rfl w2.heap.size 37 i0 _ 4 64 Tryd.underlying22 hi0 hz0 hz1 hz2 rfl (by decide) A' k c' cs ?a1 ?a2 ?aB ?aA 1 1 ?an ?a3 ?a4 ?a5 ?a6 ?g3 ?g4 ?g5 ?_
                 case aB => exact wr.heap.size + 2 + 1
                 case aA => exact some ⟨wr.heap.size + 2, 0, none⟩
                 case an => exact (#[.int .i64 6, .int .u32 0, .slice tA f.text.length tc, .slice none 0 0] : Array Value).toList
                 case a1 => rfl
                 case a2 => exact ((HRO.out.alloc _).alloc _).alloc _
                 case a5 => exact hl7
                 case a3 => rfl
                 case a4 => rfl
                 case a6 => exact one4 _ _ _ _ _ _ _ _
                 case g3 => unfold maxLen; omega
                 case g4 => omega
                 case g5 => simp; omega
                 intro A8 c8 w8 ho8 hg8
                 have HFIN := hid (own_fin (f := ownF f) HBW.out HRO.out HFL.out (by rw [HH.out]; exact ⟨HG4.out, HNL9.out wr⟩) hg8)
                 have HO8 := hid ho8
                 clear ho8 hg8 hl7)))
          go_roundw
          case rel =>
            obtain ⟨q1, q2⟩ := HFIN.out
            exact ⟨k + 1, A8, c8, _, by omega, by go_num, rfl, HO8.out, by rw [HT.out]; simp only [List.map_append, List.map_cons, List.map_nil]; rw [HH.out] at q1 ⊢; exact q1, q2⟩
          case measure => simp [intOf]; omega
        · have t6 : (f.kind == 6) = false := by simpa using hk
          have n6 := hid hk
          clear hk
          by_cases hk : f.kind = 5
          · have hO : ownF f = ⟨5, 0, [], f.list⟩ := by simp [ownF, hk]
            have HH := hid hO
            rw [hk] at c0
            clear hO hk
            go_wp2_with (first
              | (at_builtin
                 (
                   have hl7 := lit_lies ((wr.alloc (.cells #[.int .i64 5, .int .u32 f.n, .slice tA f.text.length tc, .slice lA f.list.length lc] 37)).alloc (.cells #[.int .i64 5, .int .u32 0, .slice none 0 0, .slice lA f.list.length lc] 37)) #[.int .i64 5, .int .u32 0, .slice none 0 0, .slice lA f.list.length lc] 37 (0, 0) (wr.heap.size + 2) (by simp)
                   refine wpList_app _ rfl (.tmp 33) (.tmp 35) 22 rfl w2.heap.size 37 i0 _ 4 64 Tryd.underlying22 hi0 hz0 hz1 hz2 rfl (by decide) A' k c' cs ?a1 ?a2 ?aB ?aA 1 1 ?an ?a3 ?a4 ?a5 ?a6 ?g3 ?g4 ?g5 ?_
                   case aB => exact wr.heap.size + 2 + 1
                   case aA => exact some ⟨wr.heap.size + 2, 0, none⟩
                   case an => exact (#[.int .i64 5, .int .u32 0, .slice none 0 0, .slice lA f.list.length lc] : Array Value).toList
                   case a1 => rfl
                   case a2 => exact ((HRO.out.alloc _).alloc _).alloc _
                   case a5 => exact hl7
                   case a3 => rfl
                   case a4 => rfl
                   case a6 => exact one4 _ _ _ _ _ _ _ _
                   case g3 => unfold maxLen; omega
                   case g4 => omega
                   case g5 => simp; omega
                   intro A8 c8 w8 ho8 hg8
                   have HFIN := hid (own_fin (f := ownF f) HBW.out HRO.out HFL.out (by rw [HH.out]; exact ⟨HNL5.out wr, HG5.out⟩) hg8)
                   have HO8 := hid ho8
                   clear ho8 hg8 hl7)))
            go_roundw
            case rel =>
              obtain ⟨q1, q2⟩ := HFIN.out
              exact ⟨k + 1, A8, c8, _, by omega, by go_num, rfl, HO8.out, by rw [HT.out]; simp only [List.map_append, List.map_cons, List.map_nil]; rw [HH.out] at q1 ⊢; exact q1, q2⟩
            case measure => simp [intOf]; omega
          · have t5 : (f.kind == 5) = false := by simpa using hk
            have n5 := hid hk
            clear hk
            have hO : ownF f = ⟨f.kind, f.n, [], []⟩ := by simp [ownF, n4.out, n5.out, n6.out]
            have HH := hid hO
            clear hO
            go_wp2_with (first
              | (at_builtin
                 (
                   have hl7 := lit_lies ((wr.alloc (.cells #[.int .i64 f.kind, .int .u32 f.n, .slice tA f.text.length tc, .slice lA f.list.length lc] 37)).alloc (.cells #[.int .i64 f.kind, .int .u32 f.n, .slice none 0 0, .slice none 0 0] 37)) #[.int .i64 f.kind, .int .u32 f.n, .slice none 0 0, .slice none 0 0] 37 (0, 0) (wr.heap.size + 2) (by simp)
                   refine wpList_app _ rfl (.tmp 33) (.tmp 35) 22 rfl w2.heap.size 37 i0 _ 4 64 Tryd.underlying22 hi0 hz0 hz1 hz2 rfl (by decide) A' k c' cs ?a1 ?a2 ?aB ?aA 1 1 ?an ?a3 ?a4 ?a5 ?a6 ?g3 ?g4 ?g5 ?_
                   case aB => exact wr.heap.size + 2 + 1
                   case aA => exact some ⟨wr.heap.size + 2, 0, none⟩
                   case an => exact (#[.int .i64 f.kind, .int .u32 f.n, .slice none 0 0, .slice none 0 0] : Array Value).toList
                   case a1 => rfl
                   case a2 => exact ((HRO.out.alloc _).alloc _).alloc _
                   case a5 => exact hl7
                   case a3 => rfl
                   case a4 => rfl
                   case a6 => exact one4 _ _ _ _ _ _ _ _
                   case g3 => unfold maxLen; omega
                   case g4 => omega
                   case g5 => simp; omega
                   intro A8 c8 w8 ho8 hg8
                   have HFIN := hid (own_fin (f := ownF f) HBW.out HRO.out HFL.out (by rw [HH.out]; exact ⟨HNL5.out wr, HNL9.out wr⟩) hg8)
                   have HO8 := hid ho8
                   clear ho8 hg8 hl7)))
            go_roundw
            case rel =>
              obtain ⟨q1, q2⟩ := HFIN.out
              exact ⟨k + 1, A8, c8, _, by omega, by go_num, rfl, HO8.out, by rw [HT.out]; simp only [List.map_append, List.map_cons, List.map_nil]; rw [HH.out] at q1 ⊢; exact q1, q2⟩
            case measure => simp [intOf]; omega
    · have hd : l.take k = l := List.take_of_length_le (by omega)
      have hk' : k = l.length := by omega
      subst hk'
      rw [hd] at HFL
      have hlen : (l.map ownF).length = l.length := by simp
      have hwf : ∀ f ∈ l.map ownF, Wf f := fun f hf => by
        obtain ⟨g, hg, rfl⟩ := List.mem_map.1 hf
        exact ownF_wf (HWF.out g hg)
      have HFD : Hid (FdsV wr wr.heap.size A' (l.map ownF)) := flat_fds (by rw [hlen]; exact own_mono HRO.out hzz) HFL.out hwf
      go_wp2
      go_ret
      exact ⟨_, _, rfl, HFD.out, HB2.out.trans (HBW.out.mono hzz)⟩
end Go.Proofs.YtoedhblihodgdaaDoor
