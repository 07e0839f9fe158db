import Derived.Test.YtoedhblihodgdaaDoorXA
import Derived.Test.YtoedhblihodgdaaDoorWS
namespace Go.Proofs.YtoedhblihodgdaaDoor
open Go.RowKit

/-- Fields of texts and lists that memory can hold. -/
def Sized (l : List Fd) : Prop := ∀ f ∈ l, f.text.length ≤ 140737488351232 ∧ f.list.length * 16 ≤ 140737488351232

theorem own_keep {w w' : World} {base : Nat} {e : TypeId} {size n : Nat} {v : Value} {xs : List Value} (h : w.ownsRow base e size v n xs) (hb : Below w.heap.size w w') : w'.ownsRow base e size v n xs :=
  (Kept.of_below hb 0 []).own h (by simp)
theorem flat_keep {w w' : World} {base : Nat} {fs : List Fd} {cs : List Value} (h : FlatF w base fs cs) (hb : Below w.heap.size w w') : FlatF w' base fs cs :=
  FlatF.kept (Kept.of_below hb 0 []) (by simp) (by simp) fs cs h

theorem Tryd.info9 : (Tryd.prog.info? 9).map (fun i => (i.zero, i.size, i.bytes)) = some (some (.string ⟨#[]⟩), 1, 16) := by kernel_rfl

theorem lit_own {w : World} {base : Nat} {e : TypeId} {size g : Nat} (hb : base ≤ w.heap.size) (hg : g = w.heap.size) : (w.alloc (.cells #[] e)).ownsRow base e size (.slice (some ⟨g, 0, none⟩) 0 0) 0 [] := by
  subst hg
  exact World.ownsRow_lit w #[] 0 hb (Nat.zero_le _) (by simp)
/-- An append to an empty literal has turned nothing that was there. -/
theorem lit_grown {w w' : World} {e : TypeId} {g : Nat} (hg : g = w.heap.size) (h : (w.alloc (.cells #[] e)).grownBy w' (Value.slice (some ⟨g, 0, none⟩) 0 0).ownBlock) : Below w.heap.size w w' := by
  subst hg
  refine ⟨h.os, h.tape, h.output, Nat.le_trans (by simp) h.size, fun b hb => ?_⟩
  rw [h.block b (by simp; omega) (by simp [Value.ownBlock]; omega)]
  exact Below.heap_alloc _ _ _ hb
theorem box_below {w w' : World} {g : Nat} {t : TypeId} {cs : Array Value} (h : Box w g t cs) (hb : Below w.heap.size w w') : Box w' g t cs := h.same (hb.block _ h.lt)
theorem box_st {w : World} {g : Nat} {t : TypeId} {cs : Array Value} (h : Box w g t cs) (i : Nat) (u : Value) (o : Obj) : Box ((w.setCell ⟨g, i, none⟩ u).alloc o) g t (cs.setIfInBounds i u) :=
  box_below (h.store i u) ((Below.refl _ _).alloc (Nat.le_refl _) _)
theorem kept_st {w : World} {g : Nat} {t : TypeId} {cs : Array Value} (h : Box w g t cs) (B i : Nat) (hB : B ≤ g) (u : Value) (o : Obj) : Kept B [t] w ((w.setCell ⟨g, i, none⟩ u).alloc o) :=
  ((Kept.refl B [t] w).store h hB (by simp) u).alloc o
theorem copy_fin {w wr w6 w8 : World} {g k : Nat} {A' tA lA : Option Addr} {c' tc lc : Nat} {fs : List Fd} {cs : List Value} {f : Fd} {bx : Array Value} {u : Value} {o : Obj}
    (hbw : Below w.heap.size w wr) (hro : wr.ownsRow w.heap.size 37 4 (.slice A' k c') k cs) (hfl : FlatF wr w.heap.size fs cs) (hb6 : Below wr.heap.size wr w6) (hx6 : Box w6 g 37 bx) (hgb : wr.heap.size ≤ g)
    (ho1 : w6.ownsRow w.heap.size 5 1 (.slice tA f.text.length tc) f.text.length (bv f.text)) (ho2 : w6.ownsRow w.heap.size 9 1 (.slice lA f.list.length lc) f.list.length (sv f.list))
    (hg8 : ((w6.setCell ⟨g, 3, none⟩ u).alloc o).grownBy w8 (Value.slice A' k c').ownBlock) :
    FlatF w8 w.heap.size (fs ++ [f]) (cs ++ [.int .i64 f.kind, .int .u32 f.n, .slice tA f.text.length tc, .slice lA f.list.length lc]) ∧ Below w.heap.size w w8 := by
  have hro7 := own_keep hro (hb6.trans ((kept_st hx6 wr.heap.size 3 hgb u o).below hb6.size))
  have k8 : Kept w.heap.size [37] w6 w8 := (kept_st hx6 w.heap.size 3 (Nat.le_trans hbw.size hgb) u o).grown hg8 (fun k hk => by obtain ⟨a, cs, b⟩ := own_box hro7 k hk; exact ⟨a, 37, cs, by simp, b⟩)
  exact ⟨FlatF.snoc (f := f) (k8.own ho1 (by decide)) (k8.own ho2 (by decide)) fs cs (FlatF.kept k8 (by decide) (by decide) _ _ (flat_keep hfl hb6)), hbw.trans ((hb6.mono hbw.size).trans (k8.below (Nat.le_trans hbw.size hb6.size)))⟩
theorem sv_one (a : List ByteArray) : ∀ u ∈ sv a, u.oneCell' = true := by
  intro u hu
  simp only [sv, List.mem_map] at hu
  obtain ⟨c, _, rfl⟩ := hu
  rfl

set_option maxHeartbeats 4000000 in
set_option maxRecDepth 100000 in
theorem copy_any (w : World) (A : Option Addr) (c : Nat) (l : List Fd) (hl : FdsV w w.heap.size A l) (hs : Sized l) (hn : l.length ≤ 1000) :
    Calls Tryd.prog 10 #[.slice A l.length c] w fun e w' => ∃ A' c' cs, e = .returned (.slice A' l.length c') ∧ w'.ownsRow w.heap.size 37 4 (.slice A' l.length c') l.length cs ∧ FlatF w' w.heap.size l cs ∧ Below w.heap.size w w' := by
  have HL := hid hl
  have HS := hid hs
  clear hl hs
  go_enter Tryd.func10, Tryd.ntmps10
  go_wp2
  go_loopw [8, 3] (fun i v wr => ∃ (k : Nat) (A' : Option Addr) (c' : Nat) (cs : List Value), k ≤ l.length ∧ i = .int .i64 k ∧ v = .slice A' k c' ∧ wr.ownsRow w.heap.size 37 4 (.slice A' k c') k cs ∧ FlatF wr w.heap.size (l.take k) cs ∧ Below w.heap.size w wr) (fun i _ _ => l.length - (intOf i).toNat)
  case atStart => exact ⟨0, none, 0, [], Nat.zero_le _, rfl, rfl, World.ownsRow_nil _ _ _ _, rfl, Below.refl _ _⟩
  case round =>
    obtain ⟨k, A', c', cs, hk, rfl, rfl, hro, hfl, hbw⟩ := hrel
    have HRO := hid hro
    have HFL := hid hfl
    have HBW := hid hbw
    have hsz : w.heap.size ≤ wr.heap.size := hbw.size
    by_cases hlt : k < l.length
    · obtain ⟨b, o, rfl, hbk, hcells⟩ := HL.out (by intro e; rw [e] at hlt; simp at hlt)
      obtain ⟨tA, tc, lA, lc, hfd, e0, e1, e2, e3⟩ := hcells k hlt
      have c0 := (hbw.cell (p := ⟨b, _, none⟩) hbk).trans e0
      have c1 := (hbw.cell (p := ⟨b, _, none⟩) hbk).trans e1
      have c2 := (hbw.cell (p := ⟨b, _, none⟩) hbk).trans e2
      have c3 := (hbw.cell (p := ⟨b, _, none⟩) hbk).trans e3
      clear e0 e1 e2 e3 hcells
      obtain ⟨z1, z2⟩ := HS.out l[k] (List.getElem_mem hlt)
      have HT : Hid (l.take (k + 1) = l.take k ++ [l[k]]) := take_snoc _ _ hlt
      obtain ⟨f, Hf⟩ : ∃ f, Hid (l[k] = f) := ⟨_, hid rfl⟩
      rw [Hf.out] at hfd c0 c1 c2 c3 z1 z2 HT
      have hfd2 := hfd.keep hbw
      obtain ⟨tA0, tc0, lA0, lc0, he, hfn, hfk, _, _, _, hLT, hLL, _⟩ := hfd2
      injection he with he
      simp only [Array.mk.injEq, List.cons.injEq, Value.slice.injEq, and_true, true_and] at he
      obtain ⟨⟨rfl, rfl⟩, rfl, rfl⟩ := he
      have HLT := hid hLT
      have HLL := hid hLL
      clear hfd hLT hLL hro hfl hbw Hf
      obtain ⟨i5, hi5, hz5, hz51, hz52⟩ := info_parts Tryd.info5
      obtain ⟨i9, hi9, hz9, hz91, hz92⟩ := info_parts Tryd.info9
      obtain ⟨i0, hi0, hz0, hz1, hz2⟩ := info_parts Tryd.info37
      go_wp2_with (first
        | (at_builtin
           (
             refine wpList_app _ rfl (.tmp 12) (.tmp 14) 26 rfl w.heap.size 5 i5 _ 1 1 Tryd.underlying26 hi5 hz5 hz51 hz52 rfl (by decide) _ 0 0 [] rfl (lit_own (by simp; omega) (by simp)) w.heap.size tA f.text.length tc (bv f.text) rfl (by simp [bv]) ?g2 (bv_one _) ?g3 ?g4 ?g5 ?_
             case g2 => exact (HLT.out.alloc (by omega) _).alloc (by simp; omega) _
             case g3 => unfold maxLen; omega
             case g4 => omega
             case g5 => simp; omega
             intro A1 tc1 w4 ho4 hg4
             simp only [Nat.zero_add, List.nil_append] at ho4 ⊢
             have hb4 := lit_grown (by simp) hg4
             have hx4 := box_below (Box.new wr 37 _) hb4
             have f42 : w4.frozen? ⟨wr.heap.size, 2, none⟩ = false := hx4.frozen 2
             have c42 : w4.cell? ⟨wr.heap.size, 2, none⟩ = some (.slice tA f.text.length tc) := hx4.cell 2
             have HXS := hid (hx4.store 2 (.slice A1 f.text.length tc1))
             have c53 : ((w4.setCell ⟨wr.heap.size, 2, none⟩ (.slice A1 f.text.length tc1)).alloc (.cells #[] 9)).cell? ⟨wr.heap.size, 3, none⟩ = some (.slice lA f.list.length lc) := (box_st hx4 2 (.slice A1 f.text.length tc1) (.cells #[] 9)).cell 3
             have hb4' : Below wr.heap.size wr w4 := ((Below.refl _ _).alloc (Nat.le_refl _) _).trans (hb4.mono (by simp))
             have hz4 : wr.heap.size ≤ w4.heap.size := hb4'.size
             have HB5 : Hid (Below wr.heap.size wr (w4.setCell ⟨wr.heap.size, 2, none⟩ (.slice A1 f.text.length tc1))) := hb4'.trans (((Kept.refl wr.heap.size [37] w4).store hx4 (Nat.le_refl _) (by simp) _).below hz4)
             have HO5 := hid (((Kept.refl wr.heap.size [37] w4).store hx4 (Nat.le_refl _) (by simp) (i := 2) (.slice A1 f.text.length tc1)).own ho4 (by decide))
             clear ho4 hg4 hb4 hx4 hb4'))
        | (at_builtin
           (
             refine wpList_app _ rfl (.tmp 17) (.tmp 19) 35 rfl w.heap.size 9 i9 _ 1 16 Tryd.underlying35 hi9 hz9 hz91 hz92 rfl (by decide) _ 0 0 [] rfl (lit_own (by simp [World.setCell]; omega) (by simp [World.setCell])) w.heap.size lA f.list.length lc (sv f.list) rfl (by simp [sv]) ?g2 (sv_one _) ?g3 ?g4 ?g5 ?_
             case g2 => exact (HLL.out.below (HB5.out.mono (by omega))).alloc (by simp [World.setCell]; omega) _
             case g3 => unfold maxLen; omega
             case g4 => omega
             case g5 => simp [World.setCell]; omega
             intro A2 lc1 w6 ho6 hg6
             simp only [Nat.zero_add, List.nil_append] at ho6 ⊢
             have hb6 := lit_grown (by simp [World.setCell]) hg6
             have hx6 := box_below HXS.out hb6
             have f63 : w6.frozen? ⟨wr.heap.size, 3, none⟩ = false := hx6.frozen 3
             have c63 : w6.cell? ⟨wr.heap.size, 3, none⟩ = some (.slice lA f.list.length lc) := hx6.cell 3
             have hx7 := hx6.store 3 (.slice A2 f.list.length lc1)
             have c70 : (w6.setCell ⟨wr.heap.size, 3, none⟩ (.slice A2 f.list.length lc1)).cell? ⟨wr.heap.size, 0, none⟩ = some (.int .i64 f.kind) := hx7.cell 0
             have c71 : (w6.setCell ⟨wr.heap.size, 3, none⟩ (.slice A2 f.list.length lc1)).cell? ⟨wr.heap.size, 1, none⟩ = some (.int .u32 f.n) := hx7.cell 1
             have c72 : (w6.setCell ⟨wr.heap.size, 3, none⟩ (.slice A2 f.list.length lc1)).cell? ⟨wr.heap.size, 2, none⟩ = some (.slice A1 f.text.length tc1) := hx7.cell 2
             have c73 : (w6.setCell ⟨wr.heap.size, 3, none⟩ (.slice A2 f.list.length lc1)).cell? ⟨wr.heap.size, 3, none⟩ = some (.slice A2 f.list.length lc1) := hx7.cell 3
             have hb6' : Below wr.heap.size wr w6 := HB5.out.trans (hb6.mono (by simp [World.setCell]; omega))
             have hz6 : wr.heap.size ≤ w6.heap.size := hb6'.size
             have HB6 := hid hb6'
             have HX6 := hid hx6
             have HO1 := hid (own_keep HO5.out hb6)
             have HO2 := hid ho6
             have HB7 := hid (fun o => hb6'.trans ((kept_st hx6 wr.heap.size 3 (Nat.le_refl _) (.slice A2 f.list.length lc1) o).below hz6))
             clear ho6 hg6 hb6 hx6 hx7 hb6'))
        | (at_builtin
           (
             have hl7 := lit_lies (w6.setCell ⟨wr.heap.size, 3, none⟩ (.slice A2 f.list.length lc1)) #[Value.int .i64 f.kind, .int .u32 f.n, .slice A1 f.text.length tc1, .slice A2 f.list.length lc1] 37 (0, 0) w6.heap.size (by simp [World.setCell])
             have hr7 := own_keep HRO.out (HB7.out (.cells #[Value.int .i64 f.kind, .int .u32 f.n, .slice A1 f.text.length tc1, .slice A2 f.list.length lc1] 37))
             refine wpList_app _ rfl (.tmp 22) (.tmp 24) 22 rfl w.heap.size 37 i0 _ 4 64 Tryd.underlying22 hi0 hz0 hz1 hz2 rfl (by decide) A' k c' cs ?a1 ?a2 ?aB ?aA 1 1 ?an ?a3 ?a4 ?a5 ?a6 ?g3 ?g4 ?g5 ?_
             case aB => exact w6.heap.size + 1
             case aA => exact some ⟨w6.heap.size, 0, none⟩
             case an => exact (#[Value.int .i64 f.kind, .int .u32 f.n, .slice A1 f.text.length tc1, .slice A2 f.list.length lc1] : Array Value).toList
             case a1 => rfl
             case a2 => exact hr7
             case a5 => exact hl7
             case a3 => rfl
             case a4 => rfl
             case a6 => exact one4 _ _ _ _ _ _ _ _
             case g3 => unfold maxLen; omega
             case g4 => omega
             case g5 => simp [World.setCell]; omega
             intro A8 c8 w8 ho8 hg8
             have HFIN := hid (copy_fin HBW.out HRO.out HFL.out HB6.out HX6.out (Nat.le_refl _) HO1.out HO2.out hg8)
             have HO8 := hid ho8
             clear ho8 hg8)))
      go_roundw
      case rel =>
        obtain ⟨q1, q2⟩ := HFIN.out
        exact ⟨k + 1, A8, c8, _, by omega, by go_num, rfl, HO8.out, by rw [HT.out]; exact q1, q2⟩
      case measure => simp [intOf]; omega
    · have hd : l.take k = l := List.take_of_length_le (by omega)
      have hk' : k = l.length := by omega
      subst hk'
      rw [hd] at HFL
      go_wp2
      go_ret
      exact ⟨_, _, _, rfl, HRO.out, HFL.out, HBW.out⟩
end Go.Proofs.YtoedhblihodgdaaDoor
