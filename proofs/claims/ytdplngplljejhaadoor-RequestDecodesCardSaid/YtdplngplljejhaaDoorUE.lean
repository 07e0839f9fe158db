import Derived.Test.YtdplngplljejhaaDoorQP
import Derived.Test.YtdplngplljejhaaDoorTB
import Derived.Test.YtdplngplljejhaaDoorQM
namespace Go.Proofs.YtdplngplljejhaaDoor
open Go.RowKit

def namesVq : Array Value := #[.string ⟨#[]⟩, .string ⟨#[112, 116, 121, 45, 114, 101, 113]⟩, .string ⟨#[101, 110, 118]⟩, .string ⟨#[115, 104, 101, 108, 108]⟩, .string ⟨#[101, 120, 101, 99]⟩, .string ⟨#[115, 117, 98, 115, 121, 115, 116, 101, 109]⟩, .string ⟨#[119, 105, 110, 100, 111, 119, 45, 99, 104, 97, 110, 103, 101]⟩, .string ⟨#[120, 111, 110, 45, 120, 111, 102, 102]⟩, .string ⟨#[115, 105, 103, 110, 97, 108]⟩, .string ⟨#[101, 120, 105, 116, 45, 115, 116, 97, 116, 117, 115]⟩, .string ⟨#[101, 120, 105, 116, 45, 115, 105, 103, 110, 97, 108]⟩]
set_option maxHeartbeats 1000000 in
set_option maxRecDepth 100000 in
theorem qname_pty (w : World) : Calls Tryd.prog 23 #[.int .i64 1] w fun e w' => e = .returned (.tuple #[.string Rw.pty.name, .bool true]) ∧ w = w' := by
  go_enter Tryd.func23, Tryd.ntmps23
  go_wp2_with (first
    | (refine wpList_build_at rfl 116 _ rfl namesVq ?hc ?_; case hc => kernel_rfl)
    | (refine wpList_index_at rfl 116 _ _ rfl (.string Rw.pty.name) ?hd ?_; case hd => kernel_rfl))
  go_ret2
  exact ⟨rfl, rfl⟩
set_option maxHeartbeats 1000000 in
set_option maxRecDepth 100000 in
theorem qname_env (w : World) : Calls Tryd.prog 23 #[.int .i64 2] w fun e w' => e = .returned (.tuple #[.string Rw.env.name, .bool true]) ∧ w = w' := by
  go_enter Tryd.func23, Tryd.ntmps23
  go_wp2_with (first
    | (refine wpList_build_at rfl 116 _ rfl namesVq ?hc ?_; case hc => kernel_rfl)
    | (refine wpList_index_at rfl 116 _ _ rfl (.string Rw.env.name) ?hd ?_; case hd => kernel_rfl))
  go_ret2
  exact ⟨rfl, rfl⟩
set_option maxHeartbeats 1000000 in
set_option maxRecDepth 100000 in
theorem qname_shell (w : World) : Calls Tryd.prog 23 #[.int .i64 3] w fun e w' => e = .returned (.tuple #[.string Rw.shell.name, .bool true]) ∧ w = w' := by
  go_enter Tryd.func23, Tryd.ntmps23
  go_wp2_with (first
    | (refine wpList_build_at rfl 116 _ rfl namesVq ?hc ?_; case hc => kernel_rfl)
    | (refine wpList_index_at rfl 116 _ _ rfl (.string Rw.shell.name) ?hd ?_; case hd => kernel_rfl))
  go_ret2
  exact ⟨rfl, rfl⟩
set_option maxHeartbeats 1000000 in
set_option maxRecDepth 100000 in
theorem qname_exec (w : World) : Calls Tryd.prog 23 #[.int .i64 4] w fun e w' => e = .returned (.tuple #[.string Rw.exec.name, .bool true]) ∧ w = w' := by
  go_enter Tryd.func23, Tryd.ntmps23
  go_wp2_with (first
    | (refine wpList_build_at rfl 116 _ rfl namesVq ?hc ?_; case hc => kernel_rfl)
    | (refine wpList_index_at rfl 116 _ _ rfl (.string Rw.exec.name) ?hd ?_; case hd => kernel_rfl))
  go_ret2
  exact ⟨rfl, rfl⟩
set_option maxHeartbeats 1000000 in
set_option maxRecDepth 100000 in
theorem qname_subsystem (w : World) : Calls Tryd.prog 23 #[.int .i64 5] w fun e w' => e = .returned (.tuple #[.string Rw.subsystem.name, .bool true]) ∧ w = w' := by
  go_enter Tryd.func23, Tryd.ntmps23
  go_wp2_with (first
    | (refine wpList_build_at rfl 116 _ rfl namesVq ?hc ?_; case hc => kernel_rfl)
    | (refine wpList_index_at rfl 116 _ _ rfl (.string Rw.subsystem.name) ?hd ?_; case hd => kernel_rfl))
  go_ret2
  exact ⟨rfl, rfl⟩
set_option maxHeartbeats 1000000 in
set_option maxRecDepth 100000 in
theorem qname_change (w : World) : Calls Tryd.prog 23 #[.int .i64 6] w fun e w' => e = .returned (.tuple #[.string Rw.change.name, .bool true]) ∧ w = w' := by
  go_enter Tryd.func23, Tryd.ntmps23
  go_wp2_with (first
    | (refine wpList_build_at rfl 116 _ rfl namesVq ?hc ?_; case hc => kernel_rfl)
    | (refine wpList_index_at rfl 116 _ _ rfl (.string Rw.change.name) ?hd ?_; case hd => kernel_rfl))
  go_ret2
  exact ⟨rfl, rfl⟩
set_option maxHeartbeats 1000000 in
set_option maxRecDepth 100000 in
theorem qname_xon (w : World) : Calls Tryd.prog 23 #[.int .i64 7] w fun e w' => e = .returned (.tuple #[.string Rw.xon.name, .bool true]) ∧ w = w' := by
  go_enter Tryd.func23, Tryd.ntmps23
  go_wp2_with (first
    | (refine wpList_build_at rfl 116 _ rfl namesVq ?hc ?_; case hc => kernel_rfl)
    | (refine wpList_index_at rfl 116 _ _ rfl (.string Rw.xon.name) ?hd ?_; case hd => kernel_rfl))
  go_ret2
  exact ⟨rfl, rfl⟩
set_option maxHeartbeats 1000000 in
set_option maxRecDepth 100000 in
theorem qname_signal (w : World) : Calls Tryd.prog 23 #[.int .i64 8] w fun e w' => e = .returned (.tuple #[.string Rw.signal.name, .bool true]) ∧ w = w' := by
  go_enter Tryd.func23, Tryd.ntmps23
  go_wp2_with (first
    | (refine wpList_build_at rfl 116 _ rfl namesVq ?hc ?_; case hc => kernel_rfl)
    | (refine wpList_index_at rfl 116 _ _ rfl (.string Rw.signal.name) ?hd ?_; case hd => kernel_rfl))
  go_ret2
  exact ⟨rfl, rfl⟩
set_option maxHeartbeats 1000000 in
set_option maxRecDepth 100000 in
theorem qname_status (w : World) : Calls Tryd.prog 23 #[.int .i64 9] w fun e w' => e = .returned (.tuple #[.string Rw.status.name, .bool true]) ∧ w = w' := by
  go_enter Tryd.func23, Tryd.ntmps23
  go_wp2_with (first
    | (refine wpList_build_at rfl 116 _ rfl namesVq ?hc ?_; case hc => kernel_rfl)
    | (refine wpList_index_at rfl 116 _ _ rfl (.string Rw.status.name) ?hd ?_; case hd => kernel_rfl))
  go_ret2
  exact ⟨rfl, rfl⟩
set_option maxHeartbeats 1000000 in
set_option maxRecDepth 100000 in
theorem qname_ends (w : World) : Calls Tryd.prog 23 #[.int .i64 10] w fun e w' => e = .returned (.tuple #[.string Rw.ends.name, .bool true]) ∧ w = w' := by
  go_enter Tryd.func23, Tryd.ntmps23
  go_wp2_with (first
    | (refine wpList_build_at rfl 116 _ rfl namesVq ?hc ?_; case hc => kernel_rfl)
    | (refine wpList_index_at rfl 116 _ _ rfl (.string Rw.ends.name) ?hd ?_; case hd => kernel_rfl))
  go_ret2
  exact ⟨rfl, rfl⟩
theorem qname_any (k : Rw) (w : World) : Calls Tryd.prog 23 #[.int .i64 k.kind] w fun e w' => e = .returned (.tuple #[.string k.name, .bool true]) ∧ w = w' := by
  cases k
  · exact qname_pty w
  · exact qname_env w
  · exact qname_shell w
  · exact qname_exec w
  · exact qname_subsystem w
  · exact qname_change w
  · exact qname_xon w
  · exact qname_signal w
  · exact qname_status w
  · exact qname_ends w

theorem flatK_one {w : World} {base : Nat} : ∀ (fs : List Fd) (cs : List Value), FlatK w base fs cs → ∀ u ∈ cs, u.oneCell' = true
  | [], _, h => by
    have h : _ = [] := h
    subst h
    simp
  | _ :: fs, _, ⟨tA', tc', r, e, _, _, g3⟩ => by
    subst e
    intro u hu
    simp only [List.mem_cons] at hu
    rcases hu with rfl | rfl | rfl | rfl | hu
    · rfl
    · rfl
    · rfl
    · rfl
    · exact flatK_one fs r g3 u hu
theorem flatK_nil {w w' : World} {base base' : Nat} : ∀ (fs : List Fd) (cs : List Value), (∀ f ∈ fs, f.text = []) → FlatK w base fs cs → FlatK w' base' fs cs
  | [], _, _, h => h
  | f :: fs, _, ht, ⟨tA', tc', r, e, g1, g2, g3⟩ => ⟨tA', tc', r, e, g1, ⟨g2.1, g2.2.1, fun hn => absurd (ht f (by simp)) hn⟩, flatK_nil fs r (fun f hf => ht f (by simp [hf])) g3⟩
theorem qlit_own {W : World} {g base : Nat} {a b c d : Value} (h : Hid (Box W g 80 #[a, b, c, d])) (hg : base ≤ g) : W.ownsRow base 80 4 (.slice (some ⟨g, 0, none⟩) 1 1) 1 [a, b, c, d] :=
  ⟨rfl, .inr ⟨g, 1, _, rfl, hg, h.out, Nat.le_refl _, by unfold maxLen; omega, rfl, rfl⟩⟩
theorem qlit_lies {W : World} {g : Nat} {a b c d : Value} (h : Hid (Box W g 80 #[a, b, c, d])) : Lies W (g + 1) (some ⟨g, 0, none⟩) [a, b, c, d] := fun _ =>
  ⟨g, 0, rfl, by omega, fun j u hu => by rw [Nat.zero_add, h.out.cell]; simpa using hu⟩
theorem box_grow {W w' : World} {g : Nat} {t : TypeId} {cs : Array Value} {row : Option Nat} (h : Hid (Box W g t cs)) (hg : W.grownBy w' row) (hne : some g ≠ row) : Hid (Box w' g t cs) := h.out.same (hg.block g h.out.lt hne)
theorem box_new1 (w : World) (o : Obj) (t : TypeId) (cs : Array Value) : Hid (Box ((w.alloc o).alloc (.cells cs t)) (w.heap.size + 1) t cs) := by
  have h := Box.new (w.alloc o) t cs
  have e : (w.alloc o).heap.size = w.heap.size + 1 := by simp
  rw [e] at h
  exact h
theorem grown_lo {W w' : World} {base L n c : Nat} (hg : W.grownBy w' (Value.slice (some ⟨L, 0, none⟩) n c).ownBlock) (hL : base ≤ L) (hb : base ≤ W.heap.size) : Below base W w' :=
  ⟨hg.os, hg.tape, hg.output, hg.size, fun b hb2 => hg.block b (by omega) (fun e => by simp [Value.ownBlock] at e; omega)⟩
theorem grown_own {W w' : World} {base : Nat} {e : TypeId} {size n : Nat} {v : Value} {xs : List Value} (hg : W.grownBy w' v.ownBlock) (ho : W.ownsRow base e size v n xs) (hb : base ≤ W.heap.size) : Below base W w' :=
  ⟨hg.os, hg.tape, hg.output, hg.size, fun b hb2 => hg.block b (by omega) (fun e => by have := (ho.lt b e.symm).1; omega)⟩

theorem tk_up {w w' : World} {base c : Nat} {A : Option Addr} {bs : List UInt8} (h : Hid (TK w 0 A c bs)) (hb : Hid (Below w.heap.size w w')) : TK w' base A c bs :=
  ⟨(h.out.below hb.out).1, (h.out.below hb.out).2.1, fun hn => by obtain ⟨b, o, e, h1, h2, h3⟩ := (h.out.below hb.out).2.2 hn; exact ⟨b, o, e, h1, h2.imp (fun x => by omega) id, h3⟩⟩

theorem qS {u : World} {g : Nat} {c0 c1 c2 c3 c4 c5 c6 c7 c8 c9 c10 : Value} (h : Hid (Box u g 28 #[c0, c1, c2, c3, c4, c5, c6, c7, c8, c9, c10])) : u.cell? ⟨g, 1, none⟩ = some c1 ∧ u.cell? ⟨g, 4, none⟩ = some c4 ∧ u.cell? ⟨g, 5, none⟩ = some c5 ∧ u.cell? ⟨g, 6, none⟩ = some c6 ∧ u.cell? ⟨g, 7, none⟩ = some c7 ∧ u.cell? ⟨g, 8, none⟩ = some c8 :=
  ⟨h.out.cell 1, h.out.cell 4, h.out.cell 5, h.out.cell 6, h.out.cell 7, h.out.cell 8⟩
set_option maxHeartbeats 40000000 in
set_option maxRecDepth 100000 in
theorem qfields_pty (base co ro wi he cd n c tl : Nat) (tx va la : ByteArray) (modes : List UInt8) (on : Bool) (A : Option Addr) (w : World) (hb : base ≤ w.heap.size) (hn : tx.data.toList.length = tl) (hs : tx.size ≤ maxLen) (hm : modes.length = n) (hd : Hid (TK w base A c modes)) :
    Calls Tryd.prog 24 #[.agg #[.int .i64 1, .string tx, .string va, .string la, .int .u32 co, .int .u32 ro, .int .u32 wi, .int .u32 he, .slice A n c, .bool on, .int .u32 cd]] w fun e w' => Hid (Below w.heap.size w w') ∧ ∃ A' c', e = .returned (.slice A' 6 c') ∧ Hid (6 ≤ c' ∧ c' ≤ maxLen ∧ ∃ cs, Lies w' w'.heap.size A' cs ∧ FlatK w' base [⟨4, 0, tx.data.toList, []⟩, ⟨3, co, [], []⟩, ⟨3, ro, [], []⟩, ⟨3, wi, [], []⟩, ⟨3, he, [], []⟩, ⟨4, 0, modes, []⟩] cs) := by
  have HX0 : Hid (Box (w.alloc (.cells #[.int .i64 1, .string tx, .string va, .string la, .int .u32 co, .int .u32 ro, .int .u32 wi, .int .u32 he, .slice A n c, .bool on, .int .u32 cd] 28)) w.heap.size 28 #[.int .i64 1, .string tx, .string va, .string la, .int .u32 co, .int .u32 ro, .int .u32 wi, .int .u32 he, .slice A n c, .bool on, .int .u32 cd]) := hid (Box.new w 28 _)
  have HB0 : Hid (Below w.heap.size w (w.alloc (.cells #[.int .i64 1, .string tx, .string va, .string la, .int .u32 co, .int .u32 ro, .int .u32 wi, .int .u32 he, .slice A n c, .bool on, .int .u32 cd] 28))) := bel1 w _
  obtain ⟨i0, hi0, hz0, hz1, hz2⟩ := info_parts Tryd.info83
  go_enter Tryd.func24, Tryd.ntmps24
  go_wp2
  generalize hW : w.alloc _ = u0 at HX0 HB0
  have HW := hid hW
  clear hW
  have HXd : Hid (Box u0.drew w.heap.size 28 #[.int .i64 1, .string tx, .string va, .string la, .int .u32 co, .int .u32 ro, .int .u32 wi, .int .u32 he, .slice A n c, .bool on, .int .u32 cd]) := HX0
  have HBD : Hid (Below u0.heap.size u0 u0.drew) := (Below.refl _ _).drew
  have HSd := qS HXd
  go_region_held3 (fun u => u.cell? ⟨w.heap.size, 1, none⟩ = some (.string tx) ∧ u.cell? ⟨w.heap.size, 4, none⟩ = some (.int .u32 co) ∧ u.cell? ⟨w.heap.size, 5, none⟩ = some (.int .u32 ro) ∧ u.cell? ⟨w.heap.size, 6, none⟩ = some (.int .u32 wi) ∧ u.cell? ⟨w.heap.size, 7, none⟩ = some (.int .u32 he) ∧ u.cell? ⟨w.heap.size, 8, none⟩ = some (.slice A n c)) (first | exact HSd | exact qS HX4 | exact qS HX3 | exact qS HX2 | exact qS HX1 | exact qS (qm_box_a HX3 _) | exact qS (qm_box_a HX2 _) | exact qS (qm_box_a (qm_box_a HX2 _) _) | exact qS (qm_box_a HX1 _) | exact qS (qm_box_a (qm_box_a HX1 _) _) | exact qS (qm_box_a HXd _)) ((first
    | (go_at_call 37
       (refine (qmade_text 0 tl tx _ hn hs (Nat.zero_le _)).mono ?_)
       rintro e u1 ⟨tA1, tc1, rfl, HB1, HT1⟩
       have HX1 : Hid (Box u1 w.heap.size 28 #[.int .i64 1, .string tx, .string va, .string la, .int .u32 co, .int .u32 ro, .int .u32 wi, .int .u32 he, .slice A n c, .bool on, .int .u32 cd]) := by first | exact qm_box_p HXd HB1 | exact qm_box_p (qm_box_a HXd _) HB1
       have HBu1 : Hid (Below u0.heap.size u0 u1) := by first | exact bel_trans HBD HB1 | exact bel_trans (hid (HBD.out.alloc HBD.out.size _)) HB1
       try have HMa : Hid (Box u1 u0.heap.size 80 #[.int .i64 4, .int .u32 0, .slice A n c, .slice none 0 0]) := qm_box_p (hid (Box.new u0.drew 80 _)) HB1
       skip)
    | (go_at_call 38
       (refine (qsize_any 0 co ro wi he _ (Nat.zero_le _)).mono ?_)
       rintro e u2 ⟨HB2, A2, rfl, HC2⟩
       obtain ⟨cs2, hl2, hf2⟩ := HC2.out
       have HL2 := hid hl2
       have HF2 := hid hf2
       clear hl2 hf2
       have HB12 : Hid (Below u1.heap.size u1 u2) := by first | exact HB2 | exact bel_trans (hid (bel1 u1 _)) HB2 | exact bel_trans (hid (bel2 u1 _ _)) HB2
       have HX2 := qm_box_p HX1 HB12
       have hz12 := HB12.out.size
       try have HLa : Hid (Box u2 u1.heap.size 80 #[.int .i64 4, .int .u32 0, .slice tA1 tl tc1, .slice none 0 0]) := qm_box_p (hid (Box.new u1 80 _)) HB2
       try have HLa : Hid (Box u2 u1.heap.size 80 #[.int .i64 4, .int .u32 0, .slice tA1 tl tc1, .slice none 0 0]) := qm_box_p (qm_box_a (hid (Box.new u1 80 #[.int .i64 4, .int .u32 0, .slice tA1 tl tc1, .slice none 0 0])) _) HB2
       try have HLb : Hid (Box u2 (u1.heap.size + 1) 80 #[.int .i64 4, .int .u32 0, .slice tA1 tl tc1, .slice none 0 0]) := qm_box_p (box_new1 u1 _ 80 #[.int .i64 4, .int .u32 0, .slice tA1 tl tc1, .slice none 0 0]) HB2
       try have HMb : Hid (Box u2 u1.heap.size 80 #[.int .i64 4, .int .u32 0, .slice A n c, .slice none 0 0]) := qm_box_p (hid (Box.new u1 80 _)) HB2
       try have HMb : Hid (Box u2 u1.heap.size 80 #[.int .i64 4, .int .u32 0, .slice A n c, .slice none 0 0]) := qm_box_p (qm_box_a (hid (Box.new u1 80 #[.int .i64 4, .int .u32 0, .slice A n c, .slice none 0 0])) _) HB2
       try have HMc : Hid (Box u2 (u1.heap.size + 1) 80 #[.int .i64 4, .int .u32 0, .slice A n c, .slice none 0 0]) := qm_box_p (box_new1 u1 _ 80 #[.int .i64 4, .int .u32 0, .slice A n c, .slice none 0 0]) HB2
       skip)
    | (refine step_app _ rfl (.tmp 10) (.tmp 13) 63 rfl u1.heap.size 80 i0 _ 4 64 Tryd.underlying63 hi0 hz0 hz1 hz2 rfl (by decide) (some ⟨_, 0, none⟩) 1 1 [.int .i64 4, .int .u32 0, .slice tA1 tl tc1, .slice none 0 0] rfl ?own1 u2.heap.size A2 4 4 cs2 rfl ?len1 ?lies1 ?one1 (by unfold maxLen; omega) (by omega) ?base1 ?_
       case own1 => first
         | exact qlit_own HLa (Nat.le_refl _)
         | exact qlit_own HLb (by omega)
         | exact qlit_own (qm_box_a HLa _) (Nat.le_refl _)
         | exact qlit_own (qm_box_a HLb _) (by omega)
         | exact qlit_own (hid (Box.new u2 80 _)) hz12
         | exact qlit_own (qm_box_a (hid (Box.new u2 80 _)) _) hz12
         | exact qlit_own (box_new1 u2 _ 80 _) (by omega)
       case len1 => have := FlatK.length _ _ HF2.out; simpa using this
       case lies1 => first
         | exact HL2.out
         | exact HL2.out.alloc (Nat.le_refl _) _
         | exact HL2.out.below (bel2 u2 _ _)
       case one1 => exact flatK_one _ _ HF2.out
       case base1 => first | exact hz12 | (simp; omega)
       intro A3 c3 w3 ho3 hg3
       have HO3 : Hid (w3.ownsRow u1.heap.size 80 4 (.slice A3 5 c3) 5 ([.int .i64 4, .int .u32 0, .slice tA1 tl tc1, .slice none 0 0] ++ cs2)) := ho3
       have HB13 : Hid (Below u1.heap.size u1 w3) := by first
         | exact hid (HB12.out.trans (grown_lo hg3 (by omega) (by omega)))
         | exact hid ((HB12.out.alloc hz12 _).trans (grown_lo hg3 (by omega) (by simp; omega)))
         | exact hid (((HB12.out.alloc hz12 _).alloc (by simp; omega) _).trans (grown_lo hg3 (by omega) (by simp; omega)))
       have HX3 := qm_box_p HX1 HB13
       have hz13 := HB13.out.size
       try have HM3 := box_grow HMb hg3 (by simp [Value.ownBlock])
       try have HM3 := box_grow HMc hg3 (by simp [Value.ownBlock])
       try have HM3 := box_grow (qm_box_a HMb _) hg3 (by have := HMb.out.lt; simp [Value.ownBlock]; omega)
       try have HM3 : Hid (Box w3 u2.heap.size 80 #[.int .i64 4, .int .u32 0, .slice A n c, .slice none 0 0]) := box_grow (hid (Box.new u2 80 _)) hg3 (by first | (have := HLa.out.lt; simp [Value.ownBlock]; omega) | (have := HLb.out.lt; simp [Value.ownBlock]; omega))
       try have HM3 : Hid (Box w3 u2.heap.size 80 #[.int .i64 4, .int .u32 0, .slice A n c, .slice none 0 0]) := box_grow (qm_box_a (hid (Box.new u2 80 _)) _) hg3 (by simp [Value.ownBlock])
       try have HM3 : Hid (Box w3 (u2.heap.size + 1) 80 #[.int .i64 4, .int .u32 0, .slice A n c, .slice none 0 0]) := box_grow (box_new1 u2 _ 80 _) hg3 (by simp [Value.ownBlock])
       try have HM3 := qm_box_p HMa HB13
       clear ho3 hg3
       skip)
    | (refine step_app _ rfl (.tmp 14) (.tmp 18) 63 rfl u1.heap.size 80 i0 _ 4 64 Tryd.underlying63 hi0 hz0 hz1 hz2 rfl (by decide) A3 5 c3 ([.int .i64 4, .int .u32 0, .slice tA1 tl tc1, .slice none 0 0] ++ cs2) rfl ?own2 (w3.heap.size + 2) (some ⟨_, 0, none⟩) 1 1 [.int .i64 4, .int .u32 0, .slice A n c, .slice none 0 0] rfl rfl ?lies2 ?one2 (by unfold maxLen; omega) (by omega) ?base2 ?_
       case own2 => first | exact HO3.out | exact HO3.out.alloc (.cells #[.int .i64 4, .int .u32 0, .slice A n c, .slice none 0 0] 80)
       case lies2 => first | exact (qlit_lies HM3).more (by have := HM3.out.lt; omega) | exact (qlit_lies (hid (Box.new w3 80 #[.int .i64 4, .int .u32 0, .slice A n c, .slice none 0 0]))).more (by omega)
       case one2 => intro u hu; simp at hu; rcases hu with rfl | rfl | rfl | rfl <;> rfl
       case base2 => first | exact hz13 | (simp; omega)
       intro A4 c4 w4 ho4 hg4
       have HB14 : Hid (Below u1.heap.size u1 w4) := by first
         | exact hid (HB13.out.trans (grown_own hg4 HO3.out hz13))
         | exact hid ((HB13.out.alloc hz13 _).trans (grown_own hg4 (HO3.out.alloc _) (by simp; omega)))
       have HO4 : Hid (w4.ownsRow u1.heap.size 80 4 (.slice A4 6 c4) 6 (([.int .i64 4, .int .u32 0, .slice tA1 tl tc1, .slice none 0 0] ++ cs2) ++ [.int .i64 4, .int .u32 0, .slice A n c, .slice none 0 0])) := ho4
       have HX4 := qm_box_p HX1 HB14
       clear ho4 hg4)))
  all_goals
    go_wp2
    go_ret
    subst hn
    subst hm
    have hcap := own_caps HO4.out
    exact ⟨bel_trans (bel_trans HB0 HBu1) HB14, A4, c4, rfl, hcap.1, hcap.2, _, Lies.own HO4.out, tA1, tc1, _, rfl, rfl, tk_up HT1 HB14,
      FlatK.snoc (hd.out.below (bel_trans (bel_trans HB0 HBu1) HB14).out) rfl [⟨3, co, [], []⟩, ⟨3, ro, [], []⟩, ⟨3, wi, [], []⟩, ⟨3, he, [], []⟩] _ (flatK_nil _ _ (by intro f hf; simp at hf; rcases hf with rfl | rfl | rfl | rfl <;> rfl) HF2.out)⟩

theorem lies_fds {w : World} {base : Nat} {A : Option Addr} {fs : List Fd} {cs : List Value} (ho : Lies w w.heap.size A cs) (hf : FlatK w base fs cs) (hw : ∀ f ∈ fs, Wf f) : Hid (FdsV w w.heap.size A fs) := fun hne => by
  have hl := hf.length
  have h0 : cs ≠ [] := by
    intro e
    rw [e] at hl
    have : fs.length ≠ 0 := fun h => hne (List.eq_nil_of_length_eq_zero h)
    simp at hl; omega
  obtain ⟨b, o, rfl, hb, hc⟩ := ho h0
  refine ⟨b, o, rfl, hb, fun k hk => ?_⟩
  obtain ⟨tA, tc, g0, g1, g2, g3, g4, g5⟩ := flatK_at fs cs hf k hk
  obtain ⟨w1, w2, w3⟩ := hw fs[k] (List.getElem_mem hk)
  have e0 : fs[k].list.length = 0 := by rw [g4]; rfl
  refine ⟨tA, tc, none, 0, ⟨tA, tc, none, 0, rfl, w1, w2, Nat.le_trans g5.1 g5.2.1, by rw [e0]; exact Nat.zero_le _, ⟨g5.1, by rw [e0]; exact Nat.le_refl _⟩, g5.lies, by rw [g4]; exact Lies.nil_, w3⟩, hc _ _ g0, ?_, ?_, ?_⟩
  · rw [Nat.add_assoc]; exact hc _ _ g1
  · rw [Nat.add_assoc]; exact hc _ _ g2
  · rw [Nat.add_assoc, e0]; exact hc _ _ g3

set_option maxHeartbeats 2000000 in
theorem qfields_any (k : Rw) (r : Rq) (A : Option Addr) (c n : Nat) (kd : Int) (base : Nat) (w : World) (hk : kd = k.kind) (hn : r.modes.length = n) (hr : r.Ok) (s1 : r.text.size ≤ maxLen) (s2 : r.value.size ≤ maxLen) (s3 : r.lang.size ≤ maxLen) (hd : Hid (TK w base A c r.modes)) (hb : base ≤ w.heap.size) :
    Calls Tryd.prog 24 #[.agg #[.int .i64 kd, .string r.text, .string r.value, .string r.lang, .int .u32 r.cols, .int .u32 r.rows, .int .u32 r.width, .int .u32 r.height, .slice A n c, .bool r.on, .int .u32 r.code]] w fun e w' => ∃ A' c', e = .returned (.slice A' (k.put r .zero).fs.length c') ∧ Hid (FdsV w' w'.heap.size A' (k.put r .zero).fs) ∧ Hid (Below w.heap.size w w') := by
  subst hk
  cases k
  · refine (qfields_pty base r.cols r.rows r.width r.height r.code n c _ r.text r.value r.lang r.modes r.on A w hb rfl s1 hn hd).mono ?_
    rintro e w' ⟨hb2, A', c', rfl, hcs⟩
    obtain ⟨_, _, cs, hl, hf⟩ := hcs.out
    exact ⟨A', c', rfl, lies_fds hl hf (put_wf .pty hr), hb2⟩
  · refine (qfields_env base r.cols r.rows r.width r.height r.code n c _ _ _ _ r.text r.value r.lang r.on A w hb rfl rfl rfl rfl s1 s2 s3).mono ?_
    rintro e w' ⟨hb2, A', rfl, hcs⟩
    obtain ⟨cs, hl, hf⟩ := hcs.out
    exact ⟨A', 2, rfl, lies_fds hl hf (put_wf .env hr), hb2⟩
  · refine (qfields_shell base r.cols r.rows r.width r.height r.code n c r.text r.value r.lang r.on A w hb s1).mono ?_
    rintro e w' ⟨hb2, rfl⟩
    exact ⟨none, 0, rfl, fun h => absurd rfl h, hb2⟩
  · refine (qfields_exec base r.cols r.rows r.width r.height r.code n c r.text r.value r.lang r.on A w hb s1).mono ?_
    rintro e w' ⟨hb2, A', rfl, hcs⟩
    obtain ⟨cs, hl, hf⟩ := hcs.out
    exact ⟨A', 1, rfl, lies_fds hl hf (put_wf .exec hr), hb2⟩
  · refine (qfields_subsystem base r.cols r.rows r.width r.height r.code n c r.text r.value r.lang r.on A w hb s1).mono ?_
    rintro e w' ⟨hb2, A', rfl, hcs⟩
    obtain ⟨cs, hl, hf⟩ := hcs.out
    exact ⟨A', 1, rfl, lies_fds hl hf (put_wf .subsystem hr), hb2⟩
  · refine (qfields_change base r.cols r.rows r.width r.height r.code n c r.text r.value r.lang r.on A w hb s1).mono ?_
    rintro e w' ⟨hb2, A', rfl, hcs⟩
    obtain ⟨cs, hl, hf⟩ := hcs.out
    exact ⟨A', 4, rfl, lies_fds hl hf (put_wf .change hr), hb2⟩
  · have hwf := put_wf .xon hr
    cases hon : r.on with
    | true =>
      have e2 : (Rw.put r .zero .xon).fs = [⟨2, 1, [], []⟩] := by
        have h : (Rw.put r .zero .xon).fs = [⟨2, if r.on then 1 else 0, [], []⟩] := rfl
        rw [h, hon]; rfl
      rw [e2] at hwf ⊢
      refine (qfields_xon_true base r.cols r.rows r.width r.height r.code n c r.text r.value r.lang A w hb s1).mono ?_
      rintro e w' ⟨hb2, A', rfl, hcs⟩
      obtain ⟨cs, hl, hf⟩ := hcs.out
      exact ⟨A', 1, rfl, lies_fds hl hf hwf, hb2⟩
    | false =>
      have e2 : (Rw.put r .zero .xon).fs = [⟨2, 0, [], []⟩] := by
        have h : (Rw.put r .zero .xon).fs = [⟨2, if r.on then 1 else 0, [], []⟩] := rfl
        rw [h, hon]; rfl
      rw [e2] at hwf ⊢
      refine (qfields_xon_false base r.cols r.rows r.width r.height r.code n c r.text r.value r.lang A w hb s1).mono ?_
      rintro e w' ⟨hb2, A', rfl, hcs⟩
      obtain ⟨cs, hl, hf⟩ := hcs.out
      exact ⟨A', 1, rfl, lies_fds hl hf hwf, hb2⟩
  · refine (qfields_signal base r.cols r.rows r.width r.height r.code n c r.text r.value r.lang r.on A w hb s1).mono ?_
    rintro e w' ⟨hb2, A', rfl, hcs⟩
    obtain ⟨cs, hl, hf⟩ := hcs.out
    exact ⟨A', 1, rfl, lies_fds hl hf (put_wf .signal hr), hb2⟩
  · refine (qfields_status base r.cols r.rows r.width r.height r.code n c r.text r.value r.lang r.on A w hb s1).mono ?_
    rintro e w' ⟨hb2, A', rfl, hcs⟩
    obtain ⟨cs, hl, hf⟩ := hcs.out
    exact ⟨A', 1, rfl, lies_fds hl hf (put_wf .status hr), hb2⟩
  · have hwf := put_wf .ends hr
    cases hon : r.on with
    | true =>
      have e2 : (Rw.put r .zero .ends).fs = [⟨4, 0, r.text.data.toList, []⟩, ⟨2, 1, [], []⟩, ⟨4, 0, r.value.data.toList, []⟩, ⟨4, 0, r.lang.data.toList, []⟩] := by
        have h : (Rw.put r .zero .ends).fs = [⟨4, 0, r.text.data.toList, []⟩, ⟨2, if r.on then 1 else 0, [], []⟩, ⟨4, 0, r.value.data.toList, []⟩, ⟨4, 0, r.lang.data.toList, []⟩] := rfl
        rw [h, hon]; rfl
      rw [e2] at hwf ⊢
      refine (qfields_ends_true base r.cols r.rows r.width r.height r.code n c _ _ _ r.text r.value r.lang A w hb rfl rfl rfl s1 s2 s3).mono ?_
      rintro e w' ⟨hb2, A', rfl, hcs⟩
      obtain ⟨cs, hl, hf⟩ := hcs.out
      exact ⟨A', 4, rfl, lies_fds hl hf hwf, hb2⟩
    | false =>
      have e2 : (Rw.put r .zero .ends).fs = [⟨4, 0, r.text.data.toList, []⟩, ⟨2, 0, [], []⟩, ⟨4, 0, r.value.data.toList, []⟩, ⟨4, 0, r.lang.data.toList, []⟩] := by
        have h : (Rw.put r .zero .ends).fs = [⟨4, 0, r.text.data.toList, []⟩, ⟨2, if r.on then 1 else 0, [], []⟩, ⟨4, 0, r.value.data.toList, []⟩, ⟨4, 0, r.lang.data.toList, []⟩] := rfl
        rw [h, hon]; rfl
      rw [e2] at hwf ⊢
      refine (qfields_ends_false base r.cols r.rows r.width r.height r.code n c _ _ _ r.text r.value r.lang A w hb rfl rfl rfl s1 s2 s3).mono ?_
      rintro e w' ⟨hb2, A', rfl, hcs⟩
      obtain ⟨cs, hl, hf⟩ := hcs.out
      exact ⟨A', 4, rfl, lies_fds hl hf hwf, hb2⟩

end Go.Proofs.YtdplngplljejhaaDoor
