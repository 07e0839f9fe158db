import Derived.Test.YtdplngplljejhaaDoorQH
namespace Go.Proofs.YtdplngplljejhaaDoor
open Go.RowKit

theorem run_wfn (k : Rw) : ∀ args w, (callFunc k.wfn args).run Tryd.prog w = .ok (.enter k.wfn args) w := by
  cases k with
  | pty => exact Tryd.call47
  | env => exact Tryd.call49
  | shell => exact Tryd.call51
  | exec => exact Tryd.call53
  | subsystem => exact Tryd.call55
  | change => exact Tryd.call56
  | xon => exact Tryd.call58
  | signal => exact Tryd.call55
  | status => exact Tryd.call60
  | ends => exact Tryd.call62
theorem run_rfn (k : Rw) : ∀ args w, (callFunc k.rfn args).run Tryd.prog w = .ok (.enter k.rfn args) w := by
  cases k with
  | pty => exact Tryd.call48
  | env => exact Tryd.call50
  | shell => exact Tryd.call52
  | exec => exact Tryd.call54
  | subsystem => exact Tryd.call54
  | change => exact Tryd.call57
  | xon => exact Tryd.call59
  | signal => exact Tryd.call54
  | status => exact Tryd.call61
  | ends => exact Tryd.call63
theorem put_any_r (k : Rw) (base g c : Nat) (r : Rq) (A : Option Addr) (s : Ws) (w : World) (hr : r.Ok) (hs : WrS w base g r A c s) (hl : s.fs.length ≤ 20) :
    Calls Tryd.prog k.wfn #[.pointer (some ⟨g, 0, none⟩)] w (PutW base g r A c (k.put r s) w) := by
  cases k with
  | pty => exact putterminal_any base g c r A s w hr hs hl
  | env => exact putvariable_any base g c r A s w hr hs hl
  | shell => exact putnothing_any base g c r A s w hs
  | exec => exact putcommand_any base g c r A s w hr hs hl
  | subsystem => exact putname_any base g c r A s w hr hs (by omega)
  | change => exact putsize_any base g c r A s w hs (by omega)
  | xon => exact puton_any base g c r A s w hs (by omega)
  | signal => exact putname_any base g c r A s w hr hs (by omega)
  | status => exact putcode_any base g c r A s w hs hl
  | ends => exact putend_any base g c r A s w hr hs hl

set_option maxHeartbeats 800000 in
set_option maxRecDepth 100000 in
theorem fault_any_r (base g c : Nat) (r : Rq) (A : Option Addr) (s : Ws) (w : World) (hs : WrS w base g r A c s) :
    Calls Tryd.prog 22 #[.pointer (some ⟨g, 0, none⟩)] w fun e w' => e = .returned (.int .i64 s.fault) ∧ w = w' := by
  have c12 := hs.c12
  have c13 := hs.c13
  clear hs
  obtain ⟨fs, b, l⟩ := s
  simp only at c12 c13
  cases b with
  | true =>
    go_enter Tryd.func22, Tryd.ntmps22
    go_wp2
    go_ret
    exact ⟨rfl, rfl⟩
  | false =>
    cases l with
    | true =>
      go_enter Tryd.func22, Tryd.ntmps22
      go_wp2
      go_ret
      exact ⟨rfl, rfl⟩
    | false =>
      go_enter Tryd.func22, Tryd.ntmps22
      go_wp2
      go_ret
      exact ⟨rfl, rfl⟩

theorem zero_ok : zeroR.Ok := by
  constructor <;> first | (simp [zeroR]; done) | (show (0 : Nat) ≤ maxLen; omega)
/-- A writer of which only the request was set. -/
theorem wr_new (w : World) (base : Nat) (r : Rq) (A : Option Addr) (c : Nat) (hb : base ≤ w.heap.size) (ht : TK w base A c r.modes) : WrS (w.alloc (.cells (r.wcells A c none 0 0 false false) 72)) base w.heap.size r A c .zero :=
  ⟨hb, ht.below ((Below.refl _ _).alloc (Nat.le_refl _) _), none, 0, [], Box.new w 72 _, ⟨rfl, .inl ⟨rfl, rfl⟩⟩, rfl⟩
theorem Tryd.info3r : (Tryd.prog.info? 3).map (fun i => (i.zero, i.size, i.bytes)) = some (some (.int .i64 0), 1, 8) := by kernel_rfl
theorem one1r (k : Int) : ∀ u ∈ [Value.int .i64 k], u.oneCell' = true := by
  intro u hu
  simp only [List.mem_cons, List.mem_nil_iff, or_false] at hu
  subst hu
  rfl
structure FkI (w wr : World) (fs : List Fd) (fA : Option Addr) (fc : Nat) (cs : List Value) (j : Nat) (A' : Option Addr) (c' : Nat) : Prop where
  bel : Below w.heap.size w wr
  fds : wr.ownsRow w.heap.size 80 4 (.slice fA fs.length fc) fs.length cs
  flat : FlatK wr w.heap.size fs cs
  own : wr.ownsRow w.heap.size 3 1 (.slice A' j c') j ((fs.take j).map (fun f => Value.int .i64 f.kind))
theorem FkI.step {w wr w6 : World} {fs : List Fd} {fA : Option Addr} {fc j : Nat} {cs : List Value} {A' A6 : Option Addr} {c' c6 : Nat} {f : Fd} {o1 o2 : Obj} (h : FkI w wr fs fA fc cs j A' c') (hj : j < fs.length) (hf : fs[j] = f)
    (ho : w6.ownsRow w.heap.size 3 1 (.slice A6 (j + 1) c6) (j + 1) ((fs.take j).map (fun f => Value.int .i64 f.kind) ++ [.int .i64 f.kind])) (hg : ((wr.alloc o1).alloc o2).grownBy w6 (Value.slice A' j c').ownBlock) :
    FkI w w6 fs fA fc cs (j + 1) A6 c6 := by
  have k1 : Kept w.heap.size [3] wr ((wr.alloc o1).alloc o2) := ((Kept.refl _ _ _).alloc _).alloc _
  have ho1 := k1.mono (T' := []) (B' := 0) (Nat.zero_le _)
  have hown1 : ((wr.alloc o1).alloc o2).ownsRow w.heap.size 3 1 (.slice A' j c') j ((fs.take j).map (fun f => Value.int .i64 f.kind)) := (h.own.alloc _).alloc _
  have k2 : Kept w.heap.size [3] wr w6 := k1.trans ((Kept.refl _ _ _).grown hg (fun k hk => by obtain ⟨a, cs, b⟩ := own_box hown1 k hk; exact ⟨a, 3, cs, by simp, b⟩))
  refine ⟨h.bel.trans (k2.below h.bel.size), k2.own h.fds (by decide), FlatK.kept k2 (by decide) _ _ h.flat, ?_⟩
  have e : (fs.take (j + 1)).map (fun f => Value.int .i64 f.kind) = (fs.take j).map (fun f => Value.int .i64 f.kind) ++ [.int .i64 f.kind] := by
    rw [take_snoc fs j hj, hf]; simp
  rw [e]
  exact ho
def FkR (ks : List Int) (w : World) (e : Ending) (w' : World) : Prop :=
  ∃ A c, e = .returned (.slice A ks.length c) ∧ w'.ownsRow w.heap.size 3 1 (.slice A ks.length c) ks.length (ks.map (Value.int .i64)) ∧ Below w.heap.size w w'

set_option maxHeartbeats 2000000 in
set_option maxRecDepth 100000 in
theorem fieldKinds_any (k : Rw) (w : World) :
    Calls Tryd.prog 21 #[.agg #[.int .i64 k.kind, .string k.name, .func (.func k.wfn) #[] #[], .func (.func k.rfn) #[] #[]]] w (FkR k.kinds w) := by
  have h1 : ∀ (w : World) (a : Addr) (m : Mode) (f : Fn) (xs ys : Array Value), (store a (.func f xs ys) m).run Tryd.prog w = stored Tryd.prog w a (.func f xs ys) m := fun w a m f xs ys => run_store Tryd.prog w a _ m rfl
  have e1 := run_wfn k
  have HKF := hid (put_kinds k)
  have hk6 := kinds_len k
  generalize hks : k.kinds = ks at HKF hk6
  have HKS := hid hks
  clear hks
  obtain ⟨fs, HFS⟩ : ∃ fs, Hid ((k.put zeroR .zero).fs = fs) := ⟨_, hid rfl⟩
  obtain ⟨n, HN⟩ : ∃ n, Hid (fs.length = n) := ⟨_, hid rfl⟩
  have HKF2 : Hid (fs.map Fd.kind = ks) := hid (by rw [← HFS.out]; exact HKF.out)
  have HNK : Hid (ks.length = n) := hid (by rw [← HKF2.out, List.length_map]; exact HN.out)
  have hn6 : n ≤ 6 := by have := HNK.out; omega
  clear hk6
  obtain ⟨i3, hi3, hz3, hz31, hz32⟩ := info_parts Tryd.info3r
  have HW0 : Hid (WrS ((w.alloc (.cells #[.int .i64 k.kind, .string k.name, .func (.func k.wfn) #[] #[], .func (.func k.rfn) #[] #[]] 60)).alloc (.cells #[.int .i64 0, .string ⟨#[]⟩, .string ⟨#[]⟩, .string ⟨#[]⟩, .int .u32 0, .int .u32 0, .int .u32 0, .int .u32 0, .slice none 0 0, .bool false, .int .u32 0, .slice none 0 0, .bool false, .bool false] 72)) w.heap.size (w.heap.size + 1) zeroR none 0 .zero) := hid (by
    have e : (w.alloc (.cells #[.int .i64 k.kind, .string k.name, .func (.func k.wfn) #[] #[], .func (.func k.rfn) #[] #[]] 60)).heap.size = w.heap.size + 1 := by simp
    have h := wr_new (w.alloc (.cells #[.int .i64 k.kind, .string k.name, .func (.func k.wfn) #[] #[], .func (.func k.rfn) #[] #[]] 60)) w.heap.size zeroR none 0 (by omega) (TK.nil_ _ _)
    rw [e] at h
    exact h)
  go_enter Tryd.func21, Tryd.ntmps21
  go_wp2_with (
    (with_reducible refine (put_any_r k w.heap.size (w.heap.size + 1) 0 zeroR none .zero _ zero_ok HW0.out (by simp [Ws.zero])).mono ?_)
    rintro e w1 ⟨rfl, hs1, hk1⟩
    obtain ⟨_, _, fA, fc, cs, hx, ho, hf⟩ := hs1
    rw [HFS.out] at ho hf hx
    rw [HN.out] at hx
    have hc11 : w1.cell? ⟨w.heap.size + 1, 11, none⟩ = some (.slice fA n fc) := hx.cell 11
    have HB : Hid (Below w.heap.size w w1) := hid ((((Below.refl _ _).alloc (Nat.le_refl _) _).alloc (by simp) _).trans (hk1.below (by simp; omega)))
    have HI : Hid (FkI w w1 fs fA fc cs 0 none 0) := hid ⟨HB.out, ho, hf, ⟨rfl, .inl ⟨rfl, rfl⟩⟩⟩
    clear hx ho hf hk1)
  go_loopw [13, 4] (fun i v wr => ∃ (j : Nat) (A' : Option Addr) (c' : Nat), j ≤ n ∧ i = .int .i64 j ∧ v = .slice A' j c' ∧ Hid (FkI w wr fs fA fc cs j A' c')) (fun i _ _ => n - (intOf i).toNat)
  case atStart => exact ⟨0, none, 0, by omega, rfl, rfl, HI⟩
  case round =>
    obtain ⟨j, A', c', hj, rfl, rfl, HR⟩ := hrel
    by_cases hlt : j < n
    · have hjf : j < fs.length := by have := HN.out; omega
      obtain ⟨tA, tc, q0, q1, q2, q3, q4, q5⟩ := flatK_at fs cs HR.out.flat j hjf
      have hcs : cs ≠ [] := by intro e; subst e; simp at q0
      obtain ⟨fb, fo, rfl, hfb, hfc⟩ := Lies.own HR.out.fds hcs
      have d0 := hfc _ _ q0
      have d1 := hfc _ _ q1
      have d2 := hfc _ _ q2
      have d3 := hfc _ _ q3
      clear hfc q0 q1 q2 q3 q4 q5
      obtain ⟨f, HFJ⟩ : ∃ f, Hid (fs[j] = f) := ⟨_, hid rfl⟩
      rw [HFJ.out] at d0 d1 d2
      rw [← Nat.add_assoc] at d1 d2 d3
      have hj0 : (j : Int) < (n : Int) := by omega
      obtain ⟨tl, HTL⟩ : ∃ tl, Hid (f.text.length = tl) := ⟨_, hid rfl⟩
      rw [HTL.out] at d2
      go_wp2_with (
        at_builtin
        refine wpList_app _ rfl (.tmp 17) (.tmp 20) 66 rfl w.heap.size 3 i3 _ 1 8 Tryd.underlying66 hi3 hz3 hz31 hz32 rfl ?g1 A' j c' ((fs.take j).map (fun f => Value.int .i64 f.kind)) rfl ((HR.out.own.alloc _).alloc _) _ _ 1 1 [.int .i64 f.kind] rfl ?g2 (lies_lit_at _ _ _ _ (by simp)) (one1r _) ?g3 ?g4 ?g5 ?_
        case g1 => omega
        case g2 => rfl
        case g3 => unfold maxLen; omega
        case g4 => omega
        case g5 => have := HR.out.bel.size; simp; omega
        intro A6 c6 w6 ho6 hg6
        have HFIN := hid (FkI.step HR.out hjf HFJ.out ho6 hg6)
        clear ho6 hg6)
      go_roundw
      case rel => exact ⟨j + 1, A6, c6, by omega, by go_num, rfl, HFIN⟩
      case measure => simp [intOf]; omega
    · have hjn : j = n := by omega
      subst hjn
      have hown := HR.out.own
      have hbel := HR.out.bel
      have hto : (fs.take j).map (fun f => Value.int .i64 f.kind) = ks.map (Value.int .i64) := by
        rw [List.take_of_length_le (by rw [HN.out]; omega), ← HKF2.out, List.map_map]; rfl
      rw [hto] at hown
      have HOWN := hid hown
      have HBEL := hid hbel
      clear hown hbel hto
      go_wp2
      go_ret
      refine ⟨A', c', ?_, ?_, HBEL.out⟩
      · rw [HNK.out]; rfl
      · rw [HNK.out]; exact HOWN.out
end Go.Proofs.YtdplngplljejhaaDoor
