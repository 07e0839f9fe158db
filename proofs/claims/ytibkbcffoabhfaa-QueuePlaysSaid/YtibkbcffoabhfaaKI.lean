import Derived.Test.YtibkbcffoabhfaaKH
import Derived.Lib.SlBytesConst
import Derived.Laws.IdiomStrings
namespace Go.Proofs.Ytibkbcffoabhfaa
open Go.RowKit

theorem str_back (w : World) (B : Nat) (A : Option Addr) (c : Nat) (tx : List UInt8) (h : Lies w B A (bv tx)) :
    (convert 34 9 (.slice A tx.length c)).run Try.prog w = .ok (.string ⟨tx.toArray⟩) w := by
  by_cases hn : tx = []
  · subst hn
    refine (run_convert_bytes_string w 34 9 5 A 0 c Try.underlying34 Try.underlying5 Try.underlying9).trans ?_
    cases A with
    | none => simp [Conv.bytesToString]; rfl
    | some a => simp [Conv.bytesToString, loadCells, loadCellsFrom]; rfl
  · obtain ⟨b, o, rfl, _, hc⟩ := h (by simpa [bv] using hn)
    exact run_convert_bytes_back w 34 9 5 ⟨b, o, none⟩ c tx Try.underlying34 Try.underlying5 Try.underlying9 fun j hj => by
      rw [Addr.add_lit]
      exact hc j _ (by simp [bv, hj])


/-- A queue that was made behind w0, and nothing of w0 has turned. -/
structure QB (w0 w : World) (C : Cf) (g : Nat) (L : List (List UInt8)) (ov : Bool) : Prop where
  lo : w0.heap.size ≤ g
  qu : ∃ rb, Qu w (fun _ => True) C g rb L ov ∧ ∀ x, rb = some x → w0.heap.size ≤ x
  bel : Below w0.heap.size w0 w
section
variable {w0 w w' : World} {C : Cf} {g : Nat} {L L' : List (List UInt8)} {ov ov' : Bool}
theorem QB.keep (h : QB w0 w C g L ov) (k : Below w.heap.size w w') : QB w0 w' C g L ov := by
  obtain ⟨rb, h1, h2⟩ := h.qu
  exact ⟨h.lo, ⟨rb, h1.keep0 (But.of_below k _), h2⟩, h.bel.trans (k.mono h.bel.size)⟩
theorem QB.drewN (h : QB w0 w C g L ov) (d : Nat) : QB w0 (w.drewN d) C g L ov := by
  obtain ⟨rb, h1, h2⟩ := h.qu
  exact ⟨h.lo, ⟨rb, h1.keep0 (drew_keep w [] d), h2⟩, bel_drewN h.bel d⟩
theorem QB.alloc (h : QB w0 w C g L ov) (o : Obj) : QB w0 (w.alloc o) C g L ov := h.keep ((Below.refl _ _).alloc (Nat.le_refl _) o)
theorem QB.step (h : QB w0 w C g L ov) {rb : Option Nat} (hr : ∀ x, rb = some x → w0.heap.size ≤ x) (h1 : ∃ rb', Qu w' (fun _ => True) C g rb' L' ov' ∧ ∀ x, rb' = some x → rb = some x ∨ w.heap.size ≤ x) (k : But (g :: rb.toList) w w') : QB w0 w' C g L' ov' := by
  obtain ⟨rb', h2, h3⟩ := h1
  refine ⟨h.lo, ⟨rb', h2, fun x hx => (h3 x hx).elim (hr x) (fun h4 => Nat.le_trans h.bel.size h4)⟩, h.bel.trans (k.below h.bel.size (fun x hx => ?_))⟩
  rcases List.mem_cons.1 hx with rfl | hx
  · exact h.lo
  · exact hr x (by simpa using hx)
end
/-- Nothing has turned of what there was but queues and their rows. -/
def Keep5 (w w' : World) : Prop := ∃ K : List Nat, But K w w' ∧ ∀ y ∈ K, ∃ cs, Box w y 57 cs ∨ Box w y 34 cs
theorem Keep5.own {w w' : World} (h : Keep5 w w') {base : Nat} {v : Value} {n : Nat} {xs : List Value} (ho : w.ownsRow base 5 1 v n xs) : w'.ownsRow base 5 1 v n xs := by
  obtain ⟨K, k, hK⟩ := h
  refine k.own ho (fun x hx hm => ?_)
  obtain ⟨cs, hb | hb⟩ := hK x hm
  · exact own_ne ho hb (by decide) hx
  · exact own_ne ho hb (by decide) hx
theorem Keep5.box {w w' : World} (h : Keep5 w w') {g : Nat} {t : TypeId} {cs : Array Value} (hb : Box w g t cs) (h1 : t ≠ 57) (h2 : t ≠ 34) : Box w' g t cs := by
  obtain ⟨K, k, hK⟩ := h
  refine k.box hb (fun hm => ?_)
  obtain ⟨cs', hb' | hb'⟩ := hK g hm
  · exact box_ne hb hb' h1 rfl
  · exact box_ne hb hb' h2 rfl
theorem keep5 {w w' : World} {S : Nat → Prop} {C : Cf} {g : Nat} {rb : Option Nat} {L : List (List UInt8)} {ov : Bool} (hq : Qu w S C g rb L ov) (k : But (g :: rb.toList) w w') : Keep5 w w' := by
  obtain ⟨A, c, h1, h2⟩ := hq.body
  refine ⟨_, k, fun y hy => ?_⟩
  rcases List.mem_cons.1 hy with rfl | hy
  · exact ⟨_, .inl h1⟩
  · obtain ⟨cs, hb⟩ := h2.box y (by simpa using hy)
    exact ⟨cs, .inr hb⟩
section
variable (w : World) {w0 : World} {C : Cf} {g n : Nat} {L L' : List (List UInt8)} {b out : List UInt8} {ov ok ov' : Bool}
theorem qb_count (hn : Hid (L.length = n)) (h : Hid (QB w0 w C g L ov)) : Calls Try.prog 14 #[.pointer (some ⟨g, 0, none⟩)] w fun e w' => e = .returned (.int .i64 n) ∧ w' = w := by
  obtain ⟨rb, h1, _⟩ := h.out.qu
  exact count_any w hn (hid h1)
theorem qb_used (hn : Hid (sumB L = n)) (h : Hid (QB w0 w C g L ov)) : Calls Try.prog 15 #[.pointer (some ⟨g, 0, none⟩)] w fun e w' => e = .returned (.int .i64 n) ∧ w' = w := by
  obtain ⟨rb, h1, _⟩ := h.out.qu
  exact used_any w hn (hid h1)
theorem qb_over (h : Hid (QB w0 w C g L ov)) : Calls Try.prog 17 #[.pointer (some ⟨g, 0, none⟩)] w fun e w' => e = .returned (.bool ov) ∧ w' = w := by
  obtain ⟨rb, h1, _⟩ := h.out.qu
  exact over_any w (hid h1)
theorem qb_push {B : Option Addr} {k c0 : Nat} (h : Hid (QB w0 w C g L ov)) (hk : Hid (b.length = k)) (hkm : k ≤ maxLen) (hb : Hid (Lies w w.heap.size B (bv b))) (hp : Hid (pushF C L ov b = (ok, L', ov'))) :
    Calls Try.prog 22 #[.pointer (some ⟨g, 0, none⟩), .slice B k c0] w fun e w' => e = .returned (.bool ok) ∧ Hid (QB w0 w' C g L' ov') ∧ Hid (Keep5 w w') := by
  obtain ⟨rb, h1, h2⟩ := h.out.qu
  refine (push_any w (hid h1) hk hkm hb (hid fun _ _ => trivial) hp).mono ?_
  rintro e w' ⟨rfl, hf⟩
  exact ⟨rfl, h.out.step h2 hf.out.1 hf.out.2, keep5 h1 hf.out.2⟩
theorem qb_lit {n : Nat} (W : World) (gg : Nat) (Cs : Array Value) (fr : Nat × Nat) (hC : Cs.toList = bv b) (hn : Hid (b.length = n)) (hgg : W.heap.size = gg) (hl : n ≤ 100) (h : Hid (QB w0 W C g L ov)) (hp : Hid (pushF C L ov b = (ok, L', ov'))) :
    Calls Try.prog 22 #[.pointer (some ⟨g, 0, none⟩), .slice (some ⟨gg, 0, none⟩) n n] (W.alloc (.cells Cs 5 fr)) fun e w' => e = .returned (.bool ok) ∧ Hid (QB w0 w' C g L' ov') := by
  subst hgg
  have hL := lit_lies W Cs 5 fr W.heap.size rfl
  rw [hC] at hL
  refine (qb_push _ (hid (h.out.alloc _)) hn (by unfold maxLen; omega) (hL.more (by simp)) hp).mono ?_
  rintro e w' ⟨rfl, h1, _⟩
  exact ⟨rfl, h1⟩
theorem qb_pop (h : Hid (QB w0 w C g L ov)) (hp : Hid (popF C L ov = (out, ok, L', ov'))) (hn : Hid (out.length = n)) :
    Calls Try.prog 19 #[.pointer (some ⟨g, 0, none⟩)] w fun e w' => ∃ A' c', e = .returned (.tuple #[.slice A' n c', .bool ok]) ∧ Hid (w'.ownsRow w.heap.size 5 1 (.slice A' n c') n (bv out)) ∧ Hid (QB w0 w' C g L' ov') ∧ Hid (Keep5 w w') := by
  obtain ⟨rb, h1, h2⟩ := h.out.qu
  refine (pop_any w (hid h1) hp hn).mono ?_
  rintro e w' ⟨A', c', rfl, ho, hq, hk⟩
  exact ⟨A', c', rfl, ho, h.out.step h2 ⟨rb, hq.out, fun x hx => .inl hx⟩ hk.out, keep5 h1 hk.out⟩
theorem qb_do {A : Option Addr} {c l bl : Nat} (k : Int) (h : Hid (QB w0 w C g L ov)) (hb : Hid (SlB w w.heap.size A c b)) (hbl : Hid (b.length = bl)) (hp : Hid (doF C k b L ov = (out, ok, L', ov'))) (hl : Hid (out.length = l)) :
    Calls Try.prog 11 #[.pointer (some ⟨g, 0, none⟩), .agg #[.int .i64 k, .slice A bl c]] w fun e w' => ∃ A' c', e = .returned (.tuple #[.slice A' l c', .bool ok]) ∧ Hid (w'.ownsRow w.heap.size 5 1 (.slice A' l c') l (bv out)) ∧ Hid (QB w0 w' C g L' ov') ∧ Hid (Keep5 w w') := by
  obtain ⟨rb, h1, h2⟩ := h.out.qu
  refine (do_any w k (hid h1) hb hbl (hid fun _ _ _ => trivial) hp hl).mono ?_
  rintro e w' ⟨A', c', rfl, hd⟩
  exact ⟨A', c', rfl, hd.out.own, h.out.step h2 hd.out.qu hd.out.but, keep5 h1 hd.out.but⟩
theorem qb_new (b r h l : Int) (hC : b = C.b ∧ r = C.r ∧ h = C.h ∧ l = C.l) (hok : C.ok) : Calls Try.prog 21 #[.int .i64 b, .int .i64 r, .int .i64 h, .int .i64 l] w fun e w' => ∃ g, e = .returned (.tuple #[.pointer (some ⟨g, 0, none⟩), .int .i64 0]) ∧ Hid (QB w w' C g [] false) := by
  obtain ⟨rfl, rfl, rfl, rfl⟩ := hC
  refine (new_any w (fun _ => True) C hok).mono ?_
  rintro e w' ⟨g, rfl, hq, hg, hb⟩
  exact ⟨g, rfl, hg, ⟨none, hq.out, by simp⟩, hb.out⟩

theorem qb_new8 : Calls Try.prog 21 #[.int .i64 8, .int .i64 3, .int .i64 6, .int .i64 2] w fun e w' => ∃ g, e = .returned (.tuple #[.pointer (some ⟨g, 0, none⟩), .int .i64 0]) ∧ Hid (QB w w' ⟨8, 3, 6, 2⟩ g [] false) :=
  qb_new w (C := ⟨8, 3, 6, 2⟩) 8 3 6 2 ⟨rfl, rfl, rfl, rfl⟩ (by unfold Cf.ok; simp)
set_option maxHeartbeats 4000000 in
set_option maxRecDepth 100000 in
theorem alive_any : Calls Try.prog 7 #[] w fun e w' => e = .returned (.bool true) ∧ Hid (Below w.heap.size w w') := by
  have hcv := fun (w : World) (C : Array Value) (n c : Nat) => Lib.run_convert_bytes_const (P := Try.prog) w 34 5 C n c Try.underlying34 Try.underlying5
  go_enter Try.func7, Try.ntmps7
  go_wp2_with (first
    | (go_at_call 21
       ((with_reducible refine (qb_new8 _).mono ?_); rintro e w1 ⟨g, rfl, HQ1⟩))
    | (go_at_call 22
       ((with_reducible refine (qb_lit (n := 4) _ _ #[.int .u8 97, .int .u8 98, .int .u8 99, .int .u8 100] _ (b := [97, 98, 99, 100]) (L' := [[97, 98, 99, 100]]) (ok := true) (ov' := false) (by simp [bv]) (hid rfl) rfl (by omega) HQ1 (hid (by decide))).mono ?_); rintro e w2 ⟨rfl, HQ2⟩))
    | (go_at_call 17
       ((with_reducible refine (qb_over _ HQ2).mono ?_); rintro e w3 ⟨rfl, rfl⟩))
    | (go_at_call 22
       ((with_reducible refine (qb_lit (n := 3) _ _ #[.int .u8 101, .int .u8 102, .int .u8 103] _ (b := [101, 102, 103]) (L' := [[97, 98, 99, 100], [101, 102, 103]]) (ok := true) (ov' := true) (by simp [bv]) (hid rfl) rfl (by omega) HQ2 (hid (by decide))).mono ?_); rintro e w4 ⟨rfl, HQ4⟩))
    | (go_at_call 17
       ((with_reducible refine (qb_over _ HQ4).mono ?_); rintro e w5 ⟨rfl, rfl⟩))
    | (go_at_call 22
       ((with_reducible refine (qb_lit (n := 2) _ _ #[.int .u8 104, .int .u8 105] _ (b := [104, 105]) (L' := [[97, 98, 99, 100], [101, 102, 103]]) (ok := false) (ov' := true) (by simp [bv]) (hid rfl) rfl (by omega) HQ4 (hid (by decide))).mono ?_); rintro e w6 ⟨rfl, HQ6⟩))
    | (go_at_call 19
       ((with_reducible refine (qb_pop _ (n := 4) HQ6 (out := [97, 98, 99, 100]) (L' := [[101, 102, 103]]) (ok := true) (ov' := true) (hid (by decide)) (hid rfl)).mono ?_); rintro e w7 ⟨A7, c7, rfl, HO7, HQ7, _⟩))
    | (go_at_call 17
       ((with_reducible refine (qb_over _ HQ7).mono ?_); rintro e w8 ⟨rfl, rfl⟩))
    | (go_at_call 19
       ((with_reducible refine (qb_pop _ (n := 3) HQ7 (out := [101, 102, 103]) (L' := []) (ok := true) (ov' := false) (hid (by decide)) (hid rfl)).mono ?_); rintro e w9 ⟨A9, c9, rfl, HO9, HQ9, HK9⟩)
       have hcs : (convert 34 9 (.slice A7 4 c7)).run Try.prog w9 = .ok (.string ⟨#[97, 98, 99, 100]⟩) w9 := str_back w9 _ A7 c7 [97, 98, 99, 100] (Lies.own (HK9.out.own HO7.out))
       have hcs2 : (convert 34 9 (.slice A9 3 c9)).run Try.prog w9 = .ok (.string ⟨#[101, 102, 103]⟩) w9 := str_back w9 _ A9 c9 [101, 102, 103] (Lies.own HO9.out))
    | (go_at_call 17
       ((with_reducible refine (qb_over _ HQ9).mono ?_); rintro e w10 ⟨rfl, rfl⟩))
    | (go_at_call 14
       ((with_reducible refine (count_nil _).mono ?_); rintro e w11 ⟨rfl, rfl⟩))
    | (go_at_call 22
       ((with_reducible refine (push_nil _).mono ?_); rintro e w12 ⟨d, rfl, rfl⟩)))
  go_ret
  exact ⟨rfl, bel_drewN HQ9.out.bel d⟩
end
end Go.Proofs.Ytibkbcffoabhfaa
