import Derived.Test.YtggcampdkgfmgaaGreatTM
import Derived.Test.YtggcampdkgfmgaaGreatTJ
namespace Go.Proofs.YtggcampdkgfmgaaGreat
open Go.RowKit

/-! Layer 17: the law's helpers Events and Do. -/
theorem evs_len (gp : Int) (l : List Int) : (evs gp l).length ≤ l.length := by
  unfold evs
  split <;> simp
theorem typeM_sigs (D : Ds) : ∀ b : List UInt8, (typeM D b).2.2.length ≤ b.length
  | [] => Nat.le_refl _
  | c :: r => by
    unfold typeM
    split
    · exact Nat.zero_le _
    · have h1 := typeM_sigs (inputD D c).1 r
      have h2 := input_one D c
      simp only [List.length_append, List.length_cons]
      omega
theorem evs_le {P P1 : Ps} {b : List UInt8} {k1 n1 nb : Nat} {E1 : List (Int × Int)} (N1 : E1.length = n1) (hz : mwP P b = (P1, k1, E1)) (h1 : nb ≤ 12000) (h2 : b.length = nb) : n1 ≤ 1000000 := by
  unfold mwP at hz
  split at hz
  · injection hz with _ hz; injection hz with _ hz; subst hz; subst N1; simp
  · injection hz with _ hz; injection hz with _ hz; subst hz; subst N1
    have h3 := evs_len P.gp (typeM P.d b).2.2
    have h4 := typeM_sigs P.d b
    omega
theorem sizeP_le {P P1 : Ps} {z : Sz} {E1 : List (Int × Int)} (hz : sizeP P z = (P1, E1)) : E1.length ≤ 1000000 := by
  unfold sizeP at hz
  split at hz
  · injection hz with _ hz; subst hz; simp
  · injection hz with _ hz; subst hz
    have h3 := evs_len P.gp [28]
    have h4 : [(28 : Int)].length = 1 := rfl
    omega
theorem hangP_le {P P1 : Ps} {E1 : List (Int × Int)} (hz : hangP P = (P1, E1)) : E1.length ≤ 1000000 := by
  unfold hangP at hz
  split at hz
  · injection hz with _ hz; subst hz; simp
  · injection hz with _ hz; subst hz
    have h3 := evs_len P.gp [1, 18]
    have h4 : [(1 : Int), 18].length = 2 := rfl
    omega
theorem evV_at {E : List (Int × Int)} : ∀ {k : Nat} {x y : Int}, E[k]? = some (x, y) → (evV E)[k * 2]? = some (.int .i64 x) ∧ (evV E)[k * 2 + 1]? = some (.int .i64 y) := by
  induction E with
  | nil => intro k x y h; simp at h
  | cons z r ih =>
    intro k x y h
    have e : evV (z :: r) = [Value.int .i64 z.1, .int .i64 z.2] ++ evV r := rfl
    rw [e]
    cases k with
    | zero =>
      simp at h
      subst h
      exact ⟨rfl, rfl⟩
    | succ k =>
      have := ih (k := k) (by simpa using h)
      rw [List.getElem?_append_right (by simp; omega), List.getElem?_append_right (by simp; omega)]
      simpa [show (k + 1) * 2 - 2 = k * 2 by omega, show (k + 1) * 2 + 1 - 2 = k * 2 + 1 by omega] using this
/-- The step's setting is loaded. -/
theorem ldO17 {ops : Array Oper} {rest : List Oper} {o : Oper} {a : Act} {w : World} {Q : Exit → Act → World → Prop} (hw : Region.wanted o (yielded ops a.tmps) = true) (x : Operand) (ho : o.op = .load 26 x) (g : Nat) (hx : a.eval x = .pointer (some ⟨g, 4, none⟩)) (t : Tm) (hl : t.c.length = 19) {T : TypeId} {cs : Array Value} (hb : Hid (Box w g T cs)) (hc : Hid (∀ (j : Nat) (v : Value), t.cl[j]? = some v → cs[4 + j]? = some v))
    (h : wpList Tryz.prog ops Q rest (a.put o.dst (.agg t.cs)) w) : wpList Tryz.prog ops Q (o :: rest) a w :=
  BigFrame.wpList_want hw fun _ hK => by
    obtain ⟨r1, r2⟩ := isR_of (w := w) (g := g) (o := 4) (t := t) (fun j v hj => (hb.out.cell (4 + j)).trans (hc.out j v hj)) hl
    obtain ⟨dst, op, ty, pos, after, gd⟩ := o
    obtain rfl : op = .load 26 x := ho
    rw [wp_ldR (by rw [hx]; exact r1), hx, r2]
    exact hK _ _ h
set_option maxRecDepth 100000 in
set_option maxHeartbeats 2000000 in
theorem events17_any (w : World) (A : Option Addr) (n c : Nat) (E : List (Int × Int)) (hL : Hid (Lies w w.heap.size A (evV E))) (hn : Hid (E.length = n)) (hm : n ≤ 1000000) :
    Calls Tryz.prog 90 #[.slice A n c] w (RetEv 117 w E) := by
  go_enter Tryz.func90, Tryz.ntmps90
  go_wp2_with fail
  go_loopg [3, 8] n (fun gk a i wr => ∃ (k : Nat) (A2 : Option Addr) (c2 : Nat), k + gk = n ∧ i = .int .i64 k ∧ a = .slice A2 k c2 ∧ Hid (wr.ownsRow w.heap.size 117 2 (.slice A2 k c2) k (evV (E.take k))) ∧ Hid (Below w.heap.size w wr))
  case atStart => exact ⟨0, none, 0, by omega, rfl, rfl, hid (World.ownsRow_nil _ _ _ _), hid (Below.refl _ _)⟩
  case round =>
    obtain ⟨k, A2, c2, hk, rfl, rfl, HO, HB⟩ := hrel
    by_cases hlt : k < n
    · have hki : (k : Int) < (n : Int) := by omega
      have hkE : k < E.length := by rw [hn.out]; exact hlt
      obtain ⟨⟨x, y⟩, hxy⟩ : ∃ z, Hid (E[k] = z) := ⟨_, hid rfl⟩
      have HT : Hid (E.take k ++ [(x, y)] = E.take (k + 1)) := hid (by rw [List.take_succ_eq_append_getElem hkE, hxy.out])
      have hEk : E[k]? = some (x, y) := by rw [List.getElem?_eq_getElem hkE, hxy.out]
      obtain ⟨b, o, rfl, hlb, hc⟩ := hL.out (evV_ne' (by rintro rfl; simp at hkE))
      have d0 : World.cell? wr ⟨b, o + k * 2, none⟩ = some (.int .i64 x) := (HB.out.cell (p := ⟨b, o + k * 2, none⟩) hlb).trans (hc _ _ (evV_at hEk).1)
      have d1 : World.cell? wr ⟨b, o + k * 2 + 1, none⟩ = some (.int .i64 y) := (HB.out.cell (p := ⟨b, o + k * 2 + 1, none⟩) hlb).trans (by have h := hc _ _ (evV_at hEk).2; rwa [← Nat.add_assoc] at h)
      have b1 : Below wr.heap.size wr ((wr.alloc (.cells #[.int .i64 x, .int .i64 y] 120)).alloc (.cells #[.int .i64 x, .int .i64 y] 117)) := (((Below.refl _ wr).alloc (Nat.le_refl _) _).alloc (by simp) _)
      have O1 := hid (own_keep HO.out b1)
      have L1 : Hid (Lies ((wr.alloc (.cells #[.int .i64 x, .int .i64 y] 120)).alloc (.cells #[.int .i64 x, .int .i64 y] 117)) ((wr.alloc (.cells #[.int .i64 x, .int .i64 y] 120)).alloc (.cells #[.int .i64 x, .int .i64 y] 117)).heap.size (some ⟨wr.heap.size + 1, 0, none⟩) (evV [(x, y)])) := by
        have := lies_ev (wr.alloc (.cells #[.int .i64 x, .int .i64 y] 120)) 117 x y
        rwa [World.size_alloc wr] at this
      have B1 := bel_t HB (hid b1)
      have hz1 := B1.out.size
      clear hc hEk b1
      go_wp2_with (first
        | (at_builtin
           (refine app_ev 112 117 Tryz.underlying112 Tryz.infoEw _ (by rfl) (.tmp 12) (.tmp 14) rfl w.heap.size k 1 c2 A2 (E.take k) [(x, y)] rfl O1 hz1 (some ⟨wr.heap.size + 1, 0, none⟩) 1 rfl L1 rfl (by omega) ?_)
           intro A3 c3 u3 O3 k3
           have B3 := hid (B1.out.trans (k3.out.below hz1))))
      go_roundg (gk - 1)
      case measure => omega
      case rel => exact ⟨k + 1, A3, c3, by omega, by go_num, rfl, by rw [← HT.out]; exact O3, B3⟩
    · obtain rfl : k = n := by omega
      have hki : ¬ (k : Int) < (k : Int) := by omega
      rw [List.take_of_length_le (by have := hn.out; omega)] at HO
      go_wp2_with fail
      go_ret
      exact ⟨A2, k, c2, rfl, hn, HO, HB⟩
section
variable {w0 w w' : World} {g p : Nat} {S0 S S' : Nat → Prop} {P P' : Ps} {o : Op17} {y : Array Value}
theorem Py.trans (H : Hid (Py w0 g p S0 w S P)) (K : Hid (Py w g p S w' S' P')) : Hid (Py w0 g p S0 w' S' P') :=
  hid ⟨K.out.at_, fun x hx => by
    rcases K.out.new x hx with h | h
    · exact H.out.new x h
    · exact .inr (Nat.le_trans H.out.but.size h), H.out.but.trans K.out.but fun x hx => by
      rcases hx with h | rfl
      · rcases H.out.new x h with k | k
        · exact .inl (.inl k)
        · exact .inr k
      · exact .inl (.inr rfl)⟩
theorem Py.other (H : Hid (Py w0 g p S0 w S P)) {x : Nat} (h1 : ¬ GS g S x) (h2 : w0.heap.size ≤ x) (i : Nat) (v : Value) : Hid (Py w0 g p S0 (w.setCell ⟨x, i, none⟩ v) S P) :=
  hid ⟨H.out.at_.keep (T := fun z => z = x) ((ButP.refl (fun z => z = x) w).store (.inl rfl) v) (fun z hz e => h1 (e ▸ hz)), H.out.new, H.out.but.store (.inr h2) v⟩
/-- The step's variable, the answer's two. -/
structure L17 (w0 w : World) (o : Op17) (T : Nat → Prop) (y : Array Value) : Prop where
  bo : Box w w0.heap.size 111 (opV17 o)
  br : Box w (w0.heap.size + 1) 114 #[.slice none 0 0, .int .i64 0, .int .i64 0, .slice none 0 0]
  ba : Box w (w0.heap.size + 1 + 1) 114 y
  n0 : ¬ T w0.heap.size
  n1 : ¬ T (w0.heap.size + 1)
  n2 : ¬ T (w0.heap.size + 1 + 1)
theorem L17.next (H : L17 w0 w o (GS g S) y) (K : Hid (Py w g p S w' S' P')) : L17 w0 w' o (GS g S') y := by
  have k := H.ba.lt
  exact ⟨K.out.but.box H.bo H.n0, K.out.but.box H.br H.n1, K.out.but.box H.ba H.n2, gs_next K (by omega) H.n0, gs_next K (by omega) H.n1, gs_next K (by omega) H.n2⟩
theorem L17.bel {T : Nat → Prop} (H : L17 w0 w o T y) (k : Below w.heap.size w w') : L17 w0 w' o T y := ⟨box_below H.bo k, box_below H.br k, box_below H.ba k, H.n0, H.n1, H.n2⟩
theorem L17.new (w : World) (o : Op17) {T : Nat → Prop} (hT : ∀ x, T x → x < w.heap.size) (y : Array Value) : L17 w (((w.alloc (.cells (opV17 o) 111)).alloc (.cells #[.slice none 0 0, .int .i64 0, .int .i64 0, .slice none 0 0] 114)).alloc (.cells y 114)) o T y := by
  refine ⟨box_al (box_al (box_nw rfl)), box_al ?_, ?_, fun h => by have := hT _ h; omega, fun h => by have := hT _ h; omega, fun h => by have := hT _ h; omega⟩
  · have := Box.new (w.alloc (.cells (opV17 o) 111)) 114 #[.slice none 0 0, .int .i64 0, .int .i64 0, .slice none 0 0]
    rwa [World.size_alloc] at this
  · have := Box.new ((w.alloc (.cells (opV17 o) 111)).alloc (.cells #[.slice none 0 0, .int .i64 0, .int .i64 0, .slice none 0 0] 114)) 114 y
    rwa [World.size_alloc, World.size_alloc] at this
theorem L17.storeA {T : Nat → Prop} (H : L17 w0 w o T y) (i : Nat) (v : Value) : L17 w0 (w.setCell ⟨w0.heap.size + 1 + 1, i, none⟩ v) o T (y.setIfInBounds i v) :=
  ⟨(Turn.setCell w (w0.heap.size + 1 + 1) i v).box H.bo (by omega), (Turn.setCell w (w0.heap.size + 1 + 1) i v).box H.br (by omega), H.ba.store i v, H.n0, H.n1, H.n2⟩
theorem L17.fin (H : L17 w0 w o (GS g S) y) (R : Hid (Py w0 g p S0 w S P)) (b0 b1 b2 b3 : Value) :
    Hid (Py w0 g p S0 ((((w.setCell ⟨w0.heap.size + 1, 0, none⟩ b0).setCell ⟨w0.heap.size + 1, 1, none⟩ b1).setCell ⟨w0.heap.size + 1, 2, none⟩ b2).setCell ⟨w0.heap.size + 1, 3, none⟩ b3) S P) ∧
    Hid (Box ((((w.setCell ⟨w0.heap.size + 1, 0, none⟩ b0).setCell ⟨w0.heap.size + 1, 1, none⟩ b1).setCell ⟨w0.heap.size + 1, 2, none⟩ b2).setCell ⟨w0.heap.size + 1, 3, none⟩ b3) (w0.heap.size + 1) 114 #[b0, b1, b2, b3]) := by
  have h1 : w0.heap.size ≤ w0.heap.size + 1 := Nat.le_succ _
  refine ⟨Py.other (Py.other (Py.other (Py.other R H.n1 h1 0 b0) H.n1 h1 1 b1) H.n1 h1 2 b2) H.n1 h1 3 b3, hid ?_⟩
  have := (((H.br.store 0 b0).store 1 b1).store 2 b2).store 3 b3
  simpa using this
theorem lies_set {w : World} {A : Option Addr} {xs : List Value} {x : Nat} (L : Hid (Lies w w.heap.size A xs)) (h : xs ≠ [] → ∀ a, A = some a → a.block ≠ x) (i : Nat) (v : Value) : Hid (Lies (w.setCell ⟨x, i, none⟩ v) (w.setCell ⟨x, i, none⟩ v).heap.size A xs) :=
  hid (Lies.more_ (((ButP.refl (fun z => z = x) w).store (.inl rfl) v).lies L.out (Nat.le_refl _) h) (by simp [World.setCell]))
theorem lies_sets {w : World} {A : Option Addr} {xs : List Value} {x : Nat} (L : Hid (Lies w w.heap.size A xs)) (h : xs ≠ [] → ∀ a, A = some a → a.block ≠ x) (b0 b1 b2 b3 : Value) : Hid (Lies ((((w.setCell ⟨x, 0, none⟩ b0).setCell ⟨x, 1, none⟩ b1).setCell ⟨x, 2, none⟩ b2).setCell ⟨x, 3, none⟩ b3) ((((w.setCell ⟨x, 0, none⟩ b0).setCell ⟨x, 1, none⟩ b1).setCell ⟨x, 2, none⟩ b2).setCell ⟨x, 3, none⟩ b3).heap.size A xs) :=
  lies_set (lies_set (lies_set (lies_set L h 0 b0) h 1 b1) h 2 b2) h 3 b3
end
/-- What a step makes of a terminal: what it answers. -/
def doP (P : Ps) (o : Op17) : Ps × List UInt8 × Int × Int × List (Int × Int) :=
  if o.k = 1 then ((mwP P o.b).1, [], ((mwP P o.b).2.1 : Int), 0, (mwP P o.b).2.2)
  else if o.k = 2 then ((mrP P o.n).1, (mrP P o.n).2.1, 0, (mrP P o.n).2.2, [])
  else if o.k = 3 then ((openP P).1, [], 0, (openP P).2, [])
  else if o.k = 4 then ((closeP P).1, [], 0, (closeP P).2, [])
  else if o.k = 5 then ((rdP P o.n o.m).1, (rdP P o.n o.m).2.1, 0, (rdP P o.n o.m).2.2, [])
  else if o.k = 6 then ((wrP P o.b).1, [], ((wrP P o.b).2.1 : Int), (wrP P o.b).2.2, [])
  else if o.k = 7 then ((satP P o.n o.t).1, [], 0, (satP P o.n o.t).2, [])
  else if o.k = 8 then ((sizeP P o.z).1, [], 0, 0, (sizeP P o.z).2)
  else if o.k = 9 then ((bindP P o.n o.m).1, [], 0, (bindP P o.n o.m).2, [])
  else if o.k = 10 then ((groupP P o.n).1, [], 0, (groupP P o.n).2, [])
  else if o.k = 11 then ((hangP P).1, [], 0, 0, (hangP P).2)
  else (P, [], 0, 0, [])
def RetDo (w : World) (g p : Nat) (S : Nat → Prop) (r : Ps × List UInt8 × Int × Int × List (Int × Int)) (e : Ending) (w' : World) : Prop := ∃ A n c A2 n2 c2 S', e = .returned (.agg #[.slice A n c, .int .i64 r.2.2.1, .int .i64 r.2.2.2.1, .slice A2 n2 c2]) ∧ Hid (r.2.1.length = n) ∧ Hid (r.2.2.2.2.length = n2) ∧ Hid (Lies w' w'.heap.size A2 (evV r.2.2.2.2)) ∧ Hid (Py w g p S w' S' r.1)
theorem own_fresh {w0 u w' : World} {T : TypeId} {A : Option Addr} {n c : Nat} {xs : List Value} (h : w0.heap.size + 1 < u.heap.size) (O : Hid (w'.ownsRow u.heap.size T 2 (.slice A n c) n xs)) {x : Nat} (hx : x ≤ w0.heap.size + 1 + 1) (hz : w0.heap.size + 1 + 1 < u.heap.size) : xs ≠ [] → ∀ a, A = some a → a.block ≠ x := fun _ a ha => by
  have _ := h
  subst ha
  have := (O.out.lt a.block rfl).1
  omega
set_option maxRecDepth 100000 in
set_option maxHeartbeats 8000000 in
theorem do17_any (w : World) (g p : Nat) (S : Nat → Prop) (P : Ps) (hP : Hid (PAt w g p S P)) (hJ : Hid (Jv P.d)) (o : Op17) (hO : Hid (OpOk17 w o)) (hm : Hid (o.b.length ≤ 12000)) (hA : Hid (o.b ≠ [] → ∀ a, o.A = some a → ¬ GS g S a.block)) {r : Ps × List UInt8 × Int × Int × List (Int × Int)} (hr : Hid (doP P o = r)) :
    Calls Tryz.prog 48 #[.pointer (some ⟨g, 0, none⟩), .agg (opV17 o)] w (RetDo w g p S r) := by
  have hi33 : (Tryz.prog.info? 111).map (·.size) = some (opV17 o).size := by rw [opV17_size hO.out.t]; exact sizeOp17
  have hTop : ∀ x, GS g S x → x < w.heap.size := fun x hx => by
    rcases hx with hx | rfl
    · exact hP.out.at_.top _ hx
    · exact hP.out.lt
  have L0 := hid (L17.new w o hTop #[.slice none 0 0, .int .i64 0, .int .i64 0, .slice none 0 0])
  have hl := hO.out.t.len
  have KB := hid ((((Below.refl _ w).alloc (Nat.le_refl _) (.cells (opV17 o) 111)).alloc (by simp) (.cells #[.slice none 0 0, .int .i64 0, .int .i64 0, .slice none 0 0] 114)).alloc (by simp; omega) (.cells #[.slice none 0 0, .int .i64 0, .int .i64 0, .slice none 0 0] 114))
  have hA2 : Hid (o.b ≠ [] → ∀ a, o.A = some a → ¬ S a.block) := hid fun h a ha hs => hA.out h a ha (.inl hs)
  obtain ⟨nb, hnb⟩ : ∃ q, Hid (o.b.length = q) := ⟨_, hid rfl⟩
  have hnb2 : nb ≤ 12000 := by have := hnb.out; have := hm.out; omega
  have fit := hid hJ.out.fits
  have F0 : Hid ((opV17 o)[0]? = some (.int .i64 o.k)) := hid rfl
  have F1 : Hid ((opV17 o)[1]? = some (.int .i64 o.n)) := hid rfl
  have F2 : Hid ((opV17 o)[2]? = some (.int .i64 o.m)) := hid rfl
  have F3 : Hid ((opV17 o)[3]? = some (.slice o.A nb o.c)) := hid (by rw [← hnb.out]; rfl)
  have F4 : Hid (∀ (j : Nat) (v : Value), o.t.cl[j]? = some v → (opV17 o)[4 + j]? = some v) := hid (fun j v h => by
    show (([Value.int .i64 o.k, .int .i64 o.n, .int .i64 o.m, .slice o.A o.b.length o.c] ++ o.t.cl ++ o.z.cl).toArray)[4 + j]? = some v
    have hj := (List.getElem?_eq_some_iff.1 h).1
    rw [List.getElem?_toArray, List.append_assoc, List.getElem?_append_right (by simp), List.getElem?_append_left (by simpa using hj)]
    simpa using h)
  have F5 : Hid (∀ (j : Nat) (v : Value), o.z.cl[j]? = some v → (opV17 o)[28 + j]? = some v) := hid (fun j v h => by
    show (([Value.int .i64 o.k, .int .i64 o.n, .int .i64 o.m, .slice o.A o.b.length o.c] ++ o.t.cl ++ o.z.cl).toArray)[28 + j]? = some v
    have hq : ([Value.int .i64 o.k, .int .i64 o.n, .int .i64 o.m, .slice o.A o.b.length o.c] ++ o.t.cl).length = 28 := by rw [List.length_append, cl_len hl]; rfl
    rw [List.getElem?_toArray, List.getElem?_append_right (by omega), hq, Nat.add_sub_cancel_left]
    exact h)
  go_enter Tryz.func48, Tryz.ntmps48
  go_upto_region 2 with (first
    | (refine bxT (by rfl) 111 _ (by rfl) _ (by rfl) hi33 ?_))
  generalize hvv : World.alloc (World.alloc (World.alloc _ _) _) _ = v at L0 KB ⊢
  have vsz : w.heap.size + 1 + 1 < v.heap.size := L0.out.ba.lt
  clear hvv
  have H0 : Hid (PAt v g p S P) := hid (hP.out.bel KB.out)
  have V0 := Py.of H0
  have W0 : Hid (Py w g p S v S P) := Py.bel (Py.of hP) KB.out
  have Lb := slb_at (hid hO.out.b) KB
  have j0 : v.cell? ⟨w.heap.size, 0, none⟩ = some (.int .i64 o.k) := (L0.out.bo.cell 0).trans F0.out
  have j1 : v.cell? ⟨w.heap.size, 1, none⟩ = some (.int .i64 o.n) := (L0.out.bo.cell 1).trans F1.out
  have j2 : v.cell? ⟨w.heap.size, 2, none⟩ = some (.int .i64 o.m) := (L0.out.bo.cell 2).trans F2.out
  have j3 : v.cell? ⟨w.heap.size, 3, none⟩ = some (.slice o.A nb o.c) := (L0.out.bo.cell 3).trans F3.out
  have j28 : v.cell? ⟨w.heap.size, 28, none⟩ = some (.int .u32 (o.z.a : Int)) := (L0.out.bo.cell 28).trans (F5.out 0 _ rfl)
  have j29 : v.cell? ⟨w.heap.size, 29, none⟩ = some (.int .u32 (o.z.b : Int)) := (L0.out.bo.cell 29).trans (F5.out 1 _ rfl)
  have j30 : v.cell? ⟨w.heap.size, 30, none⟩ = some (.int .u32 (o.z.c : Int)) := (L0.out.bo.cell 30).trans (F5.out 2 _ rfl)
  have j31 : v.cell? ⟨w.heap.size, 31, none⟩ = some (.int .u32 (o.z.e : Int)) := (L0.out.bo.cell 31).trans (F5.out 3 _ rfl)
  have cS : Calls Tryz.prog 49 #[.pointer (some ⟨g, 0, none⟩), .agg #[.int .u32 (o.z.a : Int), .int .u32 (o.z.b : Int), .int .u32 (o.z.c : Int), .int .u32 (o.z.e : Int)]] v (RetPe v g p S (sizeP P o.z)) := size_any V0 o.z (hid rfl)
  have hr2 := hr.out
  unfold doP at hr2
  by_cases k1 : o.k = 1
  · rw [if_pos k1] at hr2
    rw [k1] at j0
    obtain ⟨⟨P1, kk, E1⟩, hz⟩ : ∃ z, Hid (mwP P o.b = z) := ⟨_, hid rfl⟩
    rw [hz.out] at hr2
    obtain rfl := hr2
    clear cS
    go_wp2_with (first
      | (refine ldO17 (by rfl) _ (by rfl) w.heap.size (by rfl) o.t hl (hid L0.out.bo) F4 ?_)
      | (go_at_call 41
         (with_reducible refine (mwrite_any Jv jvF jvN V0 hJ o.A nb o.c o.b Lb hnb (by omega) hA2 hz).mono ?_)
         rintro e u1 ⟨A1, n1, c1, S1, rfl, N1, E1L, h1, G1⟩
         have N1 : Hid (E1.length = n1) := N1
         have E1L : Hid (Lies u1 u1.heap.size A1 (evV E1)) := E1L
         have G1 : Hid (E1 ≠ [] → ∀ a, A1 = some a → v.heap.size ≤ a.block ∧ ¬ GS g S1 a.block) := G1
         have H1 := Py.trans W0 h1
         have L1 := hid (L0.out.next h1)
         have u1z : w.heap.size + 1 + 1 < u1.heap.size := L1.out.ba.lt
         clear j0 j1 j2 j3 j28 j29 j30 j31
         have a0 := L1.out.ba.cell 0
         have a1 := L1.out.ba.cell 1
         have a2 := L1.out.ba.cell 2
         have a3 := L1.out.ba.cell 3
         have y0 := L1.out.ba.frozen 0
         have y1 := L1.out.ba.frozen 1
         have y2 := L1.out.ba.frozen 2
         have y3 := L1.out.ba.frozen 3
         simp only [List.setIfInBounds_toArray, List.set_cons_zero, List.set_cons_succ, List.getElem?_toArray, List.getElem?_cons_zero, List.getElem?_cons_succ] at a0 a1 a2 a3
         have L2 := hid (L1.out.storeA 1 (.int .i64 (kk : Int)))
         have H2 := Py.other H1 L1.out.n2 (by omega) 1 (.int .i64 (kk : Int))
         have E2L := lies_set E1L (x := w.heap.size + 1 + 1) (fun hne a ha => by have := (G1.out (evV_ne hne) a ha).1; omega) 1 (.int .i64 (kk : Int))
         have n1s : n1 ≤ 1000000 := evs_le N1.out hz.out hnb2 hnb.out)
      | (go_at_call 90
         (with_reducible refine (events17_any _ A1 n1 c1 E1 E2L N1 n1s).mono ?_)
         rintro e u3 ⟨A3, n3, c3, rfl, N3, O3, k3⟩
         have H3 := Py.bel H2 k3.out
         have L3 := hid (L2.out.bel k3.out)
         have u2z : w.heap.size + 1 + 1 < (u1.setCell ⟨w.heap.size + 1 + 1, 1, none⟩ (.int .i64 (kk : Int))).heap.size := by simpa [World.setCell] using u1z
         have E3L := hid (Lies.own O3.out)
         have E3F : ∀ x, x ≤ w.heap.size + 1 + 1 → (evV E1 ≠ [] → ∀ a, A3 = some a → a.block ≠ x) := fun x hx => own_fresh (w0 := w) (by omega) O3 hx u2z
         clear a0 a1 a2 a3 y0 y1 y2 y3
         have a0 := L3.out.ba.cell 0
         have a1 := L3.out.ba.cell 1
         have a2 := L3.out.ba.cell 2
         have a3 := L3.out.ba.cell 3
         have y0 := L3.out.ba.frozen 0
         have y1 := L3.out.ba.frozen 1
         have y2 := L3.out.ba.frozen 2
         have y3 := L3.out.ba.frozen 3
         simp only [List.setIfInBounds_toArray, List.set_cons_zero, List.set_cons_succ, List.getElem?_toArray, List.getElem?_cons_zero, List.getElem?_cons_succ] at a0 a1 a2 a3
         have r0 := L3.out.br.cell 0
         have r1 := L3.out.br.cell 1
         have r2 := L3.out.br.cell 2
         have r3 := L3.out.br.cell 3
         have x0 := L3.out.br.frozen 0
         have x1 := L3.out.br.frozen 1
         have x2 := L3.out.br.frozen 2
         have x3 := L3.out.br.frozen 3
         simp only [List.getElem?_toArray, List.getElem?_cons_zero, List.getElem?_cons_succ] at r0 r1 r2 r3))
    have L4 := hid ((L3.out.storeA 2 (.int .i64 0)).storeA 3 (.slice A3 n3 c3))
    have H4 := Py.other (Py.other H3 L3.out.n2 (by omega) 2 (.int .i64 0)) L3.out.n2 (by omega) 3 (.slice A3 n3 c3)
    have E4L := lies_set (lies_set E3L (E3F _ (Nat.le_refl _)) 2 (.int .i64 0)) (E3F _ (Nat.le_refl _)) 3 (.slice A3 n3 c3)
    obtain ⟨R9, B9⟩ := L17.fin L4.out H4 (.slice none 0 0) (.int .i64 (kk : Int)) (.int .i64 0) (.slice A3 n3 c3)
    have E9L := lies_sets E4L (E3F (w.heap.size + 1) (by omega)) (.slice none 0 0) (.int .i64 (kk : Int)) (.int .i64 0) (.slice A3 n3 c3)
    have e0 := B9.out.cell 0
    have e1 := B9.out.cell 1
    have e2 := B9.out.cell 2
    have e3 := B9.out.cell 3
    simp only [List.getElem?_toArray, List.getElem?_cons_zero, List.getElem?_cons_succ] at e0 e1 e2 e3
    generalize World.setCell (World.setCell (World.setCell (World.setCell _ ⟨w.heap.size + 1, 0, none⟩ _) _ _) _ _) _ _ = v9 at R9 B9 E9L e0 e1 e2 e3 ⊢
    refine bodyPost_ret (v := .agg #[(.slice none 0 0), (.int .i64 (kk : Int)), (.int .i64 0), .slice A3 n3 c3]) (by simp [results, Tryz.results48, e0, e1, e2, e3, go_sem]) rfl ?_
    exact ⟨none, 0, 0, A3, n3, c3, S1, rfl, hid rfl, N3, E9L, R9⟩
  rw [if_neg k1] at hr2
  by_cases k2 : o.k = 2
  · rw [if_pos k2] at hr2
    rw [k2] at j0
    obtain ⟨⟨P1, bs, er⟩, hz⟩ : ∃ z, Hid (mrP P o.n = z) := ⟨_, hid rfl⟩
    rw [hz.out] at hr2
    obtain rfl := hr2
    clear cS
    clear k1
    go_wp2_with (first
      | (refine ldO17 (by rfl) _ (by rfl) w.heap.size (by rfl) o.t hl (hid L0.out.bo) F4 ?_)
      | (go_at_call 44
         (with_reducible refine (mread_any V0 fit o.n hO.out.n hz).mono ?_)
         rintro e u1 ⟨A1, n1, c1, S1, rfl, N1, L1b, h1, G1⟩
         have N1 : Hid (bs.length = n1) := N1
         have H1 := Py.trans W0 h1
         have L1 := hid (L0.out.next h1)
         have u1z : w.heap.size + 1 + 1 < u1.heap.size := L1.out.ba.lt
         clear j0 j1 j2 j3 j28 j29 j30 j31
         have a0 := L1.out.ba.cell 0
         have a1 := L1.out.ba.cell 1
         have a2 := L1.out.ba.cell 2
         have a3 := L1.out.ba.cell 3
         have y0 := L1.out.ba.frozen 0
         have y1 := L1.out.ba.frozen 1
         have y2 := L1.out.ba.frozen 2
         have y3 := L1.out.ba.frozen 3
         simp only [List.setIfInBounds_toArray, List.set_cons_zero, List.set_cons_succ, List.getElem?_toArray, List.getElem?_cons_zero, List.getElem?_cons_succ] at a0 a1 a2 a3
         have L2 := hid (L1.out.storeA 0 (.slice A1 n1 c1))
         have H2 := Py.other H1 L1.out.n2 (by omega) 0 (.slice A1 n1 c1))
      | (go_at_call 90
         (with_reducible refine (events17_any _ none 0 0 [] (hid Lies.nil_) (hid rfl) (by omega)).mono ?_)
         rintro e u3 ⟨A3, n3, c3, rfl, N3, O3, k3⟩
         have H3 := Py.bel H2 k3.out
         have L3 := hid (L2.out.bel k3.out)
         have u2z : w.heap.size + 1 + 1 < (u1.setCell ⟨w.heap.size + 1 + 1, 0, none⟩ (.slice A1 n1 c1)).heap.size := by simpa [World.setCell] using u1z
         have E3L := hid (Lies.own O3.out)
         have E3F : ∀ x, x ≤ w.heap.size + 1 + 1 → (evV [] ≠ [] → ∀ a, A3 = some a → a.block ≠ x) := fun x hx => own_fresh (w0 := w) (by omega) O3 hx u2z
         clear a0 a1 a2 a3 y0 y1 y2 y3
         have a0 := L3.out.ba.cell 0
         have a1 := L3.out.ba.cell 1
         have a2 := L3.out.ba.cell 2
         have a3 := L3.out.ba.cell 3
         have y0 := L3.out.ba.frozen 0
         have y1 := L3.out.ba.frozen 1
         have y2 := L3.out.ba.frozen 2
         have y3 := L3.out.ba.frozen 3
         simp only [List.setIfInBounds_toArray, List.set_cons_zero, List.set_cons_succ, List.getElem?_toArray, List.getElem?_cons_zero, List.getElem?_cons_succ] at a0 a1 a2 a3
         have r0 := L3.out.br.cell 0
         have r1 := L3.out.br.cell 1
         have r2 := L3.out.br.cell 2
         have r3 := L3.out.br.cell 3
         have x0 := L3.out.br.frozen 0
         have x1 := L3.out.br.frozen 1
         have x2 := L3.out.br.frozen 2
         have x3 := L3.out.br.frozen 3
         simp only [List.getElem?_toArray, List.getElem?_cons_zero, List.getElem?_cons_succ] at r0 r1 r2 r3))
    have L4 := hid ((L3.out.storeA 2 (.int .i64 er)).storeA 3 (.slice A3 n3 c3))
    have H4 := Py.other (Py.other H3 L3.out.n2 (by omega) 2 (.int .i64 er)) L3.out.n2 (by omega) 3 (.slice A3 n3 c3)
    have E4L := lies_set (lies_set E3L (E3F _ (Nat.le_refl _)) 2 (.int .i64 er)) (E3F _ (Nat.le_refl _)) 3 (.slice A3 n3 c3)
    obtain ⟨R9, B9⟩ := L17.fin L4.out H4 (.slice A1 n1 c1) (.int .i64 0) (.int .i64 er) (.slice A3 n3 c3)
    have E9L := lies_sets E4L (E3F (w.heap.size + 1) (by omega)) (.slice A1 n1 c1) (.int .i64 0) (.int .i64 er) (.slice A3 n3 c3)
    have e0 := B9.out.cell 0
    have e1 := B9.out.cell 1
    have e2 := B9.out.cell 2
    have e3 := B9.out.cell 3
    simp only [List.getElem?_toArray, List.getElem?_cons_zero, List.getElem?_cons_succ] at e0 e1 e2 e3
    generalize World.setCell (World.setCell (World.setCell (World.setCell _ ⟨w.heap.size + 1, 0, none⟩ _) _ _) _ _) _ _ = v9 at R9 B9 E9L e0 e1 e2 e3 ⊢
    refine bodyPost_ret (v := .agg #[(.slice A1 n1 c1), (.int .i64 0), (.int .i64 er), .slice A3 n3 c3]) (by simp [results, Tryz.results48, e0, e1, e2, e3, go_sem]) rfl ?_
    exact ⟨A1, n1, c1, A3, n3, c3, S1, rfl, N1, N3, E9L, R9⟩
  rw [if_neg k2] at hr2
  by_cases k3 : o.k = 3
  · rw [if_pos k3] at hr2
    rw [k3] at j0
    obtain ⟨⟨P1, er⟩, hz⟩ : ∃ z, Hid (openP P = z) := ⟨_, hid rfl⟩
    rw [hz.out] at hr2
    obtain rfl := hr2
    clear cS
    clear k1 k2
    go_wp2_with (first
      | (refine ldO17 (by rfl) _ (by rfl) w.heap.size (by rfl) o.t hl (hid L0.out.bo) F4 ?_)
      | (go_at_call 40
         (with_reducible refine (open_any V0 hz).mono ?_)
         rintro e u1 ⟨rfl, ⟨S1, h1⟩⟩
         have H1 := Py.trans W0 h1
         have L1 := hid (L0.out.next h1)
         have u1z : w.heap.size + 1 + 1 < u1.heap.size := L1.out.ba.lt
         clear j0 j1 j2 j3 j28 j29 j30 j31
         have a0 := L1.out.ba.cell 0
         have a1 := L1.out.ba.cell 1
         have a2 := L1.out.ba.cell 2
         have a3 := L1.out.ba.cell 3
         have y0 := L1.out.ba.frozen 0
         have y1 := L1.out.ba.frozen 1
         have y2 := L1.out.ba.frozen 2
         have y3 := L1.out.ba.frozen 3
         simp only [List.setIfInBounds_toArray, List.set_cons_zero, List.set_cons_succ, List.getElem?_toArray, List.getElem?_cons_zero, List.getElem?_cons_succ] at a0 a1 a2 a3
         have L2 := L1
         have H2 := H1)
      | (go_at_call 90
         (with_reducible refine (events17_any _ none 0 0 [] (hid Lies.nil_) (hid rfl) (by omega)).mono ?_)
         rintro e u3 ⟨A3, n3, c3, rfl, N3, O3, k3⟩
         have H3 := Py.bel H2 k3.out
         have L3 := hid (L2.out.bel k3.out)
         have u2z : w.heap.size + 1 + 1 < u1.heap.size := u1z
         have E3L := hid (Lies.own O3.out)
         have E3F : ∀ x, x ≤ w.heap.size + 1 + 1 → (evV [] ≠ [] → ∀ a, A3 = some a → a.block ≠ x) := fun x hx => own_fresh (w0 := w) (by omega) O3 hx u2z
         clear a0 a1 a2 a3 y0 y1 y2 y3
         have a0 := L3.out.ba.cell 0
         have a1 := L3.out.ba.cell 1
         have a2 := L3.out.ba.cell 2
         have a3 := L3.out.ba.cell 3
         have y0 := L3.out.ba.frozen 0
         have y1 := L3.out.ba.frozen 1
         have y2 := L3.out.ba.frozen 2
         have y3 := L3.out.ba.frozen 3
         simp only [List.setIfInBounds_toArray, List.set_cons_zero, List.set_cons_succ, List.getElem?_toArray, List.getElem?_cons_zero, List.getElem?_cons_succ] at a0 a1 a2 a3
         have r0 := L3.out.br.cell 0
         have r1 := L3.out.br.cell 1
         have r2 := L3.out.br.cell 2
         have r3 := L3.out.br.cell 3
         have x0 := L3.out.br.frozen 0
         have x1 := L3.out.br.frozen 1
         have x2 := L3.out.br.frozen 2
         have x3 := L3.out.br.frozen 3
         simp only [List.getElem?_toArray, List.getElem?_cons_zero, List.getElem?_cons_succ] at r0 r1 r2 r3))
    have L4 := hid ((L3.out.storeA 2 (.int .i64 er)).storeA 3 (.slice A3 n3 c3))
    have H4 := Py.other (Py.other H3 L3.out.n2 (by omega) 2 (.int .i64 er)) L3.out.n2 (by omega) 3 (.slice A3 n3 c3)
    have E4L := lies_set (lies_set E3L (E3F _ (Nat.le_refl _)) 2 (.int .i64 er)) (E3F _ (Nat.le_refl _)) 3 (.slice A3 n3 c3)
    obtain ⟨R9, B9⟩ := L17.fin L4.out H4 (.slice none 0 0) (.int .i64 0) (.int .i64 er) (.slice A3 n3 c3)
    have E9L := lies_sets E4L (E3F (w.heap.size + 1) (by omega)) (.slice none 0 0) (.int .i64 0) (.int .i64 er) (.slice A3 n3 c3)
    have e0 := B9.out.cell 0
    have e1 := B9.out.cell 1
    have e2 := B9.out.cell 2
    have e3 := B9.out.cell 3
    simp only [List.getElem?_toArray, List.getElem?_cons_zero, List.getElem?_cons_succ] at e0 e1 e2 e3
    generalize World.setCell (World.setCell (World.setCell (World.setCell _ ⟨w.heap.size + 1, 0, none⟩ _) _ _) _ _) _ _ = v9 at R9 B9 E9L e0 e1 e2 e3 ⊢
    refine bodyPost_ret (v := .agg #[(.slice none 0 0), (.int .i64 0), (.int .i64 er), .slice A3 n3 c3]) (by simp [results, Tryz.results48, e0, e1, e2, e3, go_sem]) rfl ?_
    exact ⟨none, 0, 0, A3, n3, c3, S1, rfl, hid rfl, N3, E9L, R9⟩
  rw [if_neg k3] at hr2
  by_cases k4 : o.k = 4
  · rw [if_pos k4] at hr2
    rw [k4] at j0
    obtain ⟨⟨P1, er⟩, hz⟩ : ∃ z, Hid (closeP P = z) := ⟨_, hid rfl⟩
    rw [hz.out] at hr2
    obtain rfl := hr2
    clear cS
    clear k1 k2 k3
    go_wp2_with (first
      | (refine ldO17 (by rfl) _ (by rfl) w.heap.size (by rfl) o.t hl (hid L0.out.bo) F4 ?_)
      | (go_at_call 87
         (with_reducible refine (close_any V0 hz).mono ?_)
         rintro e u1 ⟨rfl, ⟨S1, h1⟩⟩
         have H1 := Py.trans W0 h1
         have L1 := hid (L0.out.next h1)
         have u1z : w.heap.size + 1 + 1 < u1.heap.size := L1.out.ba.lt
         clear j0 j1 j2 j3 j28 j29 j30 j31
         have a0 := L1.out.ba.cell 0
         have a1 := L1.out.ba.cell 1
         have a2 := L1.out.ba.cell 2
         have a3 := L1.out.ba.cell 3
         have y0 := L1.out.ba.frozen 0
         have y1 := L1.out.ba.frozen 1
         have y2 := L1.out.ba.frozen 2
         have y3 := L1.out.ba.frozen 3
         simp only [List.setIfInBounds_toArray, List.set_cons_zero, List.set_cons_succ, List.getElem?_toArray, List.getElem?_cons_zero, List.getElem?_cons_succ] at a0 a1 a2 a3
         have L2 := L1
         have H2 := H1)
      | (go_at_call 90
         (with_reducible refine (events17_any _ none 0 0 [] (hid Lies.nil_) (hid rfl) (by omega)).mono ?_)
         rintro e u3 ⟨A3, n3, c3, rfl, N3, O3, k3⟩
         have H3 := Py.bel H2 k3.out
         have L3 := hid (L2.out.bel k3.out)
         have u2z : w.heap.size + 1 + 1 < u1.heap.size := u1z
         have E3L := hid (Lies.own O3.out)
         have E3F : ∀ x, x ≤ w.heap.size + 1 + 1 → (evV [] ≠ [] → ∀ a, A3 = some a → a.block ≠ x) := fun x hx => own_fresh (w0 := w) (by omega) O3 hx u2z
         clear a0 a1 a2 a3 y0 y1 y2 y3
         have a0 := L3.out.ba.cell 0
         have a1 := L3.out.ba.cell 1
         have a2 := L3.out.ba.cell 2
         have a3 := L3.out.ba.cell 3
         have y0 := L3.out.ba.frozen 0
         have y1 := L3.out.ba.frozen 1
         have y2 := L3.out.ba.frozen 2
         have y3 := L3.out.ba.frozen 3
         simp only [List.setIfInBounds_toArray, List.set_cons_zero, List.set_cons_succ, List.getElem?_toArray, List.getElem?_cons_zero, List.getElem?_cons_succ] at a0 a1 a2 a3
         have r0 := L3.out.br.cell 0
         have r1 := L3.out.br.cell 1
         have r2 := L3.out.br.cell 2
         have r3 := L3.out.br.cell 3
         have x0 := L3.out.br.frozen 0
         have x1 := L3.out.br.frozen 1
         have x2 := L3.out.br.frozen 2
         have x3 := L3.out.br.frozen 3
         simp only [List.getElem?_toArray, List.getElem?_cons_zero, List.getElem?_cons_succ] at r0 r1 r2 r3))
    have L4 := hid ((L3.out.storeA 2 (.int .i64 er)).storeA 3 (.slice A3 n3 c3))
    have H4 := Py.other (Py.other H3 L3.out.n2 (by omega) 2 (.int .i64 er)) L3.out.n2 (by omega) 3 (.slice A3 n3 c3)
    have E4L := lies_set (lies_set E3L (E3F _ (Nat.le_refl _)) 2 (.int .i64 er)) (E3F _ (Nat.le_refl _)) 3 (.slice A3 n3 c3)
    obtain ⟨R9, B9⟩ := L17.fin L4.out H4 (.slice none 0 0) (.int .i64 0) (.int .i64 er) (.slice A3 n3 c3)
    have E9L := lies_sets E4L (E3F (w.heap.size + 1) (by omega)) (.slice none 0 0) (.int .i64 0) (.int .i64 er) (.slice A3 n3 c3)
    have e0 := B9.out.cell 0
    have e1 := B9.out.cell 1
    have e2 := B9.out.cell 2
    have e3 := B9.out.cell 3
    simp only [List.getElem?_toArray, List.getElem?_cons_zero, List.getElem?_cons_succ] at e0 e1 e2 e3
    generalize World.setCell (World.setCell (World.setCell (World.setCell _ ⟨w.heap.size + 1, 0, none⟩ _) _ _) _ _) _ _ = v9 at R9 B9 E9L e0 e1 e2 e3 ⊢
    refine bodyPost_ret (v := .agg #[(.slice none 0 0), (.int .i64 0), (.int .i64 er), .slice A3 n3 c3]) (by simp [results, Tryz.results48, e0, e1, e2, e3, go_sem]) rfl ?_
    exact ⟨none, 0, 0, A3, n3, c3, S1, rfl, hid rfl, N3, E9L, R9⟩
  rw [if_neg k4] at hr2
  by_cases k5 : o.k = 5
  · rw [if_pos k5] at hr2
    rw [k5] at j0
    obtain ⟨⟨P1, bs, er⟩, hz⟩ : ∃ z, Hid (rdP P o.n o.m = z) := ⟨_, hid rfl⟩
    rw [hz.out] at hr2
    obtain rfl := hr2
    clear cS
    clear k1 k2 k3 k4
    go_wp2_with (first
      | (refine ldO17 (by rfl) _ (by rfl) w.heap.size (by rfl) o.t hl (hid L0.out.bo) F4 ?_)
      | (go_at_call 43
         (with_reducible refine (sread_any V0 fit o.n o.m hO.out.n hO.out.m hz).mono ?_)
         rintro e u1 ⟨A1, n1, c1, S1, rfl, N1, L1b, h1, G1⟩
         have N1 : Hid (bs.length = n1) := N1
         have H1 := Py.trans W0 h1
         have L1 := hid (L0.out.next h1)
         have u1z : w.heap.size + 1 + 1 < u1.heap.size := L1.out.ba.lt
         clear j0 j1 j2 j3 j28 j29 j30 j31
         have a0 := L1.out.ba.cell 0
         have a1 := L1.out.ba.cell 1
         have a2 := L1.out.ba.cell 2
         have a3 := L1.out.ba.cell 3
         have y0 := L1.out.ba.frozen 0
         have y1 := L1.out.ba.frozen 1
         have y2 := L1.out.ba.frozen 2
         have y3 := L1.out.ba.frozen 3
         simp only [List.setIfInBounds_toArray, List.set_cons_zero, List.set_cons_succ, List.getElem?_toArray, List.getElem?_cons_zero, List.getElem?_cons_succ] at a0 a1 a2 a3
         have L2 := hid (L1.out.storeA 0 (.slice A1 n1 c1))
         have H2 := Py.other H1 L1.out.n2 (by omega) 0 (.slice A1 n1 c1))
      | (go_at_call 90
         (with_reducible refine (events17_any _ none 0 0 [] (hid Lies.nil_) (hid rfl) (by omega)).mono ?_)
         rintro e u3 ⟨A3, n3, c3, rfl, N3, O3, k3⟩
         have H3 := Py.bel H2 k3.out
         have L3 := hid (L2.out.bel k3.out)
         have u2z : w.heap.size + 1 + 1 < (u1.setCell ⟨w.heap.size + 1 + 1, 0, none⟩ (.slice A1 n1 c1)).heap.size := by simpa [World.setCell] using u1z
         have E3L := hid (Lies.own O3.out)
         have E3F : ∀ x, x ≤ w.heap.size + 1 + 1 → (evV [] ≠ [] → ∀ a, A3 = some a → a.block ≠ x) := fun x hx => own_fresh (w0 := w) (by omega) O3 hx u2z
         clear a0 a1 a2 a3 y0 y1 y2 y3
         have a0 := L3.out.ba.cell 0
         have a1 := L3.out.ba.cell 1
         have a2 := L3.out.ba.cell 2
         have a3 := L3.out.ba.cell 3
         have y0 := L3.out.ba.frozen 0
         have y1 := L3.out.ba.frozen 1
         have y2 := L3.out.ba.frozen 2
         have y3 := L3.out.ba.frozen 3
         simp only [List.setIfInBounds_toArray, List.set_cons_zero, List.set_cons_succ, List.getElem?_toArray, List.getElem?_cons_zero, List.getElem?_cons_succ] at a0 a1 a2 a3
         have r0 := L3.out.br.cell 0
         have r1 := L3.out.br.cell 1
         have r2 := L3.out.br.cell 2
         have r3 := L3.out.br.cell 3
         have x0 := L3.out.br.frozen 0
         have x1 := L3.out.br.frozen 1
         have x2 := L3.out.br.frozen 2
         have x3 := L3.out.br.frozen 3
         simp only [List.getElem?_toArray, List.getElem?_cons_zero, List.getElem?_cons_succ] at r0 r1 r2 r3))
    have L4 := hid ((L3.out.storeA 2 (.int .i64 er)).storeA 3 (.slice A3 n3 c3))
    have H4 := Py.other (Py.other H3 L3.out.n2 (by omega) 2 (.int .i64 er)) L3.out.n2 (by omega) 3 (.slice A3 n3 c3)
    have E4L := lies_set (lies_set E3L (E3F _ (Nat.le_refl _)) 2 (.int .i64 er)) (E3F _ (Nat.le_refl _)) 3 (.slice A3 n3 c3)
    obtain ⟨R9, B9⟩ := L17.fin L4.out H4 (.slice A1 n1 c1) (.int .i64 0) (.int .i64 er) (.slice A3 n3 c3)
    have E9L := lies_sets E4L (E3F (w.heap.size + 1) (by omega)) (.slice A1 n1 c1) (.int .i64 0) (.int .i64 er) (.slice A3 n3 c3)
    have e0 := B9.out.cell 0
    have e1 := B9.out.cell 1
    have e2 := B9.out.cell 2
    have e3 := B9.out.cell 3
    simp only [List.getElem?_toArray, List.getElem?_cons_zero, List.getElem?_cons_succ] at e0 e1 e2 e3
    generalize World.setCell (World.setCell (World.setCell (World.setCell _ ⟨w.heap.size + 1, 0, none⟩ _) _ _) _ _) _ _ = v9 at R9 B9 E9L e0 e1 e2 e3 ⊢
    refine bodyPost_ret (v := .agg #[(.slice A1 n1 c1), (.int .i64 0), (.int .i64 er), .slice A3 n3 c3]) (by simp [results, Tryz.results48, e0, e1, e2, e3, go_sem]) rfl ?_
    exact ⟨A1, n1, c1, A3, n3, c3, S1, rfl, N1, N3, E9L, R9⟩
  rw [if_neg k5] at hr2
  by_cases k6 : o.k = 6
  · rw [if_pos k6] at hr2
    rw [k6] at j0
    obtain ⟨⟨P1, kk, er⟩, hz⟩ : ∃ z, Hid (wrP P o.b = z) := ⟨_, hid rfl⟩
    rw [hz.out] at hr2
    obtain rfl := hr2
    clear cS
    clear k1 k2 k3 k4 k5
    go_wp2_with (first
      | (refine ldO17 (by rfl) _ (by rfl) w.heap.size (by rfl) o.t hl (hid L0.out.bo) F4 ?_)
      | (go_at_call 42
         (with_reducible refine (swrite_any V0 fit o.A nb o.c o.b Lb hnb (by omega) hA2 hz).mono ?_)
         rintro e u1 ⟨rfl, ⟨S1, h1⟩⟩
         have H1 := Py.trans W0 h1
         have L1 := hid (L0.out.next h1)
         have u1z : w.heap.size + 1 + 1 < u1.heap.size := L1.out.ba.lt
         clear j0 j1 j2 j3 j28 j29 j30 j31
         have a0 := L1.out.ba.cell 0
         have a1 := L1.out.ba.cell 1
         have a2 := L1.out.ba.cell 2
         have a3 := L1.out.ba.cell 3
         have y0 := L1.out.ba.frozen 0
         have y1 := L1.out.ba.frozen 1
         have y2 := L1.out.ba.frozen 2
         have y3 := L1.out.ba.frozen 3
         simp only [List.setIfInBounds_toArray, List.set_cons_zero, List.set_cons_succ, List.getElem?_toArray, List.getElem?_cons_zero, List.getElem?_cons_succ] at a0 a1 a2 a3
         have L2 := hid (L1.out.storeA 1 (.int .i64 (kk : Int)))
         have H2 := Py.other H1 L1.out.n2 (by omega) 1 (.int .i64 (kk : Int)))
      | (go_at_call 90
         (with_reducible refine (events17_any _ none 0 0 [] (hid Lies.nil_) (hid rfl) (by omega)).mono ?_)
         rintro e u3 ⟨A3, n3, c3, rfl, N3, O3, k3⟩
         have H3 := Py.bel H2 k3.out
         have L3 := hid (L2.out.bel k3.out)
         have u2z : w.heap.size + 1 + 1 < (u1.setCell ⟨w.heap.size + 1 + 1, 1, none⟩ (.int .i64 (kk : Int))).heap.size := by simpa [World.setCell] using u1z
         have E3L := hid (Lies.own O3.out)
         have E3F : ∀ x, x ≤ w.heap.size + 1 + 1 → (evV [] ≠ [] → ∀ a, A3 = some a → a.block ≠ x) := fun x hx => own_fresh (w0 := w) (by omega) O3 hx u2z
         clear a0 a1 a2 a3 y0 y1 y2 y3
         have a0 := L3.out.ba.cell 0
         have a1 := L3.out.ba.cell 1
         have a2 := L3.out.ba.cell 2
         have a3 := L3.out.ba.cell 3
         have y0 := L3.out.ba.frozen 0
         have y1 := L3.out.ba.frozen 1
         have y2 := L3.out.ba.frozen 2
         have y3 := L3.out.ba.frozen 3
         simp only [List.setIfInBounds_toArray, List.set_cons_zero, List.set_cons_succ, List.getElem?_toArray, List.getElem?_cons_zero, List.getElem?_cons_succ] at a0 a1 a2 a3
         have r0 := L3.out.br.cell 0
         have r1 := L3.out.br.cell 1
         have r2 := L3.out.br.cell 2
         have r3 := L3.out.br.cell 3
         have x0 := L3.out.br.frozen 0
         have x1 := L3.out.br.frozen 1
         have x2 := L3.out.br.frozen 2
         have x3 := L3.out.br.frozen 3
         simp only [List.getElem?_toArray, List.getElem?_cons_zero, List.getElem?_cons_succ] at r0 r1 r2 r3))
    have L4 := hid ((L3.out.storeA 2 (.int .i64 er)).storeA 3 (.slice A3 n3 c3))
    have H4 := Py.other (Py.other H3 L3.out.n2 (by omega) 2 (.int .i64 er)) L3.out.n2 (by omega) 3 (.slice A3 n3 c3)
    have E4L := lies_set (lies_set E3L (E3F _ (Nat.le_refl _)) 2 (.int .i64 er)) (E3F _ (Nat.le_refl _)) 3 (.slice A3 n3 c3)
    obtain ⟨R9, B9⟩ := L17.fin L4.out H4 (.slice none 0 0) (.int .i64 (kk : Int)) (.int .i64 er) (.slice A3 n3 c3)
    have E9L := lies_sets E4L (E3F (w.heap.size + 1) (by omega)) (.slice none 0 0) (.int .i64 (kk : Int)) (.int .i64 er) (.slice A3 n3 c3)
    have e0 := B9.out.cell 0
    have e1 := B9.out.cell 1
    have e2 := B9.out.cell 2
    have e3 := B9.out.cell 3
    simp only [List.getElem?_toArray, List.getElem?_cons_zero, List.getElem?_cons_succ] at e0 e1 e2 e3
    generalize World.setCell (World.setCell (World.setCell (World.setCell _ ⟨w.heap.size + 1, 0, none⟩ _) _ _) _ _) _ _ = v9 at R9 B9 E9L e0 e1 e2 e3 ⊢
    refine bodyPost_ret (v := .agg #[(.slice none 0 0), (.int .i64 (kk : Int)), (.int .i64 er), .slice A3 n3 c3]) (by simp [results, Tryz.results48, e0, e1, e2, e3, go_sem]) rfl ?_
    exact ⟨none, 0, 0, A3, n3, c3, S1, rfl, hid rfl, N3, E9L, R9⟩
  rw [if_neg k6] at hr2
  by_cases k7 : o.k = 7
  · rw [if_pos k7] at hr2
    rw [k7] at j0
    obtain ⟨⟨P1, er⟩, hz⟩ : ∃ z, Hid (satP P o.n o.t = z) := ⟨_, hid rfl⟩
    rw [hz.out] at hr2
    obtain rfl := hr2
    clear cS
    clear k1 k2 k3 k4 k5 k6
    go_wp2_with (first
      | (refine ldO17 (by rfl) _ (by rfl) w.heap.size (by rfl) o.t hl (hid L0.out.bo) F4 ?_)
      | (go_at_call 88
         (with_reducible refine (setAttr_any V0 fit o.n o.t hO.out.t hz).mono ?_)
         rintro e u1 ⟨rfl, ⟨S1, h1⟩⟩
         have H1 := Py.trans W0 h1
         have L1 := hid (L0.out.next h1)
         have u1z : w.heap.size + 1 + 1 < u1.heap.size := L1.out.ba.lt
         clear j0 j1 j2 j3 j28 j29 j30 j31
         have a0 := L1.out.ba.cell 0
         have a1 := L1.out.ba.cell 1
         have a2 := L1.out.ba.cell 2
         have a3 := L1.out.ba.cell 3
         have y0 := L1.out.ba.frozen 0
         have y1 := L1.out.ba.frozen 1
         have y2 := L1.out.ba.frozen 2
         have y3 := L1.out.ba.frozen 3
         simp only [List.setIfInBounds_toArray, List.set_cons_zero, List.set_cons_succ, List.getElem?_toArray, List.getElem?_cons_zero, List.getElem?_cons_succ] at a0 a1 a2 a3
         have L2 := L1
         have H2 := H1)
      | (go_at_call 90
         (with_reducible refine (events17_any _ none 0 0 [] (hid Lies.nil_) (hid rfl) (by omega)).mono ?_)
         rintro e u3 ⟨A3, n3, c3, rfl, N3, O3, k3⟩
         have H3 := Py.bel H2 k3.out
         have L3 := hid (L2.out.bel k3.out)
         have u2z : w.heap.size + 1 + 1 < u1.heap.size := u1z
         have E3L := hid (Lies.own O3.out)
         have E3F : ∀ x, x ≤ w.heap.size + 1 + 1 → (evV [] ≠ [] → ∀ a, A3 = some a → a.block ≠ x) := fun x hx => own_fresh (w0 := w) (by omega) O3 hx u2z
         clear a0 a1 a2 a3 y0 y1 y2 y3
         have a0 := L3.out.ba.cell 0
         have a1 := L3.out.ba.cell 1
         have a2 := L3.out.ba.cell 2
         have a3 := L3.out.ba.cell 3
         have y0 := L3.out.ba.frozen 0
         have y1 := L3.out.ba.frozen 1
         have y2 := L3.out.ba.frozen 2
         have y3 := L3.out.ba.frozen 3
         simp only [List.setIfInBounds_toArray, List.set_cons_zero, List.set_cons_succ, List.getElem?_toArray, List.getElem?_cons_zero, List.getElem?_cons_succ] at a0 a1 a2 a3
         have r0 := L3.out.br.cell 0
         have r1 := L3.out.br.cell 1
         have r2 := L3.out.br.cell 2
         have r3 := L3.out.br.cell 3
         have x0 := L3.out.br.frozen 0
         have x1 := L3.out.br.frozen 1
         have x2 := L3.out.br.frozen 2
         have x3 := L3.out.br.frozen 3
         simp only [List.getElem?_toArray, List.getElem?_cons_zero, List.getElem?_cons_succ] at r0 r1 r2 r3))
    have L4 := hid ((L3.out.storeA 2 (.int .i64 er)).storeA 3 (.slice A3 n3 c3))
    have H4 := Py.other (Py.other H3 L3.out.n2 (by omega) 2 (.int .i64 er)) L3.out.n2 (by omega) 3 (.slice A3 n3 c3)
    have E4L := lies_set (lies_set E3L (E3F _ (Nat.le_refl _)) 2 (.int .i64 er)) (E3F _ (Nat.le_refl _)) 3 (.slice A3 n3 c3)
    obtain ⟨R9, B9⟩ := L17.fin L4.out H4 (.slice none 0 0) (.int .i64 0) (.int .i64 er) (.slice A3 n3 c3)
    have E9L := lies_sets E4L (E3F (w.heap.size + 1) (by omega)) (.slice none 0 0) (.int .i64 0) (.int .i64 er) (.slice A3 n3 c3)
    have e0 := B9.out.cell 0
    have e1 := B9.out.cell 1
    have e2 := B9.out.cell 2
    have e3 := B9.out.cell 3
    simp only [List.getElem?_toArray, List.getElem?_cons_zero, List.getElem?_cons_succ] at e0 e1 e2 e3
    generalize World.setCell (World.setCell (World.setCell (World.setCell _ ⟨w.heap.size + 1, 0, none⟩ _) _ _) _ _) _ _ = v9 at R9 B9 E9L e0 e1 e2 e3 ⊢
    refine bodyPost_ret (v := .agg #[(.slice none 0 0), (.int .i64 0), (.int .i64 er), .slice A3 n3 c3]) (by simp [results, Tryz.results48, e0, e1, e2, e3, go_sem]) rfl ?_
    exact ⟨none, 0, 0, A3, n3, c3, S1, rfl, hid rfl, N3, E9L, R9⟩
  rw [if_neg k7] at hr2
  by_cases k8 : o.k = 8
  · rw [if_pos k8] at hr2
    rw [k8] at j0
    obtain ⟨⟨P1, E1⟩, hz⟩ : ∃ z, Hid (sizeP P o.z = z) := ⟨_, hid rfl⟩
    rw [hz.out] at hr2
    obtain rfl := hr2
    rw [hz.out] at cS
    clear k1 k2 k3 k4 k5 k6 k7
    go_wp2_with (first
      | (refine ldO17 (by rfl) _ (by rfl) w.heap.size (by rfl) o.t hl (hid L0.out.bo) F4 ?_)
      | (go_at_call 49
         (with_reducible refine (cS).mono ?_)
         rintro e u1 ⟨A1, n1, c1, S1, rfl, N1, E1L, h1, G1⟩
         have N1 : Hid (E1.length = n1) := N1
         have E1L : Hid (Lies u1 u1.heap.size A1 (evV E1)) := E1L
         have G1 : Hid (E1 ≠ [] → ∀ a, A1 = some a → v.heap.size ≤ a.block ∧ ¬ GS g S1 a.block) := G1
         have H1 := Py.trans W0 h1
         have L1 := hid (L0.out.next h1)
         have u1z : w.heap.size + 1 + 1 < u1.heap.size := L1.out.ba.lt
         clear j0 j1 j2 j3 j28 j29 j30 j31
         have a0 := L1.out.ba.cell 0
         have a1 := L1.out.ba.cell 1
         have a2 := L1.out.ba.cell 2
         have a3 := L1.out.ba.cell 3
         have y0 := L1.out.ba.frozen 0
         have y1 := L1.out.ba.frozen 1
         have y2 := L1.out.ba.frozen 2
         have y3 := L1.out.ba.frozen 3
         simp only [List.setIfInBounds_toArray, List.set_cons_zero, List.set_cons_succ, List.getElem?_toArray, List.getElem?_cons_zero, List.getElem?_cons_succ] at a0 a1 a2 a3
         have L2 := L1
         have H2 := H1
         have E2L := E1L
         have n1s : n1 ≤ 1000000 := by rw [← N1.out]; exact sizeP_le hz.out)
      | (go_at_call 90
         (with_reducible refine (events17_any _ A1 n1 c1 E1 E2L N1 n1s).mono ?_)
         rintro e u3 ⟨A3, n3, c3, rfl, N3, O3, k3⟩
         have H3 := Py.bel H2 k3.out
         have L3 := hid (L2.out.bel k3.out)
         have u2z : w.heap.size + 1 + 1 < u1.heap.size := u1z
         have E3L := hid (Lies.own O3.out)
         have E3F : ∀ x, x ≤ w.heap.size + 1 + 1 → (evV E1 ≠ [] → ∀ a, A3 = some a → a.block ≠ x) := fun x hx => own_fresh (w0 := w) (by omega) O3 hx u2z
         clear a0 a1 a2 a3 y0 y1 y2 y3
         have a0 := L3.out.ba.cell 0
         have a1 := L3.out.ba.cell 1
         have a2 := L3.out.ba.cell 2
         have a3 := L3.out.ba.cell 3
         have y0 := L3.out.ba.frozen 0
         have y1 := L3.out.ba.frozen 1
         have y2 := L3.out.ba.frozen 2
         have y3 := L3.out.ba.frozen 3
         simp only [List.setIfInBounds_toArray, List.set_cons_zero, List.set_cons_succ, List.getElem?_toArray, List.getElem?_cons_zero, List.getElem?_cons_succ] at a0 a1 a2 a3
         have r0 := L3.out.br.cell 0
         have r1 := L3.out.br.cell 1
         have r2 := L3.out.br.cell 2
         have r3 := L3.out.br.cell 3
         have x0 := L3.out.br.frozen 0
         have x1 := L3.out.br.frozen 1
         have x2 := L3.out.br.frozen 2
         have x3 := L3.out.br.frozen 3
         simp only [List.getElem?_toArray, List.getElem?_cons_zero, List.getElem?_cons_succ] at r0 r1 r2 r3))
    have L4 := hid ((L3.out.storeA 2 (.int .i64 0)).storeA 3 (.slice A3 n3 c3))
    have H4 := Py.other (Py.other H3 L3.out.n2 (by omega) 2 (.int .i64 0)) L3.out.n2 (by omega) 3 (.slice A3 n3 c3)
    have E4L := lies_set (lies_set E3L (E3F _ (Nat.le_refl _)) 2 (.int .i64 0)) (E3F _ (Nat.le_refl _)) 3 (.slice A3 n3 c3)
    obtain ⟨R9, B9⟩ := L17.fin L4.out H4 (.slice none 0 0) (.int .i64 0) (.int .i64 0) (.slice A3 n3 c3)
    have E9L := lies_sets E4L (E3F (w.heap.size + 1) (by omega)) (.slice none 0 0) (.int .i64 0) (.int .i64 0) (.slice A3 n3 c3)
    have e0 := B9.out.cell 0
    have e1 := B9.out.cell 1
    have e2 := B9.out.cell 2
    have e3 := B9.out.cell 3
    simp only [List.getElem?_toArray, List.getElem?_cons_zero, List.getElem?_cons_succ] at e0 e1 e2 e3
    generalize World.setCell (World.setCell (World.setCell (World.setCell _ ⟨w.heap.size + 1, 0, none⟩ _) _ _) _ _) _ _ = v9 at R9 B9 E9L e0 e1 e2 e3 ⊢
    refine bodyPost_ret (v := .agg #[(.slice none 0 0), (.int .i64 0), (.int .i64 0), .slice A3 n3 c3]) (by simp [results, Tryz.results48, e0, e1, e2, e3, go_sem]) rfl ?_
    exact ⟨none, 0, 0, A3, n3, c3, S1, rfl, hid rfl, N3, E9L, R9⟩
  rw [if_neg k8] at hr2
  by_cases k9 : o.k = 9
  · rw [if_pos k9] at hr2
    rw [k9] at j0
    obtain ⟨⟨P1, er⟩, hz⟩ : ∃ z, Hid (bindP P o.n o.m = z) := ⟨_, hid rfl⟩
    rw [hz.out] at hr2
    obtain rfl := hr2
    clear cS
    clear k1 k2 k3 k4 k5 k6 k7 k8
    go_wp2_with (first
      | (refine ldO17 (by rfl) _ (by rfl) w.heap.size (by rfl) o.t hl (hid L0.out.bo) F4 ?_)
      | (go_at_call 78
         (with_reducible refine (bind_any V0 o.n o.m hz).mono ?_)
         rintro e u1 ⟨rfl, ⟨S1, h1⟩⟩
         have H1 := Py.trans W0 h1
         have L1 := hid (L0.out.next h1)
         have u1z : w.heap.size + 1 + 1 < u1.heap.size := L1.out.ba.lt
         clear j0 j1 j2 j3 j28 j29 j30 j31
         have a0 := L1.out.ba.cell 0
         have a1 := L1.out.ba.cell 1
         have a2 := L1.out.ba.cell 2
         have a3 := L1.out.ba.cell 3
         have y0 := L1.out.ba.frozen 0
         have y1 := L1.out.ba.frozen 1
         have y2 := L1.out.ba.frozen 2
         have y3 := L1.out.ba.frozen 3
         simp only [List.setIfInBounds_toArray, List.set_cons_zero, List.set_cons_succ, List.getElem?_toArray, List.getElem?_cons_zero, List.getElem?_cons_succ] at a0 a1 a2 a3
         have L2 := L1
         have H2 := H1)
      | (go_at_call 90
         (with_reducible refine (events17_any _ none 0 0 [] (hid Lies.nil_) (hid rfl) (by omega)).mono ?_)
         rintro e u3 ⟨A3, n3, c3, rfl, N3, O3, k3⟩
         have H3 := Py.bel H2 k3.out
         have L3 := hid (L2.out.bel k3.out)
         have u2z : w.heap.size + 1 + 1 < u1.heap.size := u1z
         have E3L := hid (Lies.own O3.out)
         have E3F : ∀ x, x ≤ w.heap.size + 1 + 1 → (evV [] ≠ [] → ∀ a, A3 = some a → a.block ≠ x) := fun x hx => own_fresh (w0 := w) (by omega) O3 hx u2z
         clear a0 a1 a2 a3 y0 y1 y2 y3
         have a0 := L3.out.ba.cell 0
         have a1 := L3.out.ba.cell 1
         have a2 := L3.out.ba.cell 2
         have a3 := L3.out.ba.cell 3
         have y0 := L3.out.ba.frozen 0
         have y1 := L3.out.ba.frozen 1
         have y2 := L3.out.ba.frozen 2
         have y3 := L3.out.ba.frozen 3
         simp only [List.setIfInBounds_toArray, List.set_cons_zero, List.set_cons_succ, List.getElem?_toArray, List.getElem?_cons_zero, List.getElem?_cons_succ] at a0 a1 a2 a3
         have r0 := L3.out.br.cell 0
         have r1 := L3.out.br.cell 1
         have r2 := L3.out.br.cell 2
         have r3 := L3.out.br.cell 3
         have x0 := L3.out.br.frozen 0
         have x1 := L3.out.br.frozen 1
         have x2 := L3.out.br.frozen 2
         have x3 := L3.out.br.frozen 3
         simp only [List.getElem?_toArray, List.getElem?_cons_zero, List.getElem?_cons_succ] at r0 r1 r2 r3))
    have L4 := hid ((L3.out.storeA 2 (.int .i64 er)).storeA 3 (.slice A3 n3 c3))
    have H4 := Py.other (Py.other H3 L3.out.n2 (by omega) 2 (.int .i64 er)) L3.out.n2 (by omega) 3 (.slice A3 n3 c3)
    have E4L := lies_set (lies_set E3L (E3F _ (Nat.le_refl _)) 2 (.int .i64 er)) (E3F _ (Nat.le_refl _)) 3 (.slice A3 n3 c3)
    obtain ⟨R9, B9⟩ := L17.fin L4.out H4 (.slice none 0 0) (.int .i64 0) (.int .i64 er) (.slice A3 n3 c3)
    have E9L := lies_sets E4L (E3F (w.heap.size + 1) (by omega)) (.slice none 0 0) (.int .i64 0) (.int .i64 er) (.slice A3 n3 c3)
    have e0 := B9.out.cell 0
    have e1 := B9.out.cell 1
    have e2 := B9.out.cell 2
    have e3 := B9.out.cell 3
    simp only [List.getElem?_toArray, List.getElem?_cons_zero, List.getElem?_cons_succ] at e0 e1 e2 e3
    generalize World.setCell (World.setCell (World.setCell (World.setCell _ ⟨w.heap.size + 1, 0, none⟩ _) _ _) _ _) _ _ = v9 at R9 B9 E9L e0 e1 e2 e3 ⊢
    refine bodyPost_ret (v := .agg #[(.slice none 0 0), (.int .i64 0), (.int .i64 er), .slice A3 n3 c3]) (by simp [results, Tryz.results48, e0, e1, e2, e3, go_sem]) rfl ?_
    exact ⟨none, 0, 0, A3, n3, c3, S1, rfl, hid rfl, N3, E9L, R9⟩
  rw [if_neg k9] at hr2
  by_cases k10 : o.k = 10
  · rw [if_pos k10] at hr2
    rw [k10] at j0
    obtain ⟨⟨P1, er⟩, hz⟩ : ∃ z, Hid (groupP P o.n = z) := ⟨_, hid rfl⟩
    rw [hz.out] at hr2
    obtain rfl := hr2
    clear cS
    clear k1 k2 k3 k4 k5 k6 k7 k8 k9
    go_wp2_with (first
      | (refine ldO17 (by rfl) _ (by rfl) w.heap.size (by rfl) o.t hl (hid L0.out.bo) F4 ?_)
      | (go_at_call 89
         (with_reducible refine (group_any V0 o.n hz).mono ?_)
         rintro e u1 ⟨rfl, ⟨S1, h1⟩⟩
         have H1 := Py.trans W0 h1
         have L1 := hid (L0.out.next h1)
         have u1z : w.heap.size + 1 + 1 < u1.heap.size := L1.out.ba.lt
         clear j0 j1 j2 j3 j28 j29 j30 j31
         have a0 := L1.out.ba.cell 0
         have a1 := L1.out.ba.cell 1
         have a2 := L1.out.ba.cell 2
         have a3 := L1.out.ba.cell 3
         have y0 := L1.out.ba.frozen 0
         have y1 := L1.out.ba.frozen 1
         have y2 := L1.out.ba.frozen 2
         have y3 := L1.out.ba.frozen 3
         simp only [List.setIfInBounds_toArray, List.set_cons_zero, List.set_cons_succ, List.getElem?_toArray, List.getElem?_cons_zero, List.getElem?_cons_succ] at a0 a1 a2 a3
         have L2 := L1
         have H2 := H1)
      | (go_at_call 90
         (with_reducible refine (events17_any _ none 0 0 [] (hid Lies.nil_) (hid rfl) (by omega)).mono ?_)
         rintro e u3 ⟨A3, n3, c3, rfl, N3, O3, k3⟩
         have H3 := Py.bel H2 k3.out
         have L3 := hid (L2.out.bel k3.out)
         have u2z : w.heap.size + 1 + 1 < u1.heap.size := u1z
         have E3L := hid (Lies.own O3.out)
         have E3F : ∀ x, x ≤ w.heap.size + 1 + 1 → (evV [] ≠ [] → ∀ a, A3 = some a → a.block ≠ x) := fun x hx => own_fresh (w0 := w) (by omega) O3 hx u2z
         clear a0 a1 a2 a3 y0 y1 y2 y3
         have a0 := L3.out.ba.cell 0
         have a1 := L3.out.ba.cell 1
         have a2 := L3.out.ba.cell 2
         have a3 := L3.out.ba.cell 3
         have y0 := L3.out.ba.frozen 0
         have y1 := L3.out.ba.frozen 1
         have y2 := L3.out.ba.frozen 2
         have y3 := L3.out.ba.frozen 3
         simp only [List.setIfInBounds_toArray, List.set_cons_zero, List.set_cons_succ, List.getElem?_toArray, List.getElem?_cons_zero, List.getElem?_cons_succ] at a0 a1 a2 a3
         have r0 := L3.out.br.cell 0
         have r1 := L3.out.br.cell 1
         have r2 := L3.out.br.cell 2
         have r3 := L3.out.br.cell 3
         have x0 := L3.out.br.frozen 0
         have x1 := L3.out.br.frozen 1
         have x2 := L3.out.br.frozen 2
         have x3 := L3.out.br.frozen 3
         simp only [List.getElem?_toArray, List.getElem?_cons_zero, List.getElem?_cons_succ] at r0 r1 r2 r3))
    have L4 := hid ((L3.out.storeA 2 (.int .i64 er)).storeA 3 (.slice A3 n3 c3))
    have H4 := Py.other (Py.other H3 L3.out.n2 (by omega) 2 (.int .i64 er)) L3.out.n2 (by omega) 3 (.slice A3 n3 c3)
    have E4L := lies_set (lies_set E3L (E3F _ (Nat.le_refl _)) 2 (.int .i64 er)) (E3F _ (Nat.le_refl _)) 3 (.slice A3 n3 c3)
    obtain ⟨R9, B9⟩ := L17.fin L4.out H4 (.slice none 0 0) (.int .i64 0) (.int .i64 er) (.slice A3 n3 c3)
    have E9L := lies_sets E4L (E3F (w.heap.size + 1) (by omega)) (.slice none 0 0) (.int .i64 0) (.int .i64 er) (.slice A3 n3 c3)
    have e0 := B9.out.cell 0
    have e1 := B9.out.cell 1
    have e2 := B9.out.cell 2
    have e3 := B9.out.cell 3
    simp only [List.getElem?_toArray, List.getElem?_cons_zero, List.getElem?_cons_succ] at e0 e1 e2 e3
    generalize World.setCell (World.setCell (World.setCell (World.setCell _ ⟨w.heap.size + 1, 0, none⟩ _) _ _) _ _) _ _ = v9 at R9 B9 E9L e0 e1 e2 e3 ⊢
    refine bodyPost_ret (v := .agg #[(.slice none 0 0), (.int .i64 0), (.int .i64 er), .slice A3 n3 c3]) (by simp [results, Tryz.results48, e0, e1, e2, e3, go_sem]) rfl ?_
    exact ⟨none, 0, 0, A3, n3, c3, S1, rfl, hid rfl, N3, E9L, R9⟩
  rw [if_neg k10] at hr2
  by_cases k11 : o.k = 11
  · rw [if_pos k11] at hr2
    rw [k11] at j0
    obtain ⟨⟨P1, E1⟩, hz⟩ : ∃ z, Hid (hangP P = z) := ⟨_, hid rfl⟩
    rw [hz.out] at hr2
    obtain rfl := hr2
    clear cS
    clear k1 k2 k3 k4 k5 k6 k7 k8 k9 k10
    go_wp2_with (first
      | (refine ldO17 (by rfl) _ (by rfl) w.heap.size (by rfl) o.t hl (hid L0.out.bo) F4 ?_)
      | (go_at_call 47
         (with_reducible refine (hang_any V0 fit hz).mono ?_)
         rintro e u1 ⟨A1, n1, c1, S1, rfl, N1, E1L, h1, G1⟩
         have N1 : Hid (E1.length = n1) := N1
         have E1L : Hid (Lies u1 u1.heap.size A1 (evV E1)) := E1L
         have G1 : Hid (E1 ≠ [] → ∀ a, A1 = some a → v.heap.size ≤ a.block ∧ ¬ GS g S1 a.block) := G1
         have H1 := Py.trans W0 h1
         have L1 := hid (L0.out.next h1)
         have u1z : w.heap.size + 1 + 1 < u1.heap.size := L1.out.ba.lt
         clear j0 j1 j2 j3 j28 j29 j30 j31
         have a0 := L1.out.ba.cell 0
         have a1 := L1.out.ba.cell 1
         have a2 := L1.out.ba.cell 2
         have a3 := L1.out.ba.cell 3
         have y0 := L1.out.ba.frozen 0
         have y1 := L1.out.ba.frozen 1
         have y2 := L1.out.ba.frozen 2
         have y3 := L1.out.ba.frozen 3
         simp only [List.setIfInBounds_toArray, List.set_cons_zero, List.set_cons_succ, List.getElem?_toArray, List.getElem?_cons_zero, List.getElem?_cons_succ] at a0 a1 a2 a3
         have L2 := L1
         have H2 := H1
         have E2L := E1L
         have n1s : n1 ≤ 1000000 := by rw [← N1.out]; exact hangP_le hz.out)
      | (go_at_call 90
         (with_reducible refine (events17_any _ A1 n1 c1 E1 E2L N1 n1s).mono ?_)
         rintro e u3 ⟨A3, n3, c3, rfl, N3, O3, k3⟩
         have H3 := Py.bel H2 k3.out
         have L3 := hid (L2.out.bel k3.out)
         have u2z : w.heap.size + 1 + 1 < u1.heap.size := u1z
         have E3L := hid (Lies.own O3.out)
         have E3F : ∀ x, x ≤ w.heap.size + 1 + 1 → (evV E1 ≠ [] → ∀ a, A3 = some a → a.block ≠ x) := fun x hx => own_fresh (w0 := w) (by omega) O3 hx u2z
         clear a0 a1 a2 a3 y0 y1 y2 y3
         have a0 := L3.out.ba.cell 0
         have a1 := L3.out.ba.cell 1
         have a2 := L3.out.ba.cell 2
         have a3 := L3.out.ba.cell 3
         have y0 := L3.out.ba.frozen 0
         have y1 := L3.out.ba.frozen 1
         have y2 := L3.out.ba.frozen 2
         have y3 := L3.out.ba.frozen 3
         simp only [List.setIfInBounds_toArray, List.set_cons_zero, List.set_cons_succ, List.getElem?_toArray, List.getElem?_cons_zero, List.getElem?_cons_succ] at a0 a1 a2 a3
         have r0 := L3.out.br.cell 0
         have r1 := L3.out.br.cell 1
         have r2 := L3.out.br.cell 2
         have r3 := L3.out.br.cell 3
         have x0 := L3.out.br.frozen 0
         have x1 := L3.out.br.frozen 1
         have x2 := L3.out.br.frozen 2
         have x3 := L3.out.br.frozen 3
         simp only [List.getElem?_toArray, List.getElem?_cons_zero, List.getElem?_cons_succ] at r0 r1 r2 r3))
    have L4 := hid ((L3.out.storeA 2 (.int .i64 0)).storeA 3 (.slice A3 n3 c3))
    have H4 := Py.other (Py.other H3 L3.out.n2 (by omega) 2 (.int .i64 0)) L3.out.n2 (by omega) 3 (.slice A3 n3 c3)
    have E4L := lies_set (lies_set E3L (E3F _ (Nat.le_refl _)) 2 (.int .i64 0)) (E3F _ (Nat.le_refl _)) 3 (.slice A3 n3 c3)
    obtain ⟨R9, B9⟩ := L17.fin L4.out H4 (.slice none 0 0) (.int .i64 0) (.int .i64 0) (.slice A3 n3 c3)
    have E9L := lies_sets E4L (E3F (w.heap.size + 1) (by omega)) (.slice none 0 0) (.int .i64 0) (.int .i64 0) (.slice A3 n3 c3)
    have e0 := B9.out.cell 0
    have e1 := B9.out.cell 1
    have e2 := B9.out.cell 2
    have e3 := B9.out.cell 3
    simp only [List.getElem?_toArray, List.getElem?_cons_zero, List.getElem?_cons_succ] at e0 e1 e2 e3
    generalize World.setCell (World.setCell (World.setCell (World.setCell _ ⟨w.heap.size + 1, 0, none⟩ _) _ _) _ _) _ _ = v9 at R9 B9 E9L e0 e1 e2 e3 ⊢
    refine bodyPost_ret (v := .agg #[(.slice none 0 0), (.int .i64 0), (.int .i64 0), .slice A3 n3 c3]) (by simp [results, Tryz.results48, e0, e1, e2, e3, go_sem]) rfl ?_
    exact ⟨none, 0, 0, A3, n3, c3, S1, rfl, hid rfl, N3, E9L, R9⟩
  rw [if_neg k11] at hr2
  obtain rfl := hr2
  have b1 : (o.k == 1) = false := beq_eq_false_iff_ne.2 k1
  have b2 : (o.k == 2) = false := beq_eq_false_iff_ne.2 k2
  have b3 : (o.k == 3) = false := beq_eq_false_iff_ne.2 k3
  have b4 : (o.k == 4) = false := beq_eq_false_iff_ne.2 k4
  have b5 : (o.k == 5) = false := beq_eq_false_iff_ne.2 k5
  have b6 : (o.k == 6) = false := beq_eq_false_iff_ne.2 k6
  have b7 : (o.k == 7) = false := beq_eq_false_iff_ne.2 k7
  have b8 : (o.k == 8) = false := beq_eq_false_iff_ne.2 k8
  have b9 : (o.k == 9) = false := beq_eq_false_iff_ne.2 k9
  have b10 : (o.k == 10) = false := beq_eq_false_iff_ne.2 k10
  have b11 : (o.k == 11) = false := beq_eq_false_iff_ne.2 k11
  clear cS k1 k2 k3 k4 k5 k6 k7 k8 k9 k10 k11
  have L2 := L0
  have H2 := W0
  have a0 := L2.out.ba.cell 0
  have a1 := L2.out.ba.cell 1
  have a2 := L2.out.ba.cell 2
  have a3 := L2.out.ba.cell 3
  have y0 := L2.out.ba.frozen 0
  have y1 := L2.out.ba.frozen 1
  have y2 := L2.out.ba.frozen 2
  have y3 := L2.out.ba.frozen 3
  simp only [List.setIfInBounds_toArray, List.set_cons_zero, List.set_cons_succ, List.getElem?_toArray, List.getElem?_cons_zero, List.getElem?_cons_succ] at a0 a1 a2 a3
  go_wp2_with (first
    | (go_at_call 90
       (with_reducible refine (events17_any _ none 0 0 [] (hid Lies.nil_) (hid rfl) (by omega)).mono ?_)
       rintro e u3 ⟨A3, n3, c3, rfl, N3, O3, k3⟩
       have H3 := Py.bel H2 k3.out
       have L3 := hid (L2.out.bel k3.out)
       have E3L := hid (Lies.own O3.out)
       have E3F : ∀ x, x ≤ w.heap.size + 1 + 1 → (evV [] ≠ [] → ∀ a, A3 = some a → a.block ≠ x) := fun x hx => own_fresh (w0 := w) (by omega) O3 hx vsz
       clear a0 a1 a2 a3 y0 y1 y2 y3
       have a0 := L3.out.ba.cell 0
       have a1 := L3.out.ba.cell 1
       have a2 := L3.out.ba.cell 2
       have a3 := L3.out.ba.cell 3
       have y0 := L3.out.ba.frozen 0
       have y1 := L3.out.ba.frozen 1
       have y2 := L3.out.ba.frozen 2
       have y3 := L3.out.ba.frozen 3
       simp only [List.setIfInBounds_toArray, List.set_cons_zero, List.set_cons_succ, List.getElem?_toArray, List.getElem?_cons_zero, List.getElem?_cons_succ] at a0 a1 a2 a3
       have r0 := L3.out.br.cell 0
       have r1 := L3.out.br.cell 1
       have r2 := L3.out.br.cell 2
       have r3 := L3.out.br.cell 3
       have x0 := L3.out.br.frozen 0
       have x1 := L3.out.br.frozen 1
       have x2 := L3.out.br.frozen 2
       have x3 := L3.out.br.frozen 3
       simp only [List.getElem?_toArray, List.getElem?_cons_zero, List.getElem?_cons_succ] at r0 r1 r2 r3))
  have L4 := hid ((L3.out.storeA 2 (.int .i64 0)).storeA 3 (.slice A3 n3 c3))
  have H4 := Py.other (Py.other H3 L3.out.n2 (by omega) 2 (.int .i64 0)) L3.out.n2 (by omega) 3 (.slice A3 n3 c3)
  have E4L := lies_set (lies_set E3L (E3F _ (Nat.le_refl _)) 2 (.int .i64 0)) (E3F _ (Nat.le_refl _)) 3 (.slice A3 n3 c3)
  obtain ⟨R9, B9⟩ := L17.fin L4.out H4 (.slice none 0 0) (.int .i64 0) (.int .i64 0) (.slice A3 n3 c3)
  have E9L := lies_sets E4L (E3F (w.heap.size + 1) (by omega)) (.slice none 0 0) (.int .i64 0) (.int .i64 0) (.slice A3 n3 c3)
  have e0 := B9.out.cell 0
  have e1 := B9.out.cell 1
  have e2 := B9.out.cell 2
  have e3 := B9.out.cell 3
  simp only [List.getElem?_toArray, List.getElem?_cons_zero, List.getElem?_cons_succ] at e0 e1 e2 e3
  generalize World.setCell (World.setCell (World.setCell (World.setCell _ ⟨w.heap.size + 1, 0, none⟩ _) _ _) _ _) _ _ = v9 at R9 B9 E9L e0 e1 e2 e3 ⊢
  refine bodyPost_ret (v := .agg #[.slice none 0 0, .int .i64 0, .int .i64 0, .slice A3 n3 c3]) (by simp [results, Tryz.results48, e0, e1, e2, e3, go_sem]) rfl ?_
  exact ⟨none, 0, 0, A3, n3, c3, S, rfl, hid rfl, N3, E9L, R9⟩
end Go.Proofs.YtggcampdkgfmgaaGreat
