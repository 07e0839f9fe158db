import Derived.Test.YtjbmoiblkehbmaaDoorSGB
import Derived.Deep.RegionLaw
namespace Go.Proofs.YtjbmoiblkehbmaaDoor
namespace L18
open Go.RowKit

/-! Layer 18: the program's sets. -/
def iv (l : List Int) : List Value := l.map (Value.int .i64)
theorem iv_append (a b : List Int) : iv (a ++ b) = iv a ++ iv b := by simp [iv]
theorem iv_length (a : List Int) : (iv a).length = a.length := by simp [iv]
theorem iv_one (a : List Int) : ∀ u ∈ iv a, u.oneCell' = true := by
  intro u hu
  simp only [iv, List.mem_map] at hu
  obtain ⟨c, _, rfl⟩ := hu
  rfl
/-- Numbers in memory. -/
def SlI (w : World) (B : Nat) (A : Option Addr) (c : Nat) (l : List Int) : Prop := l.length ≤ c ∧ c ≤ maxLen ∧ (A = none → c = 0) ∧ Lies w B A (iv l)
theorem sli_up {u W : World} {A : Option Addr} {c : Nat} {l : List Int} (h : Hid (SlI u u.heap.size A c l)) (hW : Below u.heap.size u W) : Hid (SlI W W.heap.size A c l) :=
  hid ⟨h.out.1, h.out.2.1, h.out.2.2.1, (h.out.2.2.2.below hW).more hW.size⟩
theorem sli_nil (u : World) : Hid (SlI u u.heap.size none 0 []) := hid ⟨Nat.le_refl _, Nat.zero_le _, fun _ => rfl, Lies.nil_⟩
theorem sli_lit (W : World) (l : List Int) (n g : Nat) (cs : Array Value) (hc : (iv l).toArray = cs) (hn : l.length = n) (hm : n ≤ 1000000) (hg : g = W.heap.size) : Hid (SlI (W.alloc (.cells cs 3)) (W.alloc (.cells cs 3)).heap.size (some ⟨g, 0, none⟩) n l) := by
  subst hc; subst hn; subst hg
  refine hid ⟨Nat.le_refl _, by unfold maxLen; omega, by simp, ?_⟩
  have := lies_lit W (iv l).toArray 3
  rw [World.size_alloc]
  simpa using this
theorem sli_cell {w : World} {B n c : Nat} {A : Option Addr} {l : List Int} (h : SlI w B A c l) {j : Nat} (hn : l.length = n) (hj : j < n) : ∃ b o y, A = some ⟨b, o, none⟩ ∧ l[j]? = some y ∧ l.drop j = y :: l.drop (j + 1) ∧ w.cell? ⟨b, o + j, none⟩ = some (.int .i64 y) := by
  subst hn
  obtain ⟨b, o, rfl, hb, hc⟩ := h.2.2.2 (by
    intro e
    have : l = [] := by simpa [iv] using e
    subst this; simp at hj)
  exact ⟨b, o, l[j], rfl, by simp [hj], List.drop_eq_getElem_cons hj, hc j _ (by simp [iv, hj])⟩
theorem info_parts {P : Program} {t : TypeId} {z : Value} {s b : Nat} (h : (P.info? t).map (fun i => (i.zero, i.size, i.bytes)) = some (some z, s, b)) : ∃ i, P.info? t = some i ∧ i.zero = some z ∧ i.size = s ∧ i.bytes = b := by
  cases hq : P.info? t with
  | none => simp [hq] at h
  | some i =>
    simp [hq] at h
    exact ⟨i, rfl, h.1, h.2.1, h.2.2⟩
theorem Tryd.info3i : (Tryd.prog.info? 3).map (fun i => (i.zero, i.size, i.bytes)) = some (some (.int .i64 0), 1, 8) := by kernel_rfl
theorem own_caps {w : World} {base : Nat} {e : TypeId} {size n c : Nat} {A : Option Addr} {xs : List Value} (h : w.ownsRow base e size (.slice A n c) n xs) : n ≤ c ∧ c ≤ maxLen := by
  rcases h.2 with ⟨hv, h0⟩ | ⟨g, cap, cur, hv, _, _, h1, h2, _⟩
  · injection hv with _ _ hc
    subst hc; subst h0
    exact ⟨Nat.le_refl _, Nat.zero_le _⟩
  · injection hv with _ _ hc
    subst hc
    exact ⟨h1, h2⟩
theorem own_sli {w : World} {base n c : Nat} {A : Option Addr} {l : List Int} (h : w.ownsRow base 3 1 (.slice A n c) n (iv l)) (hn : l.length = n) : Hid (SlI w w.heap.size A c l) := by
  subst hn
  have hc := own_caps h
  refine hid ⟨hc.1, hc.2, ?_, Lies.own h⟩
  rintro rfl
  rcases h.2 with ⟨hv, _⟩ | ⟨g, cap, cur, hv, _⟩
  · injection hv
  · injection hv with hv
    cases hv
/-- append of numbers to a row of the call's own. -/
theorem app_int {ops : Array Oper} {rest : List Oper} {o : Oper} {a : Act} {Q : Exit → Act → World → Prop} (w : World) (hgd : o.guard = none) (s x : Operand) (ho : o.op = .call { callee := .builtin .append, args := #[s, x], argTypes := #[30, 30] })
    (base n c : Nat) (A : Option Addr) (xs : List Int) (hs : a.eval s = .slice A n c) (hown : Hid (w.ownsRow base 3 1 (.slice A n c) n (iv xs))) (hb : base ≤ w.heap.size) (A2 : Option Addr) (m c2 : Nat) (ys : List Int)
    (hx : a.eval x = .slice A2 m c2) (hS : Hid (SlI w w.heap.size A2 c2 ys)) (hy : ys.length = m) (hm : n + m ≤ 1000000)
    (h : ∀ A' c' w', Hid (w'.ownsRow base 3 1 (.slice A' (n + m) c') (n + m) (iv (xs ++ ys))) → Hid (Below base w w') → wpList Tryd.prog ops Q rest (a.put o.dst (.slice A' (n + m) c')) w') : wpList Tryd.prog ops Q (o :: rest) a w := by
  subst hy
  obtain ⟨i3, hi3, hz3, hz31, hz32⟩ := info_parts Tryd.info3i
  refine wpList_app _ hgd s x 30 ho base 3 i3 _ 1 8 Tryd.underlying30 hi3 hz3 hz31 hz32 rfl (by decide) A n c (iv xs) hs hown.out w.heap.size A2 ys.length c2 (iv ys) hx (by rw [iv_length, Nat.mul_one]) hS.out.2.2.2 (iv_one _) (by unfold maxLen; omega) (by omega) hb ?_
  intro A3 c3 u2 ho2 hg2
  rw [← iv_append] at ho2
  have hk : Kept base [3] w u2 := (Kept.refl base [3] w).grown hg2 (fun k hk => by obtain ⟨a, cs, b⟩ := own_box hown.out k hk; exact ⟨a, 3, cs, by simp, b⟩)
  exact h A3 c3 u2 (hid ho2) (hid (hk.below hb))
theorem own_al {w : World} {base n : Nat} {v : Value} {xs : List Value} (h : Hid (w.ownsRow base 3 1 v n xs)) (o : Obj) : Hid ((w.alloc o).ownsRow base 3 1 v n xs) :=
  hid ((Kept.of_below ((Below.refl _ w).alloc (Nat.le_refl _) o) 0 []).own h.out (by simp))
/-- A call answers numbers. -/
def RetI (u : World) (l : List Int) (e : Ending) (w' : World) : Prop := ∃ A n c, e = .returned (.slice A n c) ∧ Hid (l.length = n) ∧ Hid (SlI w' w'.heap.size A c l) ∧ Hid (Below u.heap.size u w')
/-- What is left of a set's list from a number on. -/
def restS (s k : Nat) : List Int := ((List.range' k (29 - k)).filter fun j => hasS s (iK j)).map iK
theorem restS_zero (s : Nat) : restS s 0 = listS s := by
  rw [← list_range]
  rfl
theorem restS_end (s : Nat) {k : Nat} (h : 29 ≤ k) : restS s k = [] := by
  unfold restS
  rw [show 29 - k = 0 by omega]
  rfl
theorem restS_step (s : Nat) {k : Nat} (h : k < 29) : restS s k = if hasS s (k : Int) = true then (k : Int) :: restS s (k + 1) else restS s (k + 1) := by
  unfold restS
  rw [show 29 - k = (29 - (k + 1)) + 1 by omega, List.range'_succ]
  cases hq : hasS s (k : Int)
  · rw [List.filter_cons_of_neg (by simp [iK, hq])]; rfl
  · rw [List.filter_cons_of_pos (by simp [iK, hq])]; rfl
section
variable {w : World}
set_option maxRecDepth 100000 in
set_option maxHeartbeats 2000000 in
theorem list_any (H : Hid (TabW w)) {s : Nat} (hs : Hid (U64 s)) {l : List Int} (hl : Hid (listS s = l)) : Calls Tryd.prog 22 #[.int .u64 s] w (RetI w l) := by
  go_enter Tryd.func22, Tryd.ntmps22
  go_wp2
  go_loopw [3, 5] (fun a i wr => ∃ (k n c : Nat) (A : Option Addr) (xs : List Int), k ≤ 29 ∧ a = .slice A n c ∧ i = .int .i64 k ∧ Hid (xs.length = n) ∧ n ≤ k ∧ Hid (wr.ownsRow w.heap.size 3 1 (.slice A n c) n (iv xs)) ∧ Hid (Below w.heap.size w wr) ∧ Hid (xs ++ restS s k = l)) (fun _ i _ => 29 - (intOf i).toNat)
  case atStart =>
    refine ⟨0, 0, 0, none, [], by omega, rfl, rfl, hid rfl, Nat.le_refl _, hid ⟨rfl, .inl ⟨rfl, rfl⟩⟩, hid (Below.refl _ _), hid ?_⟩
    rw [restS_zero]
    exact hl.out
  case round =>
    obtain ⟨k, n, c, A, xs, hk, rfl, rfl, HN, hnk, HO, HB, HR⟩ := hrel
    by_cases hlt : k < 29
    · have HT := TabW.below H HB.out
      have hi : (k : Int) < 29 := by omega
      have HS := restS_step s hlt
      cases hq : hasS s (k : Int)
      · have HQ := hid hq
        rw [hq, if_neg (by decide)] at HS
        have HE := hid HS
        clear HS hq
        go_wp2_with (first
          | (go_at_call 15
             (with_reducible refine (has_b HT hs HQ).mono ?_)
             rintro e w1 ⟨rfl, rfl⟩))
        go_roundw
        case rel => exact ⟨k + 1, n, c, A, xs, by omega, rfl, by go_num, HN, by omega, HO, HB, hid (by rw [← HE.out]; exact HR.out)⟩
        case measure => simp [intOf]; omega
      · have HQ := hid hq
        rw [hq, if_pos rfl] at HS
        have HE := hid HS
        clear HS hq
        have HO2 := own_al HO (.cells #[.int .i64 k] 3)
        have HL2 := sli_lit wr [(k : Int)] 1 wr.heap.size #[.int .i64 k] rfl rfl (by decide) rfl
        have hz : w.heap.size ≤ (wr.alloc (.cells #[.int .i64 k] 3)).heap.size := by
          have := HB.out.size
          rw [World.size_alloc]
          omega
        go_wp2_with (first
          | (go_at_call 15
             (with_reducible refine (has_b HT hs HQ).mono ?_)
             rintro e w1 ⟨rfl, rfl⟩)
          | (refine app_int _ (by rfl) (.tmp 11) (.tmp 13) rfl w.heap.size n c A xs rfl HO2 hz (some ⟨_, 0, none⟩) 1 1 [(k : Int)] rfl HL2 rfl (by omega) ?_
             intro A' c' u1 HO3 HB3))
        go_roundw
        case rel =>
          refine ⟨k + 1, n + 1, c', A', xs ++ [(k : Int)], by omega, rfl, by go_num, hid (by simp [HN.out]), by omega, HO3, hid ?_, hid ?_⟩
          · exact (HB.out.alloc HB.out.size _).trans HB3.out
          · rw [List.append_assoc, List.singleton_append, ← HE.out]
            exact HR.out
        case measure => simp [intOf]; omega
    · have hi : ¬ (k : Int) < 29 := by omega
      have HE := hid (restS_end s (k := k) (by omega))
      obtain rfl : xs = l := by
        have := HR.out
        rw [HE.out, List.append_nil] at this
        exact this
      go_wp2
      go_ret
      exact ⟨A, n, c, rfl, HN, own_sli HO.out HN.out, HB⟩
set_option maxRecDepth 100000 in
set_option maxHeartbeats 2000000 in
theorem chadd_any (H : Hid (TabW w)) {s t : Nat} (hs : Hid (U64 s)) {A : Option Addr} {n c : Nat} {l : List Int} (hS : Hid (SlI w w.heap.size A c l)) (hn : Hid (l.length = n)) (hn0 : n ≤ 1000000) (ht : Hid (l.foldl addS s = t)) :
    Calls Tryd.prog 39 #[.int .u64 s, .func (.func 17) #[] #[], .slice A n c] w fun e w' => e = .returned (.int .u64 t) ∧ w' = w := by
  go_enter Tryd.func39, Tryd.ntmps39
  go_wp2
  go_loopw [0, 11] (fun a i wr => ∃ (k s' : Nat), k ≤ n ∧ a = .int .u64 s' ∧ i = .int .i64 k ∧ w = wr ∧ Hid (U64 s') ∧ Hid ((l.drop k).foldl addS s' = t)) (fun _ i _ => n - (intOf i).toNat)
  case atStart => exact ⟨0, s, Nat.zero_le _, rfl, rfl, rfl, hs, ht⟩
  case round =>
    obtain ⟨k, s', hk, rfl, rfl, rfl, hs', HT⟩ := hrel
    by_cases hlt : k < n
    · obtain ⟨b, o, y, rfl, _, hd, c1⟩ := sli_cell hS.out hn.out hlt
      have HD : Hid ((y :: l.drop (k + 1)).foldl addS s' = t) := by rw [← hd]; exact HT
      obtain ⟨s2, hs2⟩ : ∃ z, Hid (addS s' y = z) := ⟨_, hid rfl⟩
      have HV : Hid (U64 s2) := hid (by rw [← hs2.out]; exact addS_lt hs'.out y)
      have HF : Hid ((l.drop (k + 1)).foldl addS s2 = t) := by
        have := HD.out
        rw [List.foldl_cons, hs2.out] at this
        exact this
      have hi : (k : Int) < n := by omega
      clear hd
      go_wp2_with (first
        | (go_at_call 17
           (with_reducible refine (add_any H hs' hs2).mono ?_)
           rintro e w1 ⟨rfl, rfl⟩))
      go_roundw
      case rel => exact ⟨k + 1, s2, by omega, rfl, by go_num, by trivial, HV, HF⟩
      case measure => simp [intOf]; omega
    · have hi : ¬ (k : Int) < n := by omega
      have HE : Hid (s' = t) := by
        have := HT.out
        rw [List.drop_of_length_le (by rw [hn.out]; omega)] at this
        exact this
      go_wp2
      go_ret
      rw [HE.out]
      exact ⟨rfl, rfl⟩
set_option maxRecDepth 100000 in
set_option maxHeartbeats 2000000 in
theorem chdel_any (H : Hid (TabW w)) {s t : Nat} (hs : Hid (U64 s)) {A : Option Addr} {n c : Nat} {l : List Int} (hS : Hid (SlI w w.heap.size A c l)) (hn : Hid (l.length = n)) (hn0 : n ≤ 1000000) (ht : Hid (l.foldl delS s = t)) :
    Calls Tryd.prog 39 #[.int .u64 s, .func (.func 19) #[] #[], .slice A n c] w fun e w' => e = .returned (.int .u64 t) ∧ w' = w := by
  go_enter Tryd.func39, Tryd.ntmps39
  go_wp2
  go_loopw [0, 11] (fun a i wr => ∃ (k s' : Nat), k ≤ n ∧ a = .int .u64 s' ∧ i = .int .i64 k ∧ w = wr ∧ Hid (U64 s') ∧ Hid ((l.drop k).foldl delS s' = t)) (fun _ i _ => n - (intOf i).toNat)
  case atStart => exact ⟨0, s, Nat.zero_le _, rfl, rfl, rfl, hs, ht⟩
  case round =>
    obtain ⟨k, s', hk, rfl, rfl, rfl, hs', HT⟩ := hrel
    by_cases hlt : k < n
    · obtain ⟨b, o, y, rfl, _, hd, c1⟩ := sli_cell hS.out hn.out hlt
      have HD : Hid ((y :: l.drop (k + 1)).foldl delS s' = t) := by rw [← hd]; exact HT
      obtain ⟨s2, hs2⟩ : ∃ z, Hid (delS s' y = z) := ⟨_, hid rfl⟩
      have HV : Hid (U64 s2) := hid (by rw [← hs2.out]; exact delS_lt hs'.out y)
      have HF : Hid ((l.drop (k + 1)).foldl delS s2 = t) := by
        have := HD.out
        rw [List.foldl_cons, hs2.out] at this
        exact this
      have hi : (k : Int) < n := by omega
      clear hd
      go_wp2_with (first
        | (go_at_call 19
           (with_reducible refine (del_any H hs' hs2).mono ?_)
           rintro e w1 ⟨rfl, rfl⟩))
      go_roundw
      case rel => exact ⟨k + 1, s2, by omega, rfl, by go_num, by trivial, HV, HF⟩
      case measure => simp [intOf]; omega
    · have hi : ¬ (k : Int) < n := by omega
      have HE : Hid (s' = t) := by
        have := HT.out
        rw [List.drop_of_length_le (by rw [hn.out]; omega)] at this
        exact this
      go_wp2
      go_ret
      rw [HE.out]
      exact ⟨rfl, rfl⟩
theorem chadd0_any (H : Hid (TabW w)) {t : Nat} {A : Option Addr} {n c : Nat} {l : List Int} (hS : Hid (SlI w w.heap.size A c l)) (hn : Hid (l.length = n)) (hn0 : n ≤ 1000000) (ht : Hid (ofS l = t)) :
    Calls Tryd.prog 39 #[.int .u64 0, .func (.func 17) #[] #[], .slice A n c] w fun e w' => e = .returned (.int .u64 t) ∧ w' = w :=
  chadd_any H (s := 0) (hid (by decide)) hS hn hn0 ht
set_option maxRecDepth 100000 in
set_option maxHeartbeats 2000000 in
theorem of_any (H : Hid (TabW w)) {t : Nat} {A : Option Addr} {n c : Nat} {l : List Int} (hS : Hid (SlI w w.heap.size A c l)) (hn : Hid (l.length = n)) (hn0 : n ≤ 1000000) (ht : Hid (ofS l = t)) :
    Calls Tryd.prog 24 #[.slice A n c] w fun e w' => e = .returned (.int .u64 t) ∧ w' = w := by
  go_enter Tryd.func24, Tryd.ntmps24
  go_wp2_with (first
    | (go_at_call 39
       (with_reducible refine (chadd0_any H hS hn hn0 ht).mono ?_)
       rintro e w1 ⟨rfl, rfl⟩))
  go_ret
  exact ⟨rfl, rfl⟩
set_option maxRecDepth 100000 in
set_option maxHeartbeats 2000000 in
theorem block_any (H : Hid (TabW w)) {s t : Nat} (hs : Hid (U64 s)) (ht : Hid (blockS s = t)) :
    Calls Tryd.prog 26 #[.int .u64 s] w fun e w' => e = .returned (.int .u64 t) ∧ Hid (Below w.heap.size w w') := by
  obtain ⟨l, hl⟩ : ∃ z, Hid (listS s = z) := ⟨_, hid rfl⟩
  obtain ⟨v, hv⟩ : ∃ z, Hid (ofS l = z) := ⟨_, hid rfl⟩
  have HV : Hid (U64 v) := hid (by rw [← hv.out]; exact ofS_lt l)
  have hT : Hid ([(9 : Int), 19].foldl delS v = t) := hid (by rw [← hv.out, ← hl.out, ← ht.out]; rfl)
  have hlen : Hid (l.length ≤ 22) := hid (by rw [← hl.out]; exact listS_len s)
  go_enter Tryd.func26, Tryd.ntmps26
  go_wp2_with (first
    | (go_at_call 22
       (with_reducible refine (list_any H hs hl).mono ?_)
       rintro e v1 ⟨A1, n1, c1, rfl, hn1, S1, B1⟩
       have H1 := TabW.below H B1.out
       have hm1 : n1 ≤ 1000000 := by have := hlen.out; have := hn1.out; omega
       have S2 := sli_lit v1 [(9 : Int), 19] 2 v1.heap.size #[.int .i64 9, .int .i64 19] rfl rfl (by decide) rfl
       have BL : Below v1.heap.size v1 (v1.alloc (.cells #[.int .i64 9, .int .i64 19] 3)) := (Below.refl _ _).alloc (Nat.le_refl _) _
       have H2 := TabW.below H1 BL
       have B2 := hid (B1.out.trans (BL.mono B1.out.size))
       have hl2 : Hid ([(9 : Int), 19].length = 2) := hid rfl)
    | (go_at_call 24
       (with_reducible refine (of_any H1 S1 hn1 hm1 hv).mono ?_)
       rintro e w1 ⟨rfl, rfl⟩)
    | (go_at_call 39
       (with_reducible refine (chdel_any H2 HV S2 hl2 (by decide) hT).mono ?_)
       rintro e w1 ⟨rfl, rfl⟩))
  go_ret
  exact ⟨rfl, B2⟩
end
end L18
end Go.Proofs.YtjbmoiblkehbmaaDoor
