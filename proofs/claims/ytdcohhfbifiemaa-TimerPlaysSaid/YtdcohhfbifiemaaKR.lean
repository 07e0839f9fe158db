import Derived.Test.YtdcohhfbifiemaaKQ
namespace Go.Proofs.Ytdcohhfbifiemaa
open Go.RowKit Go.Maps

theorem take_snoc {α : Type} (l : List α) (k : Nat) (h : k < l.length) : l.take (k + 1) = l.take k ++ [l[k]] := by
  rw [List.take_succ_eq_append_getElem h]
/-- Nothing but draws. -/
def Quiet (w w' : World) : Prop := ∃ n, w' = w.drewN n
theorem Quiet.refl (w : World) : Quiet w w := ⟨0, rfl⟩
theorem quiet2 (w : World) (a b : Nat) : Quiet w ((w.drewN a).drewN b) := ⟨a + b, World.drewN_drewN w a b⟩
theorem Quiet.but {w w' : World} (h : Quiet w w') : But [] w w' := by
  obtain ⟨n, rfl⟩ := h
  exact (But.refl _ _).drewN n
theorem list_ne {α : Type} {a b : List α} (k : Nat) (ha : k < a.length) (hb : k < b.length) (h : a[k] ≠ b[k]) : a ≠ b := by
  rintro rfl
  exact h rfl
set_option maxHeartbeats 1000000 in
set_option maxRecDepth 100000 in
theorem ints_any (w : World) (B B2 : Nat) (A A2 : Option Addr) (c c2 : Nat) (xs ys : List Int) (hx : Lies w B A (iv xs)) (hy : Lies w B2 A2 (iv ys)) (hl : xs.length ≤ maxLen) (hl2 : ys.length ≤ maxLen) :
    Calls Try.prog 13 #[.slice A xs.length c, .slice A2 ys.length c2] w fun e w' => e = .returned (.bool (decide (xs = ys))) ∧ Quiet w w' := by
  unfold maxLen at hl hl2
  have HX := hid hx
  have HY := hid hy
  clear hx hy
  by_cases hlen : xs.length = ys.length
  · have ht : ((xs.length : Int) == ys.length) = true := by simp [hlen]
    have ht2 : ((xs.length : Int) != ys.length) = false := by simp [hlen]
    have HL := hid hlen
    clear hlen
    go_enter Try.func13, Try.ntmps13
    go_wp2
    go_loopw [13] (fun i wr => ∃ k d : Nat, k ≤ xs.length ∧ i = .int .i64 k ∧ wr = w.drewN d ∧ Hid (xs.take k = ys.take k)) (fun i _ => xs.length - (intOf i).toNat)
    case atStart => exact ⟨0, 0, Nat.zero_le _, rfl, rfl, rfl⟩
    case round =>
      obtain ⟨k, d, hk, rfl, rfl, HT⟩ := hrel
      by_cases hlt : k < xs.length
      · have hlt2 : k < ys.length := by have := HL.out; omega
        obtain ⟨b, o, rfl, _, hc1⟩ := HX.out (by intro e; have := congrArg List.length e; simp [iv] at this; subst this; simp at hlt)
        obtain ⟨b2, o2, rfl, _, hc2⟩ := HY.out (by intro e; have := congrArg List.length e; simp [iv] at this; subst this; simp at hlt2)
        have c1 : w.cell? ⟨b, o + k, none⟩ = some (.int .i64 xs[k]) := hc1 k _ (by simp [iv, hlt])
        have c2 : w.cell? ⟨b2, o2 + k, none⟩ = some (.int .i64 ys[k]) := hc2 k _ (by simp [iv, hlt2])
        clear hc1 hc2
        have hi1 : (k : Int) < xs.length := by omega
        have hi2 : (k : Int) < ys.length := by omega
        by_cases he : xs[k] = ys[k]
        · have t1 : ((xs[k] : Int) == ys[k]) = true := by simp [he]
          have t2 : ((xs[k] : Int) != ys[k]) = false := by simp [he]
          have HS : Hid (xs.take (k + 1) = ys.take (k + 1)) := by
            show _ = _
            rw [take_snoc _ _ hlt, take_snoc _ _ hlt2, HT.out, he]
          clear he
          go_wp2
          go_quiet (fail)
          go_wp2
          go_roundw
          case rel => exact ⟨k + 1, _, by omega, by go_num, rfl, HS.out⟩
          case measure => simp [intOf]; omega
        · have t1 : ((xs[k] : Int) == ys[k]) = false := by simp; exact he
          have t2 : ((xs[k] : Int) != ys[k]) = true := by simp; exact he
          have hF : Hid (decide (xs = ys) = false) := by
            show _ = _
            simp
            exact list_ne k hlt hlt2 he
          clear he
          go_wp2
          go_quiet (fail)
          go_wp2
          go_ret
          rw [hF.out]
          exact ⟨rfl, quiet2 _ _ _⟩
      · have hF : Hid (decide (xs = ys) = true) := by
          show _ = _
          have h := HT.out
          rw [List.take_of_length_le (by omega), List.take_of_length_le (by have := HL.out; omega)] at h
          simp [h]
        go_wp2
        go_ret
        rw [hF.out]
        exact ⟨rfl, _, rfl⟩
  · have hF : Hid (decide (xs = ys) = false) := by
      show _ = _
      simp
      intro e
      exact hlen (by rw [e])
    have ht : ((xs.length : Int) == ys.length) = false := by simp; omega
    have ht2 : ((xs.length : Int) != ys.length) = true := by simp; omega
    clear hlen
    go_enter Try.func13, Try.ntmps13
    go_wp2
    go_ret
    rw [hF.out]
    exact ⟨rfl, Quiet.refl _⟩
theorem ints_n (w : World) {B B2 n n2 : Nat} {A A2 : Option Addr} {c c2 : Nat} {xs ys : List Int} (hx : Hid (Lies w B A (iv xs))) (hy : Hid (Lies w B2 A2 (iv ys))) (hn : Hid (xs.length = n)) (hn2 : Hid (ys.length = n2)) (hl : n ≤ 1000000) (hl2 : n2 ≤ 1000000) :
    Calls Try.prog 13 #[.slice A n c, .slice A2 n2 c2] w fun e w' => e = .returned (.bool (decide (xs = ys))) ∧ Hid (But [] w w') := by
  have h1 := hn.out
  have h2 := hn2.out
  subst h1
  subst h2
  refine (ints_any w B B2 A A2 c c2 xs ys hx.out hy.out (by unfold maxLen; omega) (by unfold maxLen; omega)).mono ?_
  rintro e w' ⟨rfl, hq⟩
  exact ⟨rfl, hq.but⟩
/-- Timers that were made behind w0. -/
def St (w0 w : World) (T : Nat) (S : List Tm) : Prop := Below w0.heap.size w0 w ∧ ∃ H M rb, Tr w T H M rb S ∧ ∀ x ∈ T :: plB H M rb, w0.heap.size ≤ x
/-- Rows of numbers stay. -/
def OwnK (w w' : World) : Prop := ∀ (base n : Nat) (v : Value) (xs : List Value), w.ownsRow base 3 1 v n xs → w'.ownsRow base 3 1 v n xs
theorem OwnK.refl (w : World) : OwnK w w := fun _ _ _ _ h => h
theorem OwnK.trans {a b c : World} (h : OwnK a b) (k : OwnK b c) : OwnK a c := fun _ _ _ _ x => k _ _ _ _ (h _ _ _ _ x)
theorem OwnK.of_but {w w' : World} (k : But [] w w') : OwnK w w' := fun _ _ _ _ h => k.own h (by simp)
theorem plB_nx {w : World} {H M : Nat} {rb rb' : Option Nat} (h : ∀ y, rb' = some y → rb = some y ∨ w.heap.size ≤ y) : ∀ x ∈ plB H M rb', x ∈ plB H M rb ∨ w.heap.size ≤ x := fun x hx => by
  simp only [plB, List.mem_cons, Option.mem_toList] at hx ⊢
  rcases hx with hx | hx | hx
  · exact .inl (.inl hx)
  · exact .inl (.inr (.inl hx))
  · exact (h x hx).imp (fun h => .inr (.inr h)) id
theorem st_nx {w0 w w' : World} {T H M : Nat} {rb : Option Nat} {S S' : List Tm} (hb : Below w0.heap.size w0 w) (ht : Tr w T H M rb S) (hx : ∀ x ∈ T :: plB H M rb, w0.heap.size ≤ x) (h : Nx w w' T H M rb S') : St w0 w' T S' ∧ OwnK w w' := by
  obtain ⟨⟨rb', h1, h2⟩, h3⟩ := h
  refine ⟨⟨hb.trans (h3.below hb.size (fun x hx' => hx x (by simp [hx']))), H, M, rb', h1, fun x hx' => ?_⟩, fun _ _ _ _ h => tr_own ht h3 h⟩
  rcases List.mem_cons.1 hx' with rfl | hx'
  · exact hx x (by simp)
  · rcases plB_nx h2 x hx' with h | h
    · exact hx x (by simp [h])
    · exact Nat.le_trans hb.size h
theorem st_keep0 {w0 w w' : World} {T : Nat} {S : List Tm} (h : St w0 w T S) (k : But [] w w') : St w0 w' T S := by
  obtain ⟨hb, H, M, rb, ht, hx⟩ := h
  exact ⟨hb.trans (k.below hb.size (by simp)), H, M, rb, ht.keep0 k, hx⟩
section
variable (w0 w : World)
theorem st_new (hb : Hid (Below w0.heap.size w0 w)) : Calls Try.prog 8 #[] w fun e w' => ∃ T, e = .returned (.pointer (some ⟨T, 0, none⟩)) ∧ Hid (St w0 w' T []) := by
  refine (new_any w).mono ?_
  rintro e w' ⟨T, H, M, rfl, ht, h1, h2, h3, hB⟩
  refine ⟨T, rfl, hb.out.trans (hB.out.mono hb.out.size), H, M, none, ht.out, fun x hx => ?_⟩
  have := hb.out.size
  simp [plB] at hx
  rcases hx with rfl | rfl | rfl <;> omega
theorem st_set {T : Nat} {S S' : List Tm} {id d er : Int} (h : Hid (St w0 w T S)) (ho : Hid (okI id ∧ okI d)) (he : Hid (setE id S = er)) (hs : Hid (setS id d S = S')) :
    Calls Try.prog 9 #[.pointer (some ⟨T, 0, none⟩), .int .i64 id, .int .i64 d] w fun e w' => e = .returned (.int .i64 er) ∧ Hid (St w0 w' T S') ∧ Hid (OwnK w w') := by
  obtain ⟨hb, H, M, rb, ht, hx⟩ := h.out
  refine (set_any w ht ho).mono ?_
  rintro e w' ⟨rfl, hn⟩
  rw [he.out]
  rw [hs.out] at hn
  have := st_nx hb ht hx hn.out
  exact ⟨rfl, this.1, this.2⟩
theorem st_cancel {T : Nat} {S S' : List Tm} {id : Int} {b : Bool} (h : Hid (St w0 w T S)) (ho : Hid (okI id)) (he : Hid (has id S = b)) (hs : Hid (rem id S = S')) :
    Calls Try.prog 11 #[.pointer (some ⟨T, 0, none⟩), .int .i64 id] w fun e w' => e = .returned (.bool b) ∧ Hid (St w0 w' T S') ∧ Hid (OwnK w w') := by
  obtain ⟨hb, H, M, rb, ht, hx⟩ := h.out
  refine (cancel_any w ht ho).mono ?_
  rintro e w' ⟨rfl, hn⟩
  rw [he.out]
  rw [hs.out] at hn
  have := st_nx hb ht hx hn.out
  exact ⟨rfl, this.1, this.2⟩
theorem st_due {T : Nat} {S S' : List Tm} {now : Int} {l : List Int} (h : Hid (St w0 w T S)) (he : Hid (ids (dueP now S) = l)) (hs : Hid (dueS now S = S')) :
    Calls Try.prog 14 #[.pointer (some ⟨T, 0, none⟩), .int .i64 now] w fun e w' => ∃ A n c, e = .returned (.slice A n c) ∧ Hid (w'.ownsRow w0.heap.size 3 1 (.slice A n c) n (iv l)) ∧ Hid (St w0 w' T S') ∧ Hid (OwnK w w') := by
  obtain ⟨hb, H, M, rb, ht, hx⟩ := h.out
  refine (due_any w ht).mono ?_
  rintro e w' ⟨A, n, c, rfl, ho, hn⟩
  rw [he.out] at ho
  rw [hs.out] at hn
  have := st_nx hb ht hx hn.out
  have ho' := ho.out
  exact ⟨A, n, c, rfl, hid ⟨ho'.1, ho'.2.imp id fun ⟨g, cap, cur, e1, e2, e3⟩ => ⟨g, cap, cur, e1, Nat.le_trans hb.size e2, e3⟩⟩, this.1, this.2⟩
theorem st_len {T n : Nat} {S : List Tm} (hn : Hid (S.length = n)) (h : Hid (St w0 w T S)) : Calls Try.prog 17 #[.pointer (some ⟨T, 0, none⟩)] w fun e w' => e = .returned (.int .i64 n) ∧ w' = w := by
  obtain ⟨hb, H, M, rb, ht, hx⟩ := h.out
  exact len_any w hn ht
theorem st_next {T : Nat} {s : Tm} {S : List Tm} (h : Hid (St w0 w T (s :: S))) : Calls Try.prog 16 #[.pointer (some ⟨T, 0, none⟩)] w fun e w' => e = .returned (.tuple #[.int .i64 s.1, .int .i64 s.2, .bool true]) ∧ Hid (St w0 w' T (s :: S)) := by
  obtain ⟨hb, H, M, rb, ht, hx⟩ := h.out
  refine (next_some w ht).mono ?_
  rintro e w' ⟨rfl, hk⟩
  exact ⟨rfl, st_keep0 h.out hk.out⟩
end
end Go.Proofs.Ytdcohhfbifiemaa
