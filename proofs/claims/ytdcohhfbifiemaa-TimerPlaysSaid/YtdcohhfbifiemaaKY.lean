import Derived.Test.YtdcohhfbifiemaaKW
namespace Go.Proofs.Ytdcohhfbifiemaa
open Go.RowKit Go.Maps

/-- A map of yes and no: its block reads as g. -/
def Mq (w : World) (M n : Nat) (g : Int → Bool) : Prop :=
  ∃ D : DataW Unit, w.ownsMap Try.prog 3 (plainElem Try.prog 4) M n D ∧ ∀ a, okI a → D.atKey (.int .i64 a) (.lit (.bool false)) = .lit (.bool (g a))
def putG (g : Int → Bool) (a : Int) : Int → Bool := fun x => if x = a then true else g x
theorem zero4 (w : World) : (zeroValue 4).run Try.prog w = .ok (.bool false) w := by kernel_rfl
theorem plainElem_bool_inv {v : Value} {z : DataW Unit × List MemPlace} (h : plainElem Try.prog 4 v = some z) : ∃ b, v = .bool b ∧ z = (.lit (.bool b), []) := by
  unfold plainElem at h
  rw [Try.underlying4] at h
  cases v <;> simp at h
  rename_i b
  exact ⟨b, rfl, h.symm⟩
section
variable {w w' : World} {M n : Nat} {g : Int → Bool}
theorem Mq.keep {K : List Nat} (h : Mq w M n g) (k : But K w w') (hM : M ∉ K) : Mq w' M n g := by
  obtain ⟨D, hown, h2⟩ := h
  refine ⟨D, ?_, h2⟩
  have hl := hown.lt
  obtain ⟨es, clock, hb, r⟩ := hown
  exact ⟨es, clock, (k.block M hl hM).trans hb, r⟩
theorem Mq.ne {p : Nat} {t : TypeId} {cs : Array Value} (h : Mq w M n g) (hb : Box w p t cs) : M ≠ p := by
  rintro rfl
  obtain ⟨D, ⟨es, clock, hm, _⟩, _⟩ := h
  unfold Box at hb
  rw [hb] at hm
  cases hm
theorem Mq.made (w : World) : Mq (w.alloc (.map #[] 0)) w.heap.size 0 (fun _ => false) := ⟨_, World.ownsMap_made _ _ _ _, fun _ _ => rfl⟩
theorem Mq.look (h : Mq w M n g) {a : Int} (ha : okI a) : (Instr.lookup 48 (.map (some M)) (.int .i64 a) false).run Try.prog w = .ok (.bool (g a)) w := by
  obtain ⟨D, hown, hg⟩ := h
  obtain ⟨v, ps, hrun, hv⟩ := hown.lookup lawI Try.underlying48 (zero4 w) (plainElem_bool Try.underlying4 false) (keyI ha)
  obtain ⟨b, rfl, hb⟩ := plainElem_bool_inv hv
  rw [hrun]
  have := (congrArg Prod.fst hb).symm
  simp only [hg a ha] at this
  injection this with this
  injection this with this
  rw [this]
theorem Mq.put (h : Mq w M n g) (hn : n < maxLen) {a : Int} (ha : okI a) :
    ∃ w', (Instr.mapUpdate 48 (.map (some M)) (.int .i64 a) (.bool true)).run Try.prog w = .ok () w' ∧ Mq w' M (n + 1) (putG g a) ∧ But [M] w w' := by
  obtain ⟨D, hown, hg⟩ := h
  have hT := hown.tidy lawI
  obtain ⟨w', hrun, h1, h2⟩ := hown.update lawI Try.underlying48 hn (keyI ha) (plainElem_bool Try.underlying4 true)
  refine ⟨w', hrun, ⟨D.put (.int .i64 a) (.lit (.bool true)), h1, fun b hb => ?_⟩, but_grown h2 (by simp)⟩
  unfold putG
  by_cases hab : b = a
  · subst hab
    rw [if_pos rfl, atKey_put_same hT.isMap (isKeyI b)]
  · rw [if_neg hab, atKey_put_other (litI hab)]
    exact hg b hb
end
/-- Steps as values. -/
def ov (O : List Tm) : List Value := O.flatMap fun x => [.int .i64 1, .int .i64 x.1, .int .i64 x.2]
theorem ov_snoc (O : List Tm) (x : Tm) : ov (O ++ [x]) = ov O ++ [.int .i64 1, .int .i64 x.1, .int .i64 x.2] := by simp [ov]
theorem ov_len (O : List Tm) : (ov O).length = O.length * 3 := by
  induction O with
  | nil => rfl
  | cons x r ih => simp only [ov, List.flatMap_cons, List.length_append] at ih ⊢; rw [ih]; simp; omega
theorem ov_at (O : List Tm) : ∀ (k : Nat) (h : k < O.length), (ov O)[k * 3]? = some (.int .i64 1) ∧ (ov O)[k * 3 + 1]? = some (.int .i64 O[k].1) ∧ (ov O)[k * 3 + 2]? = some (.int .i64 O[k].2) := by
  induction O with
  | nil => intro k h; simp at h
  | cons x r ih =>
    intro k h
    have e : ov (x :: r) = [.int .i64 1, .int .i64 x.1, .int .i64 x.2] ++ ov r := by simp [ov]
    rw [e]
    cases k with
    | zero => exact ⟨rfl, rfl, rfl⟩
    | succ k =>
      have := ih k (by simpa using h)
      refine ⟨?_, ?_, ?_⟩
      · rw [List.getElem?_append_right (by simp; omega)]
        simp only [List.length_cons, List.length_nil]
        rw [show (k + 1) * 3 - (0 + 1 + 1 + 1) = k * 3 by omega]
        exact this.1
      · rw [List.getElem?_append_right (by simp; omega)]
        simp only [List.length_cons, List.length_nil]
        rw [show (k + 1) * 3 + 1 - (0 + 1 + 1 + 1) = k * 3 + 1 by omega]
        exact this.2.1
      · rw [List.getElem?_append_right (by simp; omega)]
        simp only [List.length_cons, List.length_nil]
        rw [show (k + 1) * 3 + 2 - (0 + 1 + 1 + 1) = k * 3 + 2 by omega]
        exact this.2.2
theorem Try.info31 : (Try.prog.info? 31).map (fun i => (i.zero, i.size, i.bytes)) = some (some (.agg #[.int .i64 0, .int .i64 0, .int .i64 0]), 3, 24) := by kernel_rfl
/-- Blocks of a law's own types are none of the timers'. -/
theorem Two.keepT {w0 w w' : World} {X K : List Nat} {a b : Nat} {S R : List Tm} (h : Two w0 w X a b S R) (k : But K w w') (hK : ∀ x ∈ K, w0.heap.size ≤ x ∧ ∃ t cs, Box w x t cs ∧ t ≠ 54 ∧ t ≠ 59 ∧ t ≠ 61) : Two w0 w' X a b S R := by
  have tk : ∀ {T H M : Nat} {rb : Option Nat} {S : List Tm}, Tr w T H M rb S → Tr w' T H M rb S := fun {T H M rb S} ht => by
    refine ht.keep k (fun hx => ?_) (fun x hx hx' => ?_)
    · obtain ⟨_, t, cs, hb, h1, _⟩ := hK T hx
      exact box_ne hb ht.box h1 rfl
    · obtain ⟨_, t, cs, hb, _, h2, h3⟩ := hK x hx'
      obtain ⟨L, hp, _⟩ := ht.body
      obtain ⟨A, c, f, hbh, hr, hm, _⟩ := hp.body
      simp only [plB, List.mem_cons, Option.mem_toList] at hx
      rcases hx with e | e | hx
      · subst e
        exact box_ne hb hbh h2 rfl
      · subst e
        exact hm.ne hb rfl
      · obtain ⟨cs', hx⟩ := hr.box x hx
        exact box_ne hb hx h3 rfl
  obtain ⟨Ha, Ma, ra, Hb, Mb, rb, h1, h2, h3, h4⟩ := h.body
  exact ⟨h.bel.trans (k.below h.bel.size (fun x hx => (hK x hx).1)), ⟨Ha, Ma, ra, Hb, Mb, rb, tk h1, tk h2, h3, h4⟩, fun x hx => ⟨(h.lt x hx).1, Nat.lt_of_lt_of_le (h.lt x hx).2 k.size⟩⟩
theorem due_all {S : List Tm} (h : ∀ x ∈ S, okI x.2) : dueS 9223372036854775807 S = [] := by
  induction S with
  | nil => rfl
  | cons x r ih =>
    have h1 := h x (by simp)
    unfold okI at h1
    simp only [Lit.wf, Bool.and_eq_true, decide_eq_true_eq] at h1
    have hmax : IntKind.i64.max = 9223372036854775807 := rfl
    rw [hmax] at h1
    unfold dueS at ih ⊢
    rw [List.dropWhile_cons, if_pos (by simpa using h1.2)]
    exact ih (fun y hy => h y (by simp [hy]))
end Go.Proofs.Ytdcohhfbifiemaa
