import Derived.Test.YteeienmigoebmaaGreatDoorPJB
namespace Go.Proofs.YteeienmigoebmaaGreatDoor
namespace L19
open Go.RowKit L18

/-! Layer 19, the program's side: whether a line may stand there. -/
def FewX (k : Nat) (X : List PgX) : Prop := X.length ≤ k ∧ ∀ x ∈ X, x.1.2.length ≤ k
section
variable {u0 w : World} {g n c bl k : Nat} {A : Option Addr} {X : List PgX}
theorem take_ok (H0 : Hid (TabX u0)) (HB : Hid (Below u0.heap.size u0 w)) (hS : Hid (RdS w g u0.heap.size A n c bl X)) (hf : Hid (FewX k X)) (hk : k ≤ 262144) {s : List UInt8} (hl : s.length ≤ 262144) {acc : List ProgV} (hr : Hid (stepP s (prL X) = some acc)) :
    Calls Tryz.prog 54 #[.pointer (some ⟨g, 0, none⟩), .string (bs s)] w fun e w' => e = .returned (.bool true) ∧ ∃ X', TookS u0 w' g X' ∧ Hid (prL X' = acc) ∧ Hid (FewX (k + 1) X') := by
  have hn : n ≤ 262144 := by rw [← hS.out.len]; exact Nat.le_trans hf.out.1 hk
  obtain ⟨x, r, hc⟩ := cutL_cons 32 s
  have hst := hr.out
  by_cases hx : x = progX
  · subst hx
    rcases step_prog hc (prL X) with ⟨nm, h1, h2, h3⟩ | ⟨_, h3⟩
    · rw [h3] at hst
      refine (take_prog_yes H0 HB hS hn hl (hid hc) (hid h1) (hid h2)).mono fun e w' h => ⟨h.1, _, h.2, ?_, ?_⟩
      · rw [prL_append]
        exact hid (Option.some.inj hst)
      · refine hid ⟨by rw [List.length_append]; have := hf.out.1; simp; omega, fun y hy => ?_⟩
        rcases List.mem_append.1 hy with h4 | h4
        · have := hf.out.2 y h4; omega
        · obtain rfl := List.mem_singleton.1 h4
          simp
    · rw [h3] at hst
      cases hst
  · rw [step_other hc hx, opOf_is hc] at hst
    cases hkd : kindOf x with
    | none => rw [hkd] at hst; cases hst
    | some kd =>
      rw [hkd] at hst
      simp only [Option.bind_some] at hst
      cases ht : tailR (argN kd) (s.drop x.length) with
      | none => rw [ht] at hst; cases hst
      | some p =>
        rw [ht] at hst
        simp only [Option.map_some] at hst
        split at hst
        · cases hst
        · rename_i hne
          have hXne : X ≠ [] := fun e => hne (by rw [e]; rfl)
          obtain ⟨Xs, x0, rfl⟩ : ∃ Xs x0, X = Xs ++ [x0] := ⟨X.dropLast, X.getLast hXne, (List.dropLast_concat_getLast hXne).symm⟩
          obtain ⟨⟨nm, ops⟩, oA, oc⟩ := x0
          obtain ⟨a, b, t⟩ := p
          have hlen := hS.out.len
          rw [List.length_append] at hlen
          simp at hlen
          have hq9 : ops.length ≤ 262144 := Nat.le_trans (hf.out.2 ((nm, ops), oA, oc) (by simp)) hk
          refine (take_op H0 HB hS (n1 := Xs.length) (hid hlen.symm) hq9 (by omega) hl (hid hc) (hid hx) (hid hkd) (hid ht)).mono fun e w' h => ?_
          obtain ⟨h1, A5, c5, h2⟩ := h
          refine ⟨h1, _, h2, ?_, ?_⟩
          · have e1 := Option.some.inj hst
            rw [prL_append] at e1
            have e2 : prL [((nm, ops), oA, oc)] = [(nm, ops)] := rfl
            rw [e2, addO_snoc] at e1
            rw [prL_append]
            exact hid e1
          · refine hid ⟨by rw [List.length_append]; have := hf.out.1; rw [List.length_append] at this; simp at this ⊢; omega, fun y hy => ?_⟩
            rcases List.mem_append.1 hy with h4 | h4
            · have := hf.out.2 y (List.mem_append_left _ h4); omega
            · obtain rfl := List.mem_singleton.1 h4
              have := hf.out.2 ((nm, ops), oA, oc) (by simp)
              simp at this ⊢
              omega
theorem take_err (H0 : Hid (TabX u0)) (HB : Hid (Below u0.heap.size u0 w)) (hS : Hid (RdS w g u0.heap.size A n c bl X)) {s : List UInt8} (hl : s.length ≤ 262144) (hr : Hid (stepP s (prL X) = none)) :
    Calls Tryz.prog 54 #[.pointer (some ⟨g, 0, none⟩), .string (bs s)] w fun e w' => e = .returned (.bool false) ∧ Hid (Below w.heap.size w w') := by
  obtain ⟨x, r, hc⟩ := cutL_cons 32 s
  have hst := hr.out
  by_cases hx : x = progX
  · subst hx
    rcases step_prog hc (prL X) with ⟨nm, h1, h2, h3⟩ | ⟨h1, h3⟩
    · rw [h3] at hst
      cases hst
    · exact take_prog_no H0 HB hl (hid hc) (hid h1)
  · rw [step_other hc hx, opOf_is hc] at hst
    cases hkd : kindOf x with
    | none => exact take_word_no H0 HB hS hl (hid hc) (hid hx) (hid hkd)
    | some kd =>
      rw [hkd] at hst
      simp only [Option.bind_some] at hst
      by_cases hX : X = []
      · subst hX
        obtain rfl : 0 = n := hS.out.len
        exact take_empty H0 HB hS hl (hid hc) (hid hx) (hid hkd)
      · have hn : 0 < n := by
          rw [← hS.out.len]
          exact List.length_pos_iff.2 hX
        cases ht : tailR (argN kd) (s.drop x.length) with
        | none => exact take_bad H0 HB hS hn hl (hid hc) (hid hx) (hid hkd) (hid ht)
        | some p =>
          rw [ht] at hst
          simp only [Option.map_some] at hst
          rw [if_neg (fun e => hX (by
            have := congrArg List.length e
            rw [prL_len] at this
            exact List.eq_nil_of_length_eq_zero this))] at hst
          cases hst
end
end L19
end Go.Proofs.YteeienmigoebmaaGreatDoor
namespace Go.Proofs.YteeienmigoebmaaGreatDoor
namespace L19
open Go.RowKit L18

/-! Layer 19, the program's side: Parse. -/
def rd0 : Array Value := rdA (.slice none 0 0)
theorem rd_sz : (Tryz.prog.info? 103).map (·.size) = some rd0.size := by kernel_rfl
theorem rd_one : rd0.all (·.oneCell') = true := by kernel_rfl
/-- Programs that a call has made and hands back. -/
def SaidS (w w' : World) (l : List ProgV) (A : Option Addr) (n c : Nat) : Prop := ∃ X, Hid (X.length = n) ∧ Hid (PgM w' w'.heap.size A c X) ∧ Hid (prL X = l) ∧ Hid (Below w.heap.size w w')
def SaidO (w : World) (R : Option (List ProgV)) (e : Ending) (w' : World) : Prop := (R = none ∧ e = .returned (.tuple #[.slice none 0 0, .bool false]) ∧ Hid (Below w.heap.size w w')) ∨ (∃ l A n c, R = some l ∧ e = .returned (.tuple #[.slice A n c, .bool true]) ∧ SaidS w w' l A n c)
theorem said_rest {q x : List UInt8} {r : List (List UInt8)} (h : cutL 10 q = x :: r) (hr : r ≠ []) : cutL 10 (joinL 10 r) = r ∧ q.length = x.length + 1 + (joinL 10 r).length := by
  obtain ⟨_, hs⟩ := cut_split 10 q x r h
  rcases hs with ⟨e, _⟩ | ⟨_, y, rfl, hy⟩
  · exact absurd e hr
  · have hj : joinL 10 r = y := by rw [← hy]; exact cut_join 10 y
    rw [hj]
    refine ⟨hy, ?_⟩
    rw [List.length_append, List.length_cons]
    omega
section
variable {w : World}
set_option maxRecDepth 100000 in
set_option maxHeartbeats 8000000 in
theorem said_any (H0 : Hid (TabX w)) {t : List UInt8} (hl : t.length ≤ 262144) {R : Option (List ProgV)} (hR : Hid (sayP t [] = R)) :
    Calls Tryz.prog 27 #[.string (bs t)] w fun e w' => SaidO w R e w' := by
  go_enter Tryz.func27, Tryz.ntmps27
  go_upto_region 2 with (first
    | (go_at_call 18
       (with_reducible refine (allRows_any _).mono ?_)
       rintro e w1 ⟨rfl, C1⟩)
    | (refine wpList_built rfl 103 _ rfl rd0 ?hc ?_; case hc => kernel_rfl)
    | (refine stG rd_sz rd_one (by rfl) _ _ (by rfl) _ (by rfl) (by rfl) 103 Tryz.zeroCells103 (hid (Box.new w1 _ _)) (by kernel_rfl) ?_
       intro u X1 hu
       have K1 := set_up (hid (C1.out.alloc C1.out.size _)) hu C1.out.size))
  obtain ⟨g, hg⟩ : ∃ z, w1.heap.size = z := ⟨_, rfl⟩
  have hgw : w.heap.size ≤ g := by rw [← hg]; exact C1.out.size
  rw [hg] at X1
  simp only [hg]
  dsimp only [Act.put]
  have S1 : Hid (RdS u g w.heap.size none 0 0 w.heap.size []) := hid ⟨X1.out, hgw, rfl, World.ownsRow_nil _ _ _ _, (fun y hy => by cases hy), (fun y hy => by cases hy), Nat.le_refl _, K1.out.size⟩
  clear hu X1 hg C1
  go_loopw [0] (fun sv wr => ∃ (q : List UInt8) (k : Nat) (A : Option Addr) (n c bl : Nat) (X : List PgX), sv = .string (bs q) ∧ k + q.length ≤ 262144 ∧ Hid (RdS wr g w.heap.size A n c bl X) ∧ Hid (FewX k X) ∧ Hid (sayP q (prL X) = R) ∧ Hid (Below w.heap.size w wr)) (fun sv _ => strLen sv)
  case atStart => exact ⟨t, 0, none, 0, 0, _, [], rfl, by omega, S1, hid ⟨Nat.le_refl _, fun x hx => by cases hx⟩, hR, K1⟩
  case round =>
    obtain ⟨q, k, A, n, c, bl, X, rfl, hk, HS, HF, HQ, HB⟩ := hrel
    cases q with
    | nil =>
      have hR2 : some (prL X) = R := by rw [← HQ.out, say_nil]
      subst hR2
      have hsz : (bs []).size = 0 := rfl
      have y96 := HS.out.cell
      go_wp2
      go_ret2
      exact .inr ⟨_, _, _, _, rfl, rfl, X, hid HS.out.len, hid HS.out.pg, hid rfl, HB⟩
    | cons b q =>
      have hsz : (bs (b :: q)).size = q.length + 1 := by rw [bs_size]; rfl
      have hp : (0 : Int) < (q.length : Int) + 1 := by omega
      obtain ⟨x, r, hc⟩ := cutL_cons 10 (b :: q)
      have Hw := TabX.below H0 HB.out
      have hl2 : (b :: q).length ≤ 262144 := by omega
      obtain ⟨y, hy⟩ : ∃ z, Hid (joinL 10 r = z) := ⟨_, hid rfl⟩
      have HC := hid hc
      have hxl : x.length ≤ 262144 := Nat.le_trans (piece_len 10 (b :: q) x (by rw [hc]; simp)) hl2
      by_cases hr : r = []
      · subst hr
        have hx : b :: q = x := by
          obtain ⟨_, hs⟩ := cut_split 10 (b :: q) x [] hc
          rcases hs with ⟨_, e⟩ | ⟨e, _⟩
          · exact e
          · exact absurd rfl e
        have hR2 : none = R := by
          rw [← HQ.out]
          exact (say_one (by simp) (by rw [hc, hx]) _).symm
        subst hR2
        have hb : Hid ((!([] : List (List UInt8)).isEmpty) = false) := hid rfl
        clear hc hx
        go_wp2_with (first
          | (go_at_call 53
             (with_reducible refine (cut_any Hw hl2 HC hy hb).mono ?_)
             rintro e w2 ⟨rfl, C2⟩))
        go_ret2
        exact .inl ⟨rfl, rfl, bel_3 HB C2⟩
      · obtain ⟨hcy, hql⟩ := said_rest hc hr
        rw [hy.out] at hcy hql
        have hb : Hid ((!r.isEmpty) = true) := hid (by
          cases r with
          | nil => exact absurd rfl hr
          | cons a r => rfl)
        have HQ2 := HQ.out
        rw [say_step hc hr hcy] at HQ2
        have hky : k + 1 + y.length ≤ 262144 := by omega
        have hk9 : k ≤ 262144 := by omega
        cases hst : stepP x (prL X) with
        | none =>
          rw [hst] at HQ2
          have hR2 : none = R := HQ2
          subst hR2
          have HT := hid hst
          clear HQ2 hst hc hr hcy hql
          go_wp2_with (first
            | (go_at_call 53
               (with_reducible refine (cut_any Hw hl2 HC hy hb).mono ?_)
               rintro e w2 ⟨rfl, C2⟩
               have S2 := rds_up HS C2.out
               have B2 := bel_3 HB C2)
            | (go_at_call 54
               (with_reducible refine (take_err H0 B2 S2 hxl HT).mono ?_)
               rintro e w3 ⟨rfl, C3⟩))
          go_ret2
          exact .inl ⟨rfl, rfl, bel_3 B2 C3⟩
        | some acc =>
          rw [hst] at HQ2
          have HQ3 : Hid (sayP y acc = R) := hid HQ2
          have HT := hid hst
          clear HQ2 hst hc hr hcy
          go_wp2_with (first
            | (go_at_call 53
               (with_reducible refine (cut_any Hw hl2 HC hy hb).mono ?_)
               rintro e w2 ⟨rfl, C2⟩
               have S2 := rds_up HS C2.out
               have B2 := bel_3 HB C2)
            | (go_at_call 54
               (with_reducible refine (take_ok H0 B2 S2 HF hk9 hxl HT).mono ?_)
               rintro e w3 ⟨rfl, X3, T3, P3, F3⟩))
          obtain ⟨A4, n4, c4, bl4, S4, B4⟩ := T3
          have HQ4 : Hid (sayP y (prL X3) = R) := hid (by rw [P3.out]; exact HQ3.out)
          go_roundw
          case rel => exact ⟨y, k + 1, A4, n4, c4, bl4, X3, rfl, hky, S4, F3, HQ4, B4⟩
          case measure =>
            show (bs y).size < (bs (b :: q)).size
            rw [bs_size, hsz]
            simp at hql
            omega
theorem said_yes (H0 : Hid (TabX w)) {t : List UInt8} (hl : t.length ≤ 262144) {l : List ProgV} (hR : Hid (sayP t [] = some l)) :
    Calls Tryz.prog 27 #[.string (bs t)] w fun e w' => ∃ A n c, e = .returned (.tuple #[.slice A n c, .bool true]) ∧ SaidS w w' l A n c :=
  (said_any H0 hl hR).mono fun e w' h => by
    rcases h with ⟨h, _⟩ | ⟨l2, A, n, c, h, he, hs⟩
    · cases h
    · obtain rfl := Option.some.inj h
      exact ⟨A, n, c, he, hs⟩
theorem said_no (H0 : Hid (TabX w)) {t : List UInt8} (hl : t.length ≤ 262144) (hR : Hid (sayP t [] = none)) :
    Calls Tryz.prog 27 #[.string (bs t)] w fun e w' => e = .returned (.tuple #[.slice none 0 0, .bool false]) ∧ Hid (Below w.heap.size w w') :=
  (said_any H0 hl hR).mono fun e w' h => by
    rcases h with ⟨_, he, hs⟩ | ⟨l2, A, n, c, h, _⟩
    · exact ⟨he, hs⟩
    · cases h
theorem pg_none (w : World) : PgM w w.heap.size none 0 [] := ⟨Nat.le_refl _, Nat.zero_le _, fun _ => rfl, Lies.nil_, fun x hx => by cases hx⟩
set_option maxRecDepth 100000 in
set_option maxHeartbeats 8000000 in
theorem parse_one (H : Hid (TabX w)) {t : List UInt8} (ht : Hid (t.length ≤ 262144)) {l : List ProgV} {e0 : Int} (he : Hid (parseT t = (l, e0))) :
    Calls Tryz.prog 14 #[.string (bs t)] w fun e w' => ∃ A n c, e = .returned (.tuple #[.slice A n c, .int .i64 e0]) ∧ SaidS w w' l A n c := by
  have hee := he.out
  clear he
  rw [parseT_say, if_neg (by have := ht.out; omega)] at hee
  have hsz : ¬ ((bs t).size : Int) > 262144 := by rw [bs_size]; have := ht.out; omega
  cases hs : sayP t [] with
  | none =>
    rw [hs] at hee
    simp only [Prod.mk.injEq] at hee
    obtain ⟨rfl, rfl⟩ := hee
    have HS := hid hs
    clear hs
    go_enter Tryz.func14, Tryz.ntmps14
    go_wp2_with (first
      | (go_at_call 27
         (with_reducible refine (said_no H ht.out HS).mono ?_)
         rintro e w1 ⟨rfl, C1⟩))
    go_ret2
    exact ⟨none, 0, 0, rfl, [], hid rfl, hid (pg_none _), hid rfl, C1⟩
  | some l2 =>
    rw [hs] at hee
    simp only at hee
    have HS := hid hs
    obtain ⟨ck, hck⟩ : ∃ z, Hid (checkP l2 = z) := ⟨_, hid rfl⟩
    rw [hck.out] at hee
    clear hs
    by_cases h0 : ck = 0
    · subst h0
      rw [if_neg (by simp)] at hee
      simp only [Prod.mk.injEq] at hee
      obtain ⟨rfl, rfl⟩ := hee
      go_enter Tryz.func14, Tryz.ntmps14
      go_wp2_with (first
        | (go_at_call 27
           (with_reducible refine (said_yes H ht.out HS).mono ?_)
           rintro e w1 ⟨A, n, c, rfl, X, N1, L1, P1, C1⟩
           have HC : Hid (checkP (prL X) = 0) := hid (by rw [P1.out]; exact hck.out)
           have H1 := TabX.below H C1.out)
        | (go_at_call 15
           (with_reducible refine (check_one (TabX.w H1) L1 N1 HC).mono ?_)
           rintro e w2 ⟨rfl, C2⟩))
      go_ret2
      exact ⟨A, n, c, rfl, X, N1, pg_up L1 C2.out, P1, bel_3 C1 C2⟩
    · rw [if_pos h0] at hee
      simp only [Prod.mk.injEq] at hee
      obtain ⟨rfl, rfl⟩ := hee
      have tb : (ck != 0) = true := by simp [h0]
      clear h0
      go_enter Tryz.func14, Tryz.ntmps14
      go_wp2_with (first
        | (go_at_call 27
           (with_reducible refine (said_yes H ht.out HS).mono ?_)
           rintro e w1 ⟨A, n, c, rfl, X, N1, L1, P1, C1⟩
           have HC : Hid (checkP (prL X) = ck) := hid (by rw [P1.out]; exact hck.out)
           have H1 := TabX.below H C1.out)
        | (go_at_call 15
           (with_reducible refine (check_one (TabX.w H1) L1 N1 HC).mono ?_)
           rintro e w2 ⟨rfl, C2⟩))
      go_ret2
      exact ⟨none, 0, 0, rfl, [], hid rfl, hid (pg_none _), hid rfl, bel_3 C1 C2⟩
end
end L19
end Go.Proofs.YteeienmigoebmaaGreatDoor
namespace Go.Proofs.YteeienmigoebmaaGreatDoor
namespace L19
open Go.RowKit L18

/-! Layer 19: what the program's calls answer, as the laws' walks take it. -/
/-- Few programs, of few operations. -/
def SmallX (X : List PgX) : Prop := X.length ≤ 61 ∧ ∀ x ∈ X, x.1.2.length ≤ 101
section
variable {w : World} {A : Option Addr} {n c : Nat} {X : List PgX}
theorem check_any (H : Hid (TabX w)) (hl : Hid (PgM w w.heap.size A c X)) (hn : Hid (X.length = n)) (_hs : Hid (SmallX X)) {e0 : Int} (he : Hid (checkP (prL X) = e0)) :
    Calls Tryz.prog 15 #[.slice A n c] w fun e w' => e = .returned (.int .i64 e0) ∧ Hid (Below w.heap.size w w') := check_one (TabX.w H) hl hn he
theorem print_any (H : Hid (TabX w)) (hl : Hid (PgM w w.heap.size A c X)) (hn : Hid (X.length = n)) (_hs : Hid (SmallX X)) {s : List UInt8} {e0 : Int} (he : Hid (printP (prL X) = (s, e0))) :
    Calls Tryz.prog 10 #[.slice A n c] w fun e w' => e = .returned (.tuple #[.string (bs s), .int .i64 e0]) ∧ Hid (Below w.heap.size w w') := print_one H hl hn he
theorem work_any (H : Hid (TabX w)) (hl : Hid (PgM w w.heap.size A c X)) (hn : Hid (X.length = n)) (_hs : Hid (SmallX X)) {i : Int} {v : Nat} (he : Hid (workP (prL X) i = v)) :
    Calls Tryz.prog 16 #[.slice A n c, .int .i64 i] w fun e w' => e = .returned (.int .i64 v) ∧ Hid (Below w.heap.size w w') := work_one (TabX.w H) hl hn he
theorem parse_any (H : Hid (TabX w)) {t : List UInt8} (ht : Hid (t.length ≤ 262144)) {l : List ProgV} {e0 : Int} (he : Hid (parseT t = (l, e0))) :
    Calls Tryz.prog 14 #[.string (bs t)] w fun e w' => ∃ A2 n2 c2 Y, e = .returned (.tuple #[.slice A2 n2 c2, .int .i64 e0]) ∧ Hid (Y.length = n2) ∧ Hid (PgM w' w'.heap.size A2 c2 Y) ∧ Hid (prL Y = l) ∧ Hid (Below w.heap.size w w') :=
  (parse_one H ht he).mono fun _ _ h => by
    obtain ⟨A2, n2, c2, he, Y, h1, h2, h3, h4⟩ := h
    exact ⟨A2, n2, c2, Y, he, h1, h2, h3, h4⟩
end
/-- What follows of few programs, and of programs that aren't great. -/
theorem small_fit {X : List PgX} (h : SmallX X) : FitX X := ⟨by have := h.1; omega, fun x hx => by have := h.2 x hx; omega⟩
theorem small_of {X : List PgX} {l : List ProgV} (he : prL X = l) (h1 : l.length ≤ 61) (h2 : ∀ p ∈ l, p.2.length ≤ 101) : SmallX X := by
  subst he
  refine ⟨by rw [← prL_len]; exact h1, fun x hx => h2 x.1 ?_⟩
  exact List.mem_map.2 ⟨x, hx, rfl⟩
theorem small_great {X : List PgX} {l : List ProgV} (he : prL X = l) (h : greatP l = false) : SmallX X := small_of he (great_len h).1 (great_len h).2
theorem small_check {X : List PgX} {l : List ProgV} (he : prL X = l) (h : checkP l = 0 ∨ l = []) : SmallX X := by
  rcases h with h | h
  · refine small_of he (by have := check_scan h; omega) fun p hp => ?_
    obtain ⟨k, hk⟩ := List.mem_iff_getElem?.1 hp
    have := (check_at h hk).2.1
    omega
  · exact small_of he (by rw [h]; simp) (by rw [h]; simp)
theorem parse_small {Y : List PgX} {t : List UInt8} {l : List ProgV} {e0 : Int} (he : prL Y = l) (h : parseT t = (l, e0)) : SmallX Y := by
  refine small_check he ?_
  by_cases h0 : e0 = 0
  · subst h0
    exact .inl (print_parse h).1
  · right
    have := parse_bad (s := t) (by rw [h]; exact h0)
    rw [h] at this
    exact this
theorem own_m {w : World} {base EP EO n c : Nat} {A : Option Addr} {X : List PgX} (h : Hid (PgN w base EP EO A n c X)) : Hid (PgM w w.heap.size A c X) ∧ Hid (X.length = n) := ⟨hid h.out.pg, hid h.out.len⟩
end L19
end Go.Proofs.YteeienmigoebmaaGreatDoor
namespace Go.Proofs.YteeienmigoebmaaGreatDoor
namespace L19
open Go.RowKit L18

/-! Layer 19: the document's examples. -/
def ex1 : List UInt8 := [112, 114, 111, 103, 32, 97, 10, 111, 117, 116, 32, 104, 105, 92, 48, 97, 10, 101, 120, 105, 116, 32, 51, 10]
def ex2 : List UInt8 := [112, 114, 111, 103, 32, 97, 10, 102, 111, 114, 107, 32, 48, 10]
def exL : List ProgV := [([97], [(2, 0, 0, [104, 105, 10]), (1, 3, 0, [])])]
section
variable {w : World}
theorem parse_c (H : Hid (TabX w)) {t : List UInt8} {cs : Array UInt8} (hc : t.toArray = cs) (ht : Hid (t.length ≤ 262144)) {l : List ProgV} {e0 : Int} (he : Hid (parseT t = (l, e0))) :
    Calls Tryz.prog 14 #[.string ⟨cs⟩] w fun e w' => ∃ A2 n2 c2 Y, e = .returned (.tuple #[.slice A2 n2 c2, .int .i64 e0]) ∧ Hid (Y.length = n2) ∧ Hid (PgM w' w'.heap.size A2 c2 Y) ∧ Hid (prL Y = l) ∧ Hid (Below w.heap.size w w') := by
  subst hc
  exact parse_any H ht he
theorem ex_at {B c : Nat} {A : Option Addr} {Y : List PgX} (h : PgM w B A c Y) (he : prL Y = exL) : ∃ b o b5 o5 oc, A = some ⟨b, o, none⟩ ∧ Y.length = 1 ∧ w.cell? ⟨b, o + 1, none⟩ = some (.slice (some ⟨b5, o5, none⟩) 2 oc) ∧ w.cell? ⟨b5, o5 + 3, none⟩ = some (.string ⟨#[104, 105, 10]⟩) := by
  have hl : Y.length = 1 := by rw [← prL_len, he]; rfl
  obtain ⟨b, o, x, hA, hx, _, c1, hS⟩ := h.at (k := 0) (by omega)
  have hx1 : x.1 = ([97], [(2, 0, 0, [104, 105, 10]), (1, 3, 0, [])]) := by
    have h2 : (prL Y)[0]? = some x.1 := by simp [prL, hx]
    rw [he] at h2
    exact (Option.some.inj h2).symm
  obtain ⟨⟨nm, ops⟩, oA, oc⟩ := x
  simp only [Prod.mk.injEq] at hx1
  obtain ⟨rfl, rfl⟩ := hx1
  obtain ⟨b5, o5, y, hA5, hy, _, _, _, m3⟩ := hS.at (k := 0) (show 0 < 2 by decide)
  simp only at hA5
  subst hA5
  have hy1 : (2, 0, 0, [104, 105, 10]) = y := Option.some.inj hy
  subst hy1
  exact ⟨b, o, b5, o5, oc, hA, hl, c1, m3⟩
set_option maxRecDepth 100000 in
set_option maxHeartbeats 4000000 in
theorem alive_any (H : Hid (TabX w)) : Calls Tryz.prog 6 #[] w fun e w' => e = .returned (.bool true) ∧ Hid (Below w.heap.size w w') := by
  have h1 : Hid (parseT ex1 = (exL, 0)) := hid (by kernel_rfl)
  have h2 : Hid (parseT ex2 = ([], 2)) := hid (by kernel_rfl)
  have hc1 : ex1.toArray = #[112, 114, 111, 103, 32, 97, 10, 111, 117, 116, 32, 104, 105, 92, 48, 97, 10, 101, 120, 105, 116, 32, 51, 10] := rfl
  have hc2 : ex2.toArray = #[112, 114, 111, 103, 32, 97, 10, 102, 111, 114, 107, 32, 48, 10] := rfl
  have l1 : Hid (ex1.length ≤ 262144) := hid (by decide)
  have l2 : Hid (ex2.length ≤ 262144) := hid (by decide)
  have hw : Hid (workP exL 0 = 2) := hid (by decide +kernel)
  go_enter Tryz.func6, Tryz.ntmps6
  go_wp2_with (first
    | (go_at_call 14
       (first
        | ((with_reducible refine (parse_c H hc1 l1 h1).mono ?_)
           rintro e w1 ⟨A1, n1, c1, Y1, rfl, hn1, P1, Q1, B1⟩
           have H1 := TabX.below H B1.out)
        | ((with_reducible refine (parse_c H1 hc2 l2 h2).mono ?_)
           rintro e w2 ⟨A2, n2, c2, Y2, rfl, hn2, P2, Q2, B2⟩
           have H2 := TabX.below H1 B2.out
           have B3 := bel_t B1 B2.out
           have P3 := pg_up P1 B2.out
           obtain ⟨b, o, b5, o5, oc, hA, hl, c1, c5⟩ := ex_at P3.out Q1.out
           have hn : n1 = 1 := hn1.out.symm.trans hl
           subst hA
           subst hn
           have t5 : ((⟨#[104, 105, 10]⟩ : ByteArray).toList == [104, 105, 10]) = true := by
             rw [ByteArray.toList_eq]
             decide
           have S3 : Hid (SmallX Y1) := hid (small_of Q1.out (by decide) (by decide))
           have hw2 : Hid (workP (prL Y1) 0 = 2) := hid (by rw [Q1.out]; exact hw.out)
           clear hl)))
    | (go_at_call 16
       (with_reducible refine (work_any H2 P3 hn1 S3 hw2).mono ?_)
       rintro e w4 ⟨rfl, B4⟩
       have B5 := bel_t B3 B4.out))
  go_ret
  exact ⟨rfl, B5⟩
end
end L19
end Go.Proofs.YteeienmigoebmaaGreatDoor
namespace Go.Proofs.YteeienmigoebmaaGreatDoor
namespace L19
open Go.RowKit L18

/-! Layer 19: ProgramPrints, the walk. -/
theorem fit_of {X Y : List PgX} (e : prL Y = prL X) (h : FitX X) : FitX Y := by
  refine ⟨by rw [← prL_len, e, prL_len]; exact h.1, fun y hy => ?_⟩
  have h1 : y.1 ∈ prL X := by rw [← e]; exact List.mem_map.2 ⟨y, hy, rfl⟩
  obtain ⟨x, hx, he⟩ := List.mem_map.1 h1
  rw [← he]
  exact h.2 x hx
theorem small_eq {X Y : List PgX} (e : prL Y = prL X) (h : SmallX X) : SmallX Y := by
  refine ⟨by rw [← prL_len, e, prL_len]; exact h.1, fun y hy => ?_⟩
  have h1 : y.1 ∈ prL X := by rw [← e]; exact List.mem_map.2 ⟨y, hy, rfl⟩
  obtain ⟨x, hx, he⟩ := List.mem_map.1 h1
  rw [← he]
  exact h.2 x hx
theorem via {α β : Type} {x y : α} {z : β} (f : α → β) (h : Hid (x = y)) (h2 : Hid (f y = z)) : Hid (f x = z) := hid (by rw [h.out, h2.out])
section
variable {w : World}
set_option maxRecDepth 100000 in
set_option maxHeartbeats 4000000 in
theorem prints_walk (H : Hid (TabX w)) (A : Option Addr) (n c : Nat) (X : List PgX) (hl : Hid (PgM w w.heap.size A c X)) (hn : Hid (X.length = n)) (hm : Hid (FitX X)) : Calls Tryz.prog 3 #[.slice A n c] w fun e w' => e = .returned (.bool true) ∧ Hid (Below w.heap.size w w') := by
  obtain ⟨g, hg⟩ : ∃ z, Hid (greatP (prL X) = z) := ⟨_, hid rfl⟩
  obtain ⟨s, e0, he⟩ : ∃ s e0, Hid (printP (prL X) = (s, e0)) := ⟨_, _, hid rfl⟩
  cases g
  all_goals go_enter Tryz.func3, Tryz.ntmps3
  all_goals go_wp2_with (first
    | (go_at_call 6
       (with_reducible refine (alive_any H).mono ?_)
       rintro e w1 ⟨rfl, B1⟩
       have L1 := pg_up hl B1.out)
    | (go_at_call 7
       (with_reducible refine (ref_any _ A n c X L1 hn.out hm).mono ?_)
       rintro e w2 ⟨A2, c2, Y, rfl, Q2, P2, C2⟩
       have B2 := bel_t B1 C2.out
       obtain ⟨L2, N2⟩ := own_m P2
       have L1' := pg_up L1 C2.out
       have M2 : Hid (FitX Y) := hid (fit_of Q2.out hm.out))
    | (go_at_call 8
       (with_reducible refine (great_any _ A2 n c2 Y L2 N2.out M2 (via greatP Q2 hg)).mono ?_)
       rintro e w3 ⟨rfl, C3⟩
       have B3 := bel_t B2 C3.out
       have L3 := pg_up L1' C3.out
       have R3 := pg_up L2 C3.out)
    | (go_at_call 9
       have SX : Hid (SmallX X) := hid (small_great rfl hg.out)
       (with_reducible refine (to_any _ A n c X L3 hn.out hm).mono ?_)
       rintro e w4 ⟨A4, c4, Z, rfl, Q4, P4, C4⟩
       have B4 := bel_t B3 C4.out
       obtain ⟨L4, N4⟩ := own_m P4
       have R4 := pg_up R3 C4.out
       have H4 := TabX.below H B4.out
       have SZ : Hid (SmallX Z) := hid (small_eq Q4.out SX.out))
    | (go_at_call 10
       (with_reducible refine (print_any H4 L4 N4 SZ (s := s) (e0 := e0) (via printP Q4 he)).mono ?_)
       rintro e w5 ⟨rfl, C5⟩
       have B5 := bel_t B4 C5.out
       have L5 := pg_up L4 C5.out
       have R5 := pg_up R4 C5.out)
    | (go_at_call 11
       (with_reducible refine (rprint_any R5 N2 (s := s) (e0 := e0) (via printP Q2 he)).mono ?_)
       rintro e w6 ⟨rfl, C6⟩
       have B6 := bel_t B5 C6.out
       have L6 := pg_up L5 C6.out
       have R6 := pg_up R5 C6.out)
    | (go_at_call 13
       (with_reducible refine (from_any _ A4 n c4 Z L6 N4.out (hid (fit_of Q4.out hm.out))).mono ?_)
       rintro e w7 ⟨A7, c7, V, rfl, Q7, P7, C7⟩
       have B7 := bel_t B6 C7.out
       obtain ⟨L7, N7⟩ := own_m P7
       have R7 := pg_up R6 C7.out)
    | (go_at_call 12
       (with_reducible refine (same_any _ A7 A2 n n c7 c2 V Y L7 N7.out R7 N2.out (g := true) (hid (by rw [Q7.out, Q4.out, Q2.out]; simp))).mono ?_)
       rintro e w8 ⟨rfl, C8⟩
       have B8 := bel_t B7 C8.out))
  all_goals go_ret
  · exact ⟨rfl, B8⟩
  · exact ⟨rfl, B3⟩
end
end L19
end Go.Proofs.YteeienmigoebmaaGreatDoor
