import Derived.Test.YtggcampdkgfmgaaGreatJY
import Derived.Test.YtggcampdkgfmgaaGreatQI
import Derived.Deep.DeepCutAuto
namespace Go.Proofs.YtggcampdkgfmgaaGreat
open Go.RowKit

/-! LdiscLines. -/
def spl (l : List UInt8) : List (List UInt8) × List UInt8 := l.foldl (fun a c => if c = 10 then (a.1 ++ [a.2 ++ [10]], []) else (a.1, a.2 ++ [c])) ([], [])
theorem spl_snoc (l : List UInt8) (c : UInt8) : spl (l ++ [c]) = if c = 10 then ((spl l).1 ++ [(spl l).2 ++ [10]], []) else ((spl l).1, (spl l).2 ++ [c]) := by simp [spl, List.foldl_append]
theorem spl_len : ∀ (n : Nat) (l : List UInt8), l.length = n → (spl l).1.flatten.length + (spl l).2.length = n
  | 0, l, h => by obtain rfl := List.eq_nil_of_length_eq_zero h; rfl
  | n + 1, l, h => by
    obtain ⟨r, c, rfl⟩ : ∃ r c, l = r ++ [c] := ⟨l.dropLast, l.getLast (by rintro rfl; simp at h), (List.dropLast_concat_getLast _).symm⟩
    have ih := spl_len n r (by simpa using h)
    rw [spl_snoc]
    split
    · simp only [List.flatten_append, List.length_append, List.flatten_cons, List.flatten_nil, List.append_nil, List.length_cons, List.length_nil]; omega
    · simp only [List.length_append, List.length_cons, List.length_nil]; omega
theorem flat_count {ws : List (List UInt8)} (h : ∀ x ∈ ws, x ≠ []) : ws.length ≤ ws.flatten.length := by
  induction ws with
  | nil => exact Nat.le_refl _
  | cons x r ih =>
    have h1 := ih fun y hy => h y (List.mem_cons_of_mem _ hy)
    have h2 : x.length ≠ 0 := fun e => h x (List.mem_cons_self ..) (List.eq_nil_of_length_eq_zero e)
    simp only [List.length_cons, List.flatten_cons, List.length_append]
    omega
theorem spl_ne : ∀ (n : Nat) (l : List UInt8), l.length = n → ∀ x ∈ (spl l).1, x ≠ []
  | 0, l, h => by obtain rfl := List.eq_nil_of_length_eq_zero h; intro x hx; cases hx
  | n + 1, l, h => by
    obtain ⟨r, c, rfl⟩ : ∃ r c, l = r ++ [c] := ⟨l.dropLast, l.getLast (by rintro rfl; simp at h), (List.dropLast_concat_getLast _).symm⟩
    have ih := spl_ne n r (by simpa using h)
    rw [spl_snoc]
    intro x hx
    split at hx
    · rcases List.mem_append.1 hx with hx | hx
      · exact ih x hx
      · obtain rfl := List.mem_singleton.1 hx
        simp
    · exact ih x hx
theorem own_ge {w : World} {base e size n c : Nat} {a : Addr} {xs : List Value} (h : w.ownsRow base e size (.slice (some a) n c) n xs) : base ≤ a.block := by
  rcases h.2 with ⟨e, _⟩ | ⟨g, cap, cur, e, hb, _⟩
  · cases e
  · injection e with e1 _ _
    injection e1 with e1
    subst e1
    exact hb
theorem own_ne2 {w : World} {b1 b2 e1 e2 s1 s2 n1 n2 : Nat} {v1 v2 : Value} {xs ys : List Value} (h1 : w.ownsRow b1 e1 s1 v1 n1 xs) (h2 : w.ownsRow b2 e2 s2 v2 n2 ys) (hne : e1 ≠ e2) : ∀ g, v1.ownBlock = some g → v2.ownBlock ≠ some g := by
  intro g h3 h4
  obtain ⟨_, c1, k1⟩ := own_box h1 g h3
  obtain ⟨_, c2, k2⟩ := own_box h2 g h4
  exact box_ne k1 k2 hne rfl
/-- A text in parts: lines that are whole, and the last one. -/
structure Sp (w wr : World) (t : Tm) (LA : Option Addr) (ln lc : Nat) (WA : Option Addr) (wk wc : Nat) (cs : List Value) (ws : List (List UInt8)) (p : List UInt8) : Prop where
  box : Box wr w.heap.size 26 t.cs
  bel : Below w.heap.size w wr
  line : wr.ownsRow (w.heap.size + 1) 5 1 (.slice LA ln lc) ln (bv p)
  llen : p.length = ln
  want : wr.ownsRow (w.heap.size + 1) 27 1 (.slice WA wk wc) wk cs
  wlen : ws.length = wk
  pl : L10.PL wr (w.heap.size + 1) ws cs
  sep : ∀ v ∈ cs, ∀ g, v.ownBlock = some g → ∀ a, LA = some a → a.block ≠ g
section
variable {w u u' : World} {t : Tm} {LA : Option Addr} {ln lc : Nat} {WA : Option Addr} {wk wc : Nat} {cs : List Value} {ws : List (List UInt8)} {p : List UInt8}
theorem Sp.grow (H : Sp w u t LA ln lc WA wk wc cs ws p) (k : Below u.heap.size u u') : Sp w u' t LA ln lc WA wk wc cs ws p :=
  ⟨box_below H.box k, H.bel.trans (k.mono H.bel.size), own_keep H.line k, H.llen, own_keep H.want k, H.wlen, H.pl.below k, H.sep⟩
theorem Sp.step {A' : Option Addr} {c' : Nat} {y : UInt8} (H : Sp w u t LA ln lc WA wk wc cs ws p) (ho : Hid (u'.ownsRow (w.heap.size + 1) 5 1 (.slice A' (ln + 1) c') (ln + 1) (bv (p ++ [y])))) (hb : Hid (ButP (fun b => ∃ q, LA = some q ∧ q.block = b) u u')) (hf : Hid (∀ q, A' = some q → (∃ r, LA = some r ∧ r.block = q.block) ∨ u.heap.size ≤ q.block)) : Sp w u' t A' (ln + 1) c' WA wk wc cs ws (p ++ [y]) := by
  have hge : ∀ a, LA = some a → w.heap.size + 1 ≤ a.block := fun a ha => by
    have := H.line
    rw [ha] at this
    exact own_ge this
  refine ⟨hb.out.box H.box ?_, H.bel.trans (hb.out.below H.bel.size ?_), ho.out, by simp [H.llen], hb.out.own H.want ?_, H.wlen, pl_but H.pl hb.out ?_, ?_⟩
  · rintro ⟨q, hq, e⟩
    have := hge q hq
    omega
  · rintro x ⟨q, hq, e⟩
    have := hge q hq
    omega
  · rintro g hg ⟨q, hq, e⟩
    have := own_ne2 H.want H.line (by decide) g hg
    rw [hq] at this
    exact this (by rw [← e]; rfl)
  · rintro v hv g hg ⟨q, hq, e⟩
    exact H.sep v hv g hg q hq e
  · intro v hv g hg a ha
    rcases hf.out a ha with ⟨r, hr, e⟩ | h
    · rw [← e]
      exact H.sep v hv g hg r hr
    · have := pl_lt H.pl v hv g hg
      omega
theorem Sp.cut {A' : Option Addr} {c' : Nat} {cs' : List Value} (H : Sp w u t LA ln lc WA wk wc cs ws p) (ho : Hid (u'.ownsRow (w.heap.size + 1) 27 1 (.slice A' (wk + 1) c') (wk + 1) cs')) (hp : Hid (L10.PL u' (w.heap.size + 1) (ws ++ [p]) cs')) (hk : Hid (Kept (w.heap.size + 1) [27] u u')) : Sp w u' t none 0 0 A' (wk + 1) c' cs' (ws ++ [p]) [] :=
  ⟨hk.out.box H.box (by decide), H.bel.trans ((hk.out.mono (Nat.le_succ _) (fun _ h => h)).below H.bel.size), ⟨rfl, .inl ⟨rfl, rfl⟩⟩, rfl, ho.out, by simp [H.wlen], hp.out, fun _ _ _ _ _ h => by cases h⟩
theorem Sp.lit (H : Sp w u t LA ln lc WA wk wc cs ws p) (o : Obj) : Hid (Sp w (u.alloc o) t LA ln lc WA wk wc cs ws p) := hid (H.grow ((Below.refl _ u).alloc (Nat.le_refl _) o))
end
/-- One of the lines that are whole. -/
theorem sp_line {w u : World} {t : Tm} {LA : Option Addr} {ln lc : Nat} {WA : Option Addr} {wk wc : Nat} {cs : List Value} {ws : List (List UInt8)} {p : List UInt8} (H : Sp w u t LA ln lc WA wk wc cs ws p) {j : Nat} (hj : j < ws.length) :
    ∃ g cw, WA = some ⟨g, 0, none⟩ ∧ u.cell? ⟨g, j, none⟩ = some cw ∧ ∃ l, ws[j]? = some l ∧ ∃ A9 c9, cw = .slice A9 l.length c9 ∧ Hid (SlB u u.heap.size A9 c9 l) ∧ ws.drop j = l :: ws.drop (j + 1) := by
  obtain ⟨A9, c9, h1, h2⟩ := H.pl.2 j hj
  have hwl := H.wlen
  rcases H.want.2 with ⟨e, h0⟩ | ⟨g, cap, cur, e, _, hg, hcap, _, _, hcur⟩
  · omega
  · injection e with e1 e2 e3
    refine ⟨g, _, e1, ?_, ws[j], List.getElem?_eq_getElem hj, A9, c9, rfl, hid (slb_own (hid rfl) (hid h2)).out, List.drop_eq_getElem_cons hj⟩
    have hc : u.cell? ⟨g, j, none⟩ = cur[j]? := (show Box u g _ cur from hg).cell j
    rw [hc]
    have h3 : (cur.toList.take (wk * 1))[j]? = cs[j]? := by rw [hcur]
    rw [List.getElem?_take_of_lt (by omega)] at h3
    rw [← h1, ← h3]
    simp
section
variable {ops : Array Oper} {rest : List Oper} {o : Oper} {a : Act} {Q : Exit → Act → World → Prop} {w : World} {t : Tm} {LA : Option Addr} {ln lc : Nat} {WA : Option Addr} {wk wc : Nat} {cs : List Value} {ws : List (List UInt8)} {p : List UInt8}
/-- A byte behind the last part. -/
theorem app_sp (u : World) (hgd : o.guard = none) (s x : Operand) (ho : o.op = .call { callee := .builtin .append, args := #[s, x], argTypes := #[27, 27] }) (H : Hid (Sp w u t LA ln lc WA wk wc cs ws p)) (y : UInt8) (v : Int) (hv : v = (y.toNat : Int)) (hs : a.eval s = .slice LA ln lc) (g : Nat) (hg : g = u.heap.size) (hx : a.eval x = .slice (some ⟨g, 0, none⟩) 1 1) (hln : ln ≤ 1000)
    (h : ∀ A' c' w', Hid (Sp w w' t A' (ln + 1) c' WA wk wc cs ws (p ++ [y])) → wpList Tryz.prog ops Q rest (a.put o.dst (.slice A' (ln + 1) c')) w') : wpList Tryz.prog ops Q (o :: rest) a (u.alloc (.cells #[.int .u8 v] 5)) := by
  subst hv hg
  have H6 := H.out.lit (.cells #[.int .u8 (y.toNat : Int)] 5)
  have S6 := hid (slb_litm u [y] 1 #[.int .u8 (y.toNat : Int)] (0, 0) rfl rfl (by unfold maxLen; omega))
  refine app_base _ hgd s x ho (w.heap.size + 1) (by have := H.out.box.lt; simp; omega) ln lc LA p hs (hid H6.out.line) _ 1 1 [y] hx S6 rfl (by omega) ?_
  intro A10 c10 w4 P10 B10 F10
  exact h A10 c10 w4 (hid (H6.out.step P10 B10 F10))
/-- The last part becomes a line. -/
theorem cut_sp (u : World) (hgd : o.guard = none) (s x : Operand) (ho : o.op = .call { callee := .builtin .append, args := #[s, x], argTypes := #[31, 31] }) (H : Hid (Sp w u t LA ln lc WA wk wc cs ws p)) (hs : a.eval s = .slice WA wk wc) (g : Nat) (hg : g = u.heap.size) (hx : a.eval x = .slice (some ⟨g, 0, none⟩) 1 1) (hwk : wk ≤ 1000)
    (h : ∀ A' c' cs' w', Hid (Sp w w' t none 0 0 A' (wk + 1) c' cs' (ws ++ [p]) []) → wpList Tryz.prog ops Q rest (a.put o.dst (.slice A' (wk + 1) c')) w') : wpList Tryz.prog ops Q (o :: rest) a (u.alloc (.cells #[.slice LA ln lc] 27)) := by
  subst hg
  refine L10.app_list u hgd s x ho (w.heap.size + 1) wk wc WA cs ws hs (hid H.out.want) (hid H.out.pl) u.heap.size rfl hx LA ln lc p (hid H.out.line) (hid H.out.llen) (by have := H.out.box.lt; omega) (by omega) ?_
  intro A11 c11 cs11 w5 P11 Q11 R11
  exact h A11 c11 cs11 w5 (hid (H.out.cut P11 Q11 R11))
end
def opL : List Int := [33, 37, 31, 34, 39]
theorem opL_at {k : Nat} (hk : k < 5) : (#[.int .i64 33, .int .i64 37, .int .i64 31, .int .i64 34, .int .i64 39] : Array Value)[k]? = some (.int .i64 (opL.getD k 0)) := by
  match k, hk with
  | 0, _ => rfl
  | 1, _ => rfl
  | 2, _ => rfl
  | 3, _ => rfl
  | 4, _ => rfl
def tL (t : Tm) : Tm := setK (setT t 51 true) opL false 5
theorem tL_T {t : Tm} (ht : t.Ok) : (tL t).Ok ∧ hasN (tL t).f 51 = true ∧ hasN (tL t).f 33 = false ∧ hasN (tL t).f 37 = false ∧ hasN (tL t).f 31 = false ∧ hasN (tL t).f 34 = false ∧ hasN (tL t).f 39 = false := by
  have k0 := setT_ok ht 51 true
  have h0 := set_has ht 51 true (by decide)
  unfold tL
  generalize setT t 51 true = u at k0 h0 ⊢
  have h1 := setK_out k0 (ops := opL) false (by decide) (op := 51) (by decide) (by decide) 5 (by decide)
  exact ⟨setK_ok k0 _ _ _, h1.trans h0, setK_in k0 false (by decide) (by decide) 5 (by decide) (by decide), setK_in k0 false (by decide) (by decide) 5 (by decide) (by decide), setK_in k0 false (by decide) (by decide) 5 (by decide) (by decide), setK_in k0 false (by decide) (by decide) 5 (by decide) (by decide), setK_in k0 false (by decide) (by decide) 5 (by decide) (by decide)⟩
set_option maxRecDepth 100000 in
set_option maxHeartbeats 8000000 in
theorem lines_walk (w : World) (t : Tm) (ht : t.Ok) (A : Option Addr) (c n : Nat) (bs : List UInt8) (hb : Hid (SlB w w.heap.size A c bs)) (hn : Hid (bs.length = n)) (q : UInt8) :
    Calls Tryz.prog 3 #[.agg t.cs, .slice A n c, .int .u8 (q.toNat : Int)] w fun e w' => e = .returned (.bool true) ∧ Hid (Below w.heap.size w w') := by
  have hs := cs_size ht.len
  have K0 := old26 w t
  have hq := q.toNat_lt
  obtain ⟨Q, hQ⟩ : ∃ Q, Hid (q.toNat + 1 = Q) := ⟨_, hid rfl⟩
  have hQ0 : 0 < Q := by have := hQ.out; omega
  have hQ1 : Q ≤ 256 := by have := hQ.out; omega
  have hw0 : IntKind.i64.wrap (1 + (q.toNat : Int)) = (Q : Int) := by rw [IntKind.wrap_i64, ← hQ.out]; omega
  have hw1 : IntKind.i64.wrap (q.toNat : Int) = (q.toNat : Int) := by rw [IntKind.wrap_i64]; omega
  have okQ : i64ok (Q : Int) := by unfold i64ok; omega
  have ok51 := setT_ok ht 51 true
  go_enter Tryz.func3, Tryz.ntmps3
  go_wp2_with (first
    | (refine bx26 (by rfl) _ (by rfl) _ (by rfl) hs ?_
       intro G0)
    | (go_at_call 15
       (with_reducible refine (alive_any _).mono ?_)
       rintro e u1 ⟨rfl, k⟩
       have G1 := hid (box_below G0.out k.out)
       have K1 := bel_t K0 k.out
       clear k G0 K0)
    | (refine ld26 (by rfl) _ (by rfl) _ (by rfl) t.cs G1.out hs ?_)
    | (go_at_call 16
       (with_reducible refine (set_any _ t ht 51 true).mono ?_)
       rintro e u2 ⟨rfl, k2⟩
       have X2 := hid (box_below G1.out k2.out)
       have K2 := bel_t K1 k2.out
       clear k2 G1 K1)
    | (refine st26 (by rfl) _ _ (by rfl) _ (by rfl) (setT t 51 true) ok51.len (by rfl) _ X2.out hs ?_
       intro u3 X3 k3
       have K3 := hid (K2.out.trans (k3.out.below (Nat.le_refl _)))
       clear k3 X2 K2)
    | (refine wpList_build_at rfl 30 _ rfl #[.int .i64 33, .int .i64 37, .int .i64 31, .int .i64 34, .int .i64 39] ?hc ?_
       case hc => kernel_rfl))
  obtain ⟨t4, ht4⟩ : ∃ t4, Hid (setT t 51 true = t4) := ⟨_, hid rfl⟩
  rw [ht4.out] at X3 ok51
  go_loopg [29] 5 (fun gk i wr => ∃ k : Nat, k + gk = 5 ∧ i = .int .i64 k ∧ Hid (Box wr w.heap.size 26 (setK t4 opL false k).cs) ∧ Hid (Below w.heap.size w wr))
  case atStart => exact ⟨0, by omega, rfl, X3, K3⟩
  case round =>
    clear X3 K3
    obtain ⟨k, hk, rfl, X3, K3⟩ := hrel
    have hjs : (setK t4 opL false k).cs.size = 24 := cs_size (setK_ok ok51 _ _ k).len
    by_cases hlt : k < 5
    · have hki : (k : Int) < 5 := by omega
      have hix := index_int Tryz.underlying30 hlt (opL_at hlt)
      generalize hop : opL.getD k 0 = op at hix
      have HOP := hid hop
      clear hop
      go_wp2_with (first
        | (refine ld26 (by rfl) _ (by rfl) _ (by rfl) _ X3.out hjs ?_)
        | (go_at_call 16
           (with_reducible refine (set_any _ (setK t4 opL false k) (setK_ok ok51 _ _ k) op false).mono ?_)
           rintro e u4 ⟨rfl, k4⟩
           have X4 := hid (box_below X3.out k4.out)
           have K4 := bel_t K3 k4.out
           clear k4 X3 K3)
        | (refine st26 (by rfl) _ _ (by rfl) _ (by rfl) (setT (setK t4 opL false k) op false) (setT_ok (setK_ok ok51 _ _ k) _ _).len (by rfl) _ X4.out hjs ?_
           intro u5 X5 k5
           have K5 := hid (K4.out.trans (k5.out.below (Nat.le_refl _)))
           clear k5 X4 K4))
      go_roundg (gk - 1)
      case measure => omega
      case rel =>
        rw [← HOP.out] at X5
        exact ⟨k + 1, by omega, by go_num, X5, K5⟩
    · obtain rfl : k = 5 := by omega
      have hki : ¬ ((5 : Nat) : Int) < 5 := by omega
      obtain ⟨t6, ht6⟩ : ∃ t6, tL t = t6 := ⟨_, rfl⟩
      have TL := hid (tL_T ht)
      rw [ht6] at TL
      have e6 : setK t4 opL false 5 = t6 := by rw [← ht6, ← ht4.out]; rfl
      rw [e6] at X3
      have ok6 : t6.Ok := TL.out.1
      have hs6 := cs_size ok6.len
      clear e6 ht6 hjs hlt hk ok51 ht4
      by_cases h200 : 200 < n
      · have h2 : (n : Int) > 200 := by omega
        go_wp2_with fail
        go_ret
        exact ⟨rfl, K3⟩
      · have h2 : ¬ (n : Int) > 200 := by omega
        go_wp2_with fail
        clear h2 hki
        go_loopg [9, 10, 42] n (fun gk a b i wr => ∃ (m : Nat) (LA : Option Addr) (ln lc : Nat) (WA : Option Addr) (wk wc : Nat) (cs : List Value) (ws : List (List UInt8)) (p : List UInt8), m + gk = n ∧ i = .int .i64 m ∧ a = .slice WA wk wc ∧ b = .slice LA ln lc ∧ Hid (spl (bs.take m) = (ws, p)) ∧ Hid (Sp w wr t6 LA ln lc WA wk wc cs ws p) ∧ Hid (∀ (j : Nat) (y : UInt8), j < m → bs[j]? = some y → y = 10 ∨ PlainC t6 y))
        case atStart =>
          refine ⟨0, _, _, _, none, 0, 0, [], [], [], by omega, rfl, rfl, rfl, hid (by rw [List.take_zero]; rfl), hid ⟨box_below X3.out ((Below.refl _ wr).alloc (Nat.le_refl _) _), K3.out.trans (((Below.refl _ wr).alloc (Nat.le_refl _) _).mono K3.out.size), lit_own (by have := X3.out.lt; omega) rfl, rfl, ⟨rfl, .inl ⟨rfl, rfl⟩⟩, rfl, L10.PL.nil_ _ _, fun v hv => by cases hv⟩, hid (fun j y hj => by omega)⟩
        case round =>
          clear X3 K3
          obtain ⟨m, LA, ln, lc, WA, wk, wc, cs, ws, p, hm, rfl, rfl, rfl, hsp, H3, HP⟩ := hrel
          have hlen := spl_len _ (bs.take m) rfl
          have hne := hid (spl_ne _ (bs.take m) rfl)
          rw [hsp.out, List.length_take] at hlen
          have hlen : ws.flatten.length + p.length = min m bs.length := hlen
          rw [hsp.out] at hne
          have hcnt := flat_count hne.out
          have hll := hid H3.out.llen
          have hwl := hid H3.out.wlen
          have hln : ln ≤ 200 := by have := hll.out; omega
          have hwk : wk ≤ 200 := by have h1 := hwl.out; have h2 : ws.length ≤ ws.flatten.length := hcnt; omega
          clear hcnt
          by_cases hlt : m < n
          · have hki : (m : Int) < (n : Int) := by omega
            have L4 := slb_at hb (hid H3.out.bel)
            obtain ⟨b0, o0, y, hA, hy, cy⟩ := slb_cell L4.out hn.out hlt
            subst hA
            have HY := hid hy
            have ht1 : bs.take (m + 1) = bs.take m ++ [y] := by
              obtain ⟨h1, h2⟩ := List.getElem?_eq_some_iff.1 hy
              rw [List.take_succ_eq_append_getElem h1, h2]
            have hsp2 := hid (spl_snoc (bs.take m) y)
            rw [← ht1, hsp.out] at hsp2
            clear ht1 hy hlen
            by_cases h10 : y = 10
            · subst h10
              have hsp3 := hid (hsp2.out.trans (if_pos rfl))
              clear hsp2
              rw [show ((10 : UInt8).toNat : Int) = 10 from rfl] at cy
              go_wp2_with (first
                | (refine app_sp wr rfl _ _ rfl H3 10 10 rfl (by rfl) _ rfl (by rfl) (by omega) ?_
                   intro A10 c10 w4 H7)
                | (refine cut_sp w4 rfl _ _ rfl H7 (by rfl) _ rfl (by rfl) (by omega) ?_
                   intro A11 c11 cs11 w5 H8))
              go_roundg (gk - 1)
              case measure => omega
              case rel => exact ⟨m + 1, none, 0, 0, A11, wk + 1, c11, cs11, ws ++ [p ++ [10]], [], by omega, by go_num, rfl, rfl, hsp3, H8, hid (fun j z hj hz => by
                by_cases e : j = m
                · subst e
                  rw [HY.out] at hz
                  injection hz with hz
                  exact .inl hz.symm
                · exact HP.out j z (by omega) hz)⟩
            · have hsp3 := hid (hsp2.out.trans (if_neg h10))
              clear hsp2
              have q10 : ((y.toNat : Int) == 10) = false := u8_ne h10
              have q11 : ((y.toNat : Int) != 10) = true := by rw [bne, q10]; rfl
              have hX := hid H3.out.box
              cases hp : PlainB t6 y
              · go_wp2_with (first
                  | (refine ld26 (by rfl) _ (by rfl) _ (by rfl) _ hX.out hs6 ?_)
                  | (go_at_call 17
                     (with_reducible refine (plain_any _ t6 ok6 y (hid hp)).mono ?_)
                     rintro e u5 ⟨rfl, k5⟩
                     have H5 := hid (H3.out.grow k5.out)))
                go_ret
                exact ⟨rfl, hid H5.out.bel⟩
              · go_wp2_with (first
                  | (refine ld26 (by rfl) _ (by rfl) _ (by rfl) _ hX.out hs6 ?_)
                  | (go_at_call 17
                     (with_reducible refine (plain_any _ t6 ok6 y (hid hp)).mono ?_)
                     rintro e u5 ⟨rfl, k5⟩
                     have H5 := hid (H3.out.grow k5.out))
                  | (refine app_sp u5 rfl _ _ rfl H5 y _ rfl (by rfl) _ rfl (by rfl) (by omega) ?_
                     intro A10 c10 w4 H7))
                go_roundg (gk - 1)
                case measure => omega
                case rel => exact ⟨m + 1, A10, ln + 1, c10, WA, wk, wc, cs, ws, p ++ [y], by omega, by go_num, rfl, rfl, hsp3, H7, hid (fun j z hj hz => by
                  by_cases e : j = m
                  · subst e
                    rw [HY.out] at hz
                    injection hz with hz
                    subst hz
                    exact .inr (plainB_iff.1 hp)
                  · exact HP.out j z (by omega) hz)⟩
          · obtain rfl : m = n := by omega
            have hki : ¬ (m : Int) < (m : Int) := by omega
            rw [List.take_of_length_le (by have := hn.out; omega)] at hsp
            have hlen : ws.flatten.length + p.length = m := by rw [hlen]; have := hn.out; omega
            clear hlt hm
            have hX := hid H3.out.box
            go_wp2_with fail
            clear hki
            go_loopg [13] 18 (fun gk i wr => ∃ k : Nat, k + gk = 18 ∧ i = .int .i64 ((k : Int) + 1) ∧ Hid (∀ j, j < k → L15.isC t6 ((j : Int) + 1) 10 = false) ∧ Hid (Sp w wr t6 LA ln lc WA wk wc cs ws p))
            case atStart => exact ⟨0, by omega, rfl, hid (fun j hj => by omega), H3⟩
            case round =>
              clear H3 hX
              obtain ⟨k, hk, rfl, HC, H3⟩ := hrel
              have hX := hid H3.out.box
              by_cases hlt : k < 18
              · have hki : (k : Int) + 1 ≤ 18 := by omega
                have c10 : ∀ (W : World) (b : Bool), L15.isC t6 ((k : Int) + 1) 10 = b → Calls Tryz.prog 18 #[.agg t6.cs, .int .i64 ((k : Int) + 1), .int .u8 10] W fun e w' => e = .returned (.bool b) ∧ Hid (Below W.heap.size W w') := fun W b h => L15.isp_b W t6 ok6 _ 10 h
                cases hc : L15.isC t6 ((k : Int) + 1) 10
                · go_wp2_with (first
                    | (refine ld26 (by rfl) _ (by rfl) _ (by rfl) _ hX.out hs6 ?_)
                    | (go_at_call 18
                       (with_reducible refine (c10 _ _ hc).mono ?_)
                       rintro e u5 ⟨rfl, k5⟩
                       have H5 := hid (H3.out.grow k5.out)))
                  go_roundg (gk - 1)
                  case measure => omega
                  case rel => exact ⟨k + 1, by omega, by go_num, hid (fun j hj => by
                    by_cases e : j = k
                    · subst e; exact hc
                    · exact HC.out j (by omega)), H5⟩
                · go_wp2_with (first
                    | (refine ld26 (by rfl) _ (by rfl) _ (by rfl) _ hX.out hs6 ?_)
                    | (go_at_call 18
                       (with_reducible refine (c10 _ _ hc).mono ?_)
                       rintro e u5 ⟨rfl, k5⟩
                       have H5 := hid (H3.out.grow k5.out)))
                  go_ret
                  exact ⟨rfl, hid H5.out.bel⟩
              · obtain rfl : k = 18 := by omega
                have hki : ¬ ((18 : Nat) : Int) + 1 ≤ 18 := by omega
                have LT : Hid (LnT t6) := hid ⟨ok6, TL.out.2.1, TL.out.2.2.1, TL.out.2.2.2.1, TL.out.2.2.2.2.1, TL.out.2.2.2.2.2.1, TL.out.2.2.2.2.2.2, fun op ho hp => by
                  have := HC.out (op - 1).toNat (by omega)
                  rwa [show ((op - 1).toNat : Int) + 1 = op by omega] at this⟩
                clear HC hlt hk TL
                obtain ⟨v4, hv4⟩ : ∃ v, v = wr := ⟨_, rfl⟩
                subst hv4
                go_wp2_with (first
                  | (refine ld26 (by rfl) _ (by rfl) _ (by rfl) _ hX.out hs6 ?_)
                  | (go_at_call 19
                     (with_reducible refine (newp_any _ t6 ok6).mono ?_)
                     rintro e w2 ⟨pp, S0, rfl, A2, N2, k2⟩
                     have H2 := hid (Al.made (w0 := v4) A2 N2 k2)
                     clear A2 k2 N2))
                clear hki
                go_loopg [76] m (fun gk i wr => ∃ (k : Nat) (S : Nat → Prop) (D : Ds), k + gk = m ∧ i = .int .i64 k ∧ Hid (Al v4 wr pp S D) ∧ Hid (LnAt t6 (spl (bs.take k)).1 (spl (bs.take k)).2 D))
                case atStart => exact ⟨0, S0, newD t6, by omega, rfl, H2, hid (by rw [List.take_zero]; exact LnAt.new ok6)⟩
                case round =>
                  clear H2
                  obtain ⟨k, S, D, hk, rfl, HA, E3⟩ := hrel
                  by_cases hlt : k < m
                  · have hki : (k : Int) < (m : Int) := by omega
                    have L4 := slb_at hb (hid (H3.out.bel.trans (HA.out.bel.mono H3.out.bel.size)))
                    obtain ⟨b0, o0, y, hA, hy, cy⟩ := slb_cell L4.out hn.out hlt
                    subst hA
                    have hpy := HP.out k y hlt hy
                    have hlk := spl_len _ (bs.take k) rfl
                    rw [List.length_take] at hlk
                    have ht1 : bs.take (k + 1) = bs.take k ++ [y] := by
                      obtain ⟨h1, h2⟩ := List.getElem?_eq_some_iff.1 hy
                      rw [List.take_succ_eq_append_getElem h1, h2]
                    have hst : Hid (LnAt t6 (spl (bs.take (k + 1))).1 (spl (bs.take (k + 1))).2 (inputD D y).1 ∧ (inputD D y).2 = []) := hid (by
                      rw [ht1, spl_snoc]
                      by_cases h10 : y = 10
                      · subst h10
                        rw [if_pos rfl]
                        exact E3.out.nl LT.out (by omega)
                      · rw [if_neg h10]
                        exact E3.out.byte LT.out (hpy.resolve_left h10) (by omega))
                    clear ht1 hy hpy hlk
                    go_wp2_with (first
                      | (go_at_call 20
                         (with_reducible refine (inputp_any _ pp S D (hid HA.out.at_) (hid E3.out.inv.fit) y (hid rfl)).mono ?_)
                         rintro e w3 ⟨A3, n3, c3, rfl, hn3, -, O3⟩
                         obtain rfl : n3 = 0 := by rw [← hn3.out, hst.out.2]; rfl
                         obtain ⟨S4, H4, N4, B4⟩ := HA.out.next O3))
                    go_roundg (gk - 1)
                    case measure => omega
                    case rel => exact ⟨k + 1, S4, _, by omega, by go_num, H4, hid hst.out.1⟩
                  · obtain rfl : k = m := by omega
                    have hki : ¬ (k : Int) < (k : Int) := by omega
                    rw [List.take_of_length_le (by have := hn.out; omega)] at E3
                    rw [hsp.out] at E3
                    have E3 : Hid (LnAt t6 ws p D) := E3
                    have htot : ws.flatten.length + p.length ≤ 200 := by rw [hlen]; omega
                    clear HP hlt hk
                    go_wp2_with fail
                    clear hki
                    go_loopg [91] wk (fun gk i wr => ∃ (j : Nat) (S : Nat → Prop) (D : Ds), j + gk = wk ∧ i = .int .i64 j ∧ Hid (Al v4 wr pp S D) ∧ Hid (LnAt t6 (ws.drop j) p D))
                    case atStart => exact ⟨0, S, D, by omega, rfl, HA, by rw [List.drop_zero]; exact E3⟩
                    case round =>
                      clear HA
                      obtain ⟨j, S, D, hj, rfl, HA, E3⟩ := hrel
                      by_cases hlt : j < wk
                      · have hki : (j : Int) < (wk : Int) := by omega
                        have hjw : j < ws.length := by have := hwl.out; omega
                        obtain ⟨g, cw, rfl, cj, l, hl, A9, c9, ecs, L9, hdr⟩ := sp_line H3.out hjw
                        have cj2 := (HA.out.bel.cell (p := ⟨g, j, none⟩) (World.block_lt_of_cell? _ _ cj)).trans cj
                        have L9' := slb_at L9 (hid HA.out.bel)
                        have hne9 : l ≠ [] := hne.out l (List.mem_of_getElem? hl)
                        have hsub : l.length + (ws.drop (j + 1)).flatten.length + p.length ≤ 200 := by
                          have h1 := congrArg (fun x => x.flatten.length) (List.take_append_drop j ws)
                          simp only [List.flatten_append, List.length_append] at h1
                          rw [hdr] at h1
                          simp only [List.flatten_cons, List.length_append] at h1
                          omega
                        rw [hdr] at E3
                        clear hdr
                        go_wp2_with fail
                        obtain ⟨gK, rfl⟩ : ∃ gK, gK = gk := ⟨_, rfl⟩
                        go_loopg [19] l.length (fun gj a wr => ∃ (l2 : List UInt8) (S : Nat → Prop) (D : Ds) (A8 : Option Addr) (c8 : Nat), l2.length = gj ∧ a = .slice A8 l2.length c8 ∧ l2.length ≤ l.length ∧ Hid (SlB v4 v4.heap.size A8 c8 l2) ∧ Hid (Al v4 wr pp S D) ∧ Hid (LnAt t6 (if l2 = [] then ws.drop (j + 1) else l2 :: ws.drop (j + 1)) p D))
                        case atStart => exact ⟨l, S, D, A9, c9, rfl, rfl, Nat.le_refl _, L9, HA, by rw [if_neg hne9]; exact E3⟩
                        case round =>
                          clear HA L9'
                          obtain ⟨l2, S, D, A8, c8, hl2, rfl, hle, L8, HA, E3⟩ := hrel
                          by_cases he : l2 = []
                          · subst he
                            rw [if_pos rfl] at E3
                            have hki2 : ¬ (([] : List UInt8).length : Int) > 0 := by simp
                            go_wp2_with fail
                            go_roundg (gK - 1)
                            case measure => omega
                            case rel => exact ⟨j + 1, S, D, by omega, by go_num, HA, E3⟩
                          · rw [if_neg he] at E3
                            obtain ⟨N, hN⟩ : ∃ N, Hid (l2.length = N) := ⟨_, hid rfl⟩
                            have hN0 : N ≠ 0 := fun h => he (List.eq_nil_of_length_eq_zero (hN.out.trans h))
                            have hNi : ((N : Nat) : Int) > 0 := by omega
                            have hst := hid (E3.out.some LT.out.h51 (by simp only [List.flatten_cons, List.length_append]; omega) hQ0)
                            obtain ⟨⟨r1, r2⟩, hrr⟩ : ∃ z, Hid (readD D (Q : Int) 0 = z) := ⟨_, hid rfl⟩
                            rw [hrr.out] at hst
                            obtain rfl : r2 = (l2.take Q, true) := hst.out.1
                            obtain ⟨M, hM⟩ : ∃ M, Hid (min Q N = M) := ⟨_, hid rfl⟩
                            have hMN : M ≤ N := by have := hM.out; omega
                            have hmin : min (Q : Int) (N : Int) = (M : Int) := by have := hM.out; omega
                            have hsz : Hid (((if l2.length ≤ Q then ws.drop (j + 1) else l2.drop Q :: ws.drop (j + 1))) = (if l2.drop Q = [] then ws.drop (j + 1) else l2.drop Q :: ws.drop (j + 1))) := hid (by
                              by_cases h : l2.length ≤ Q
                              · rw [if_pos h, if_pos (List.drop_eq_nil_of_le h)]
                              · rw [if_neg h, if_neg (fun e => h (by have := congrArg List.length e; simp at this; omega))])
                            have hdQ : Hid (l2.drop Q = l2.drop M) := hid (by
                              have := hM.out
                              by_cases h : l2.length ≤ Q
                              · rw [List.drop_eq_nil_of_le h, List.drop_eq_nil_of_le (by have := hN.out; omega)]
                              · rw [show M = Q by have := hN.out; omega])
                            have htQ : Hid (l2.take Q = l2.take M) := hid (by
                              have := hM.out
                              by_cases h : l2.length ≤ Q
                              · rw [List.take_of_length_le h, List.take_of_length_le (by have := hN.out; omega)]
                              · rw [show M = Q by have := hN.out; omega])
                            have hf := run_front L8.out hN.out hMN
                            obtain ⟨A7, c7, hbk, L7⟩ := run_back L8.out hN.out hMN
                            rw [hN.out]
                            go_wp2_with (first
                              | (go_at_call 21
                                 (with_reducible refine (readp16_any _ pp S D (hid HA.out.at_) (hid E3.out.inv.fit) (Q : Int) 0 okQ ok0 hrr).mono ?_)
                                 rintro e w3 ⟨A3, n3, c3, rfl, hn3, L3, O3⟩
                                 obtain rfl : n3 = M := by rw [← hn3.out]; simp only [List.length_take]; have := hM.out; have := hN.out; omega
                                 obtain ⟨S4, H4, N4, B4, F4⟩ := HA.out.nextF O3
                                 have L8' := slb_at (hid (L8.out.take n3)) (hid H4.out.bel))
                              | (go_at_call 22
                                 (with_reducible refine (bytes_two _ A3 A8 c3 c8 n3 n3 (l2.take Q) (l2.take n3) hn3.out (by rw [List.length_take]; have := hN.out; omega) htQ.out L3 L8' (by have := hM.out; unfold maxLen; omega)).mono ?_)
                                 rintro e w4 ⟨rfl, k4⟩
                                 have H5 := hid (H4.out.grow k4.out)))
                            go_roundg (l2.drop Q).length
                            case measure => rw [List.length_drop]; have := hN.out; omega
                            case rel => exact ⟨l2.drop Q, S4, r1, A7, c7, rfl, by rw [hdQ.out, List.length_drop, hN.out], by rw [List.length_drop]; omega, by rw [hdQ.out]; exact L7, H5, by rw [← hsz.out]; exact hid hst.out.2⟩
                      · obtain rfl : j = wk := by omega
                        have hki : ¬ (j : Int) < (j : Int) := by omega
                        rw [List.drop_eq_nil_of_le (by have := hwl.out; omega)] at E3
                        have hrd := hid (LnAt.none E3.out LT.out.h51 (Q : Int))
                        have LP := hid (slb_own hll (hid H3.out.line)).out
                        go_wp2_with (first
                          | (go_at_call 21
                             (with_reducible refine (readp16_any _ pp S D (hid HA.out.at_) (hid E3.out.inv.fit) (Q : Int) 0 okQ ok0 hrd).mono ?_)
                             rintro e w3 ⟨A3, n3, c3, rfl, hn3, L3, O3⟩
                             obtain ⟨S4, H4, N4, B4, F4⟩ := HA.out.nextF O3
                             obtain ⟨h, Hp⟩ := H4.out.at_
                             have c0 := Hp.cell E3.out.inv.t 0 (v := .slice h.lA ln h.lc) (by show some (Value.slice h.lA D.line.length h.lc) = _; rw [E3.out.line, hll.out])
                             have LD := hid Hp.line
                             rw [E3.out.line] at LD
                             have LP' := slb_at LP (hid H4.out.bel))
                          | (go_at_call 22
                             (with_reducible refine (bytes_two _ h.lA LA h.lc lc ln ln p p hll.out hll.out rfl LD LP' (by unfold maxLen; omega)).mono ?_)
                             rintro e w4 ⟨rfl, k4⟩
                             have H5 := hid (H4.out.grow k4.out)))
                        go_ret
                        exact ⟨rfl, hid (H3.out.bel.trans (H5.out.bel.mono H3.out.bel.size))⟩
end Go.Proofs.YtggcampdkgfmgaaGreat
