import Derived.Test.YtgkcappcjlfloaaNC
namespace Go.Proofs.Ytgkcappcjlfloaa
open Go.RowKit

/-- A mode in a stream. -/
def enc5 (op v : Nat) : List UInt8 := UInt8.ofNat op :: four v
theorem enc5_len (op v : Nat) : (enc5 op v).length = 5 := rfl
theorem enc5_v {op v : Nat} (hop : op ≤ 255) (hv : v < 4294967296) : bv (enc5 op v) = [.int .u8 (op : Int), .int .u8 ((v : Int) / 16777216), .int .u8 ((v : Int) / 65536 % 256), .int .u8 ((v : Int) / 256 % 256), .int .u8 ((v : Int) % 256)] := by
  have h := four_v v hv
  have e : ((UInt8.ofNat op).toNat : Int) = (op : Int) := by simp; omega
  show Value.int .u8 ((UInt8.ofNat op).toNat : Int) :: bv (four v) = _
  rw [h, e]
/-- A literal is put behind what is the call's own. -/
theorem app_lit {ops : Array Oper} {rest : List Oper} {o : Oper} {a : Act} {Q : Exit → Act → World → Prop} (w : World) (hgd : o.guard = none) (s x : Operand) (ho : o.op = .call { callee := .builtin .append, args := #[s, x], argTypes := #[38, 38] })
    (base n c : Nat) (A : Option Addr) (xs : List UInt8) (hs : a.eval s = .slice A n c) (hown : Hid (w.ownsRow base 5 1 (.slice A n c) n (bv xs))) (hb : base ≤ w.heap.size) (ys : List UInt8) (m : Nat) (cs : Array Value) (hc : bv ys = cs.toList) (hy : ys.length = m)
    (hx : a.eval x = .slice (some ⟨w.heap.size, 0, none⟩) m m) (hm : n + m ≤ 1000000)
    (h : ∀ A' c' w', Hid (w'.ownsRow base 5 1 (.slice A' (n + m) c') (n + m) (bv (xs ++ ys))) → Hid (Kept base [5] w w') → wpList Try.prog ops Q rest (a.put o.dst (.slice A' (n + m) c')) w') : wpList Try.prog ops Q (o :: rest) a (w.alloc (.cells cs 5)) := by
  subst hy
  obtain ⟨i5, hi5, hz5, hz51, hz52⟩ := info_parts Try.info5
  have hba : base ≤ (w.alloc (.cells cs 5)).heap.size := by simp; omega
  have how := own_keep hown.out ((Below.refl _ w).alloc (Nat.le_refl _) (.cells cs 5))
  refine wpList_app _ hgd s x 38 ho base 5 i5 _ 1 1 Try.underlying38 hi5 hz5 hz51 hz52 rfl (by decide) A n c (bv xs) hs how (w.heap.size + 1) (some ⟨w.heap.size, 0, none⟩) ys.length ys.length (bv ys) hx (by rw [bv_length, Nat.mul_one]) (by rw [hc]; exact lies_lit w cs 5) (bv_one _) (by unfold maxLen; omega) (by omega) hba ?_
  intro A2 c2 u2 ho2 hg2
  rw [← bv_append] at ho2
  have hk : Kept base [5] w u2 := ((Kept.refl base [5] w).alloc _).grown hg2 (fun k hk => by obtain ⟨a, cs, b⟩ := own_box how k hk; exact ⟨a, 5, cs, by simp, b⟩)
  exact h A2 c2 u2 (hid ho2) (hid hk)
set_option maxRecDepth 100000 in
theorem put_any (w : World) (base : Nat) (A : Option Addr) (n c : Nat) (xs : List UInt8) (op v : Nat) (hop : op ≤ 255) (hv : v < 4294967296) (hown : Hid (w.ownsRow base 5 1 (.slice A n c) n (bv xs))) (hb : base ≤ w.heap.size) (hm : n ≤ 100000) :
    Calls Try.prog 38 #[.slice A n c, .int .i64 (op : Int), .int .u32 (v : Int)] w fun e w' => ∃ A' c', e = .returned (.slice A' (n + 5) c') ∧ Hid (w'.ownsRow base 5 1 (.slice A' (n + 5) c') (n + 5) (bv (xs ++ enc5 op v))) ∧ Hid (Kept base [5] w w') := by
  have h1 : (op : Int) ≤ 255 := by omega
  have h2 : (v : Int) < 4294967296 := by omega
  have HV := enc5_v hop hv
  go_enter Try.func38, Try.ntmps38
  go_wp2_with (first
    | (at_builtin
       (refine app_lit w rfl (.tmp 7) (.tmp 21) rfl base n c A xs rfl hown hb (enc5 op v) 5 _ HV rfl rfl (by omega) ?_)
       intro A' c' u2 ho2 hk2))
  go_ret
  exact ⟨A', c', rfl, ho2, hk2⟩
set_option maxRecDepth 100000 in
theorem flagArg_any (w : World) (t : Tm) (ht : t.Ok) (op : Int) : Calls Try.prog 40 #[.agg t.cs, .int .i64 op] w fun e w' => e = .returned (.int .u32 (if hasN t.f op then 1 else 0)) ∧ Hid (Below w.heap.size w w') := by
  have hs := cs_size ht.len
  have K0 : Hid (Below w.heap.size w (w.alloc (.cells t.cs 26))) := hid ((Below.refl _ w).alloc (Nat.le_refl _) _)
  cases hh : hasN t.f op
  all_goals
    go_enter Try.func40, Try.ntmps40
    go_wp2_with (first
      | (refine bx26 (by rfl) _ (by rfl) _ (by rfl) hs ?_; intro G0)
      | (refine ld26 (by rfl) _ (by rfl) _ (by rfl) t.cs G0.out hs ?_)
      | (go_at_call 12
         (with_reducible refine (has_b _ ht hh).mono ?_)
         rintro e u1 ⟨rfl, k⟩
         have K1 := bel_t K0 k.out
         clear k K0 G0))
    go_ret
    exact ⟨rfl, K1⟩
end Go.Proofs.Ytgkcappcjlfloaa
