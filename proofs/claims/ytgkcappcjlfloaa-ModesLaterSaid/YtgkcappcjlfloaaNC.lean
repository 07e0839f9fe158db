import Derived.Test.YtgkcappcjlfloaaMY
namespace Go.Proofs.Ytgkcappcjlfloaa
open Go.RowKit

theorem bel_al {u W : World} {o : Obj} (h : Below u.heap.size u W) : Below u.heap.size u (W.alloc o) := h.alloc h.size o
theorem bel_dr {u W : World} (h : Below u.heap.size u W) : Below u.heap.size u W.drew := h.drew
theorem box_al {W : World} {g : Nat} {t : TypeId} {cs : Array Value} {o : Obj} (h : Box W g t cs) : Box (W.alloc o) g t cs := box_below h ((Below.refl _ W).alloc (Nat.le_refl _) o)
theorem box_dr {W : World} {g : Nat} {t : TypeId} {cs : Array Value} (h : Box W g t cs) : Box W.drew g t cs := h
theorem box_nw {w : World} {g : Nat} {cs : Array Value} {t : TypeId} (hg : g = w.heap.size) : Box (w.alloc (.cells cs t)) g t cs := by
  subst hg
  exact Box.new w t cs
theorem isB_mk {W : World} {g : Nat} {cs : Array Value} (h : Box W g 26 cs) (hs : cs.size = 24) : isB W g = true := by
  unfold Box at h
  unfold isB
  rw [h]
  simp [hs]
theorem isB_al {W : World} {g : Nat} {o : Obj} (h : isB W g = true) : isB (W.alloc o) g = true := isB_mk (box_al (isB_box h).1) (isB_box h).2
theorem isB_dr {W : World} {g : Nat} (h : isB W g = true) : isB W.drew g = true := h
theorem isB_nw {w : World} {g : Nat} (hg : g = w.heap.size) : isB (w.alloc (.cells #[.int .u8 0, .int .u8 0, .int .u8 0, .int .u8 0, .int .u8 0, .int .u8 0, .int .u8 0, .int .u8 0, .int .u8 0, .int .u8 0, .int .u8 0, .int .u8 0, .int .u8 0, .int .u8 0, .int .u8 0, .int .u8 0, .int .u8 0, .int .u8 0, .int .u8 0, .int .u64 0, .int .u32 0, .int .u32 0, .int .i64 0, .int .i64 0] 26)) g = true := isB_mk (box_nw hg) rfl
theorem isB_nw2 {w : World} {o : Obj} {g : Nat} (hg : g = w.heap.size + 1) : isB ((w.alloc o).alloc (.cells #[.int .u8 0, .int .u8 0, .int .u8 0, .int .u8 0, .int .u8 0, .int .u8 0, .int .u8 0, .int .u8 0, .int .u8 0, .int .u8 0, .int .u8 0, .int .u8 0, .int .u8 0, .int .u8 0, .int .u8 0, .int .u8 0, .int .u8 0, .int .u8 0, .int .u8 0, .int .u64 0, .int .u32 0, .int .u32 0, .int .i64 0, .int .i64 0] 26)) g = true := isB_nw (by rw [hg, World.size_alloc])
theorem isB_nw3 {w : World} {o : Obj} {g : Nat} (hg : g = w.heap.size + 1) : isB ((w.alloc o).drew.alloc (.cells #[.int .u8 0, .int .u8 0, .int .u8 0, .int .u8 0, .int .u8 0, .int .u8 0, .int .u8 0, .int .u8 0, .int .u8 0, .int .u8 0, .int .u8 0, .int .u8 0, .int .u8 0, .int .u8 0, .int .u8 0, .int .u8 0, .int .u8 0, .int .u8 0, .int .u8 0, .int .u64 0, .int .u32 0, .int .u32 0, .int .i64 0, .int .i64 0] 26)) g = true := isB_nw (by rw [hg]; exact (World.size_alloc _ _).symm)
theorem isB_below {W W' : World} {g : Nat} (h : isB W g = true) (hb : Below W.heap.size W W') : isB W' g = true := isB_mk (box_below (isB_box h).1 hb) (isB_box h).2
theorem isB_kept {W W' : World} {g B : Nat} (h : isB W g = true) (hb : Kept B [5] W W') : isB W' g = true := isB_mk (hb.box (isB_box h).1 (by decide)) (isB_box h).2
theorem cs26_of {W : World} {g : Nat} {cs : Array Value} (h : Box W g 26 cs) : cs26 W g = cs := by
  unfold Box at h
  unfold cs26
  rw [h]
theorem own_lit {W : World} {g base : Nat} (h : Box W g 5 #[]) (hb : base ≤ g) : W.ownsRow base 5 1 (.slice (some ⟨g, 0, none⟩) 0 0) 0 [] := by
  have := h.lt
  unfold Box at h
  refine ⟨by simp, Or.inr ⟨g, 0, #[], rfl, hb, by simpa using h, by simp, by simp, by simp, by simp⟩⟩
/-- In a region that draws its order: a stream is copied to an empty literal. -/
theorem step_copy {ops : Array Oper} {o : Oper} {a : Act} {K : Act → World → Prop} {Q : Exit → Act → World → Prop} {E : Prop} {W : World} (u : World) (hgd : o.guard = none) (s x : Operand) (ho : o.op = .call { callee := .builtin .append, args := #[s, x], argTypes := #[38, 38] })
    (g : Nat) (hs : a.eval s = .slice (some ⟨g, 0, none⟩) 0 0) (hbox : Box W g 5 #[]) (hg : u.heap.size ≤ g) (hbel : Below u.heap.size u W) (A : Option Addr) (n c : Nat) (bs : List UInt8) (hx : a.eval x = .slice A n c) (hS : Hid (SlB u u.heap.size A c bs)) (hn : bs.length = n) (hm : n ≤ 1000000)
    (h : ∀ A2 c2 u2, Below u.heap.size u u2 → Hid (u2.ownsRow u.heap.size 5 1 (.slice A2 n c2) n (bv bs)) → (∀ g, isB W g = true → isB u2 g = true) → K (a.put o.dst (.slice A2 n c2)) u2) :
    if Region.wanted o (yielded ops a.tmps) = true then Oper.wp Try.prog o a W K Q else E := by
  subst hn
  obtain ⟨i5, hi5, hz5, hz51, hz52⟩ := info_parts Try.info5
  have how := own_lit hbox hg
  refine step_app _ hgd s x 38 ho u.heap.size 5 i5 _ 1 1 Try.underlying38 hi5 hz5 hz51 hz52 rfl (by decide) _ 0 0 [] hs how u.heap.size A bs.length c (bv bs) hx (by rw [bv_length, Nat.mul_one]) (hS.out.2.2.2.below hbel) (bv_one _) (by unfold maxLen; omega) (by omega) hbel.size ?_
  intro A2 c2 u2 ho2 hg2
  simp only [Nat.zero_add, List.nil_append] at ho2 ⊢
  have hk : Kept u.heap.size [5] W u2 := (Kept.refl _ _ W).grown hg2 (fun k hk => by obtain ⟨a, cs, b⟩ := own_box how k hk; exact ⟨a, 5, cs, by simp, b⟩)
  exact h A2 c2 u2 (hbel.trans (hk.below hbel.size)) (hid ho2) (fun g hg => isB_kept hg hk)
/-- In a region that draws its order: a stream is put behind what is the call's own. -/
theorem step_more {ops : Array Oper} {o : Oper} {a : Act} {K : Act → World → Prop} {Q : Exit → Act → World → Prop} {E : Prop} {W : World} (u v : World) (hgd : o.guard = none) (s x : Operand) (ho : o.op = .call { callee := .builtin .append, args := #[s, x], argTypes := #[38, 38] })
    (A1 : Option Addr) (n1 c1 : Nat) (xs : List UInt8) (hs : a.eval s = .slice A1 n1 c1) (hown : Hid (v.ownsRow u.heap.size 5 1 (.slice A1 n1 c1) n1 (bv xs))) (hv : Below v.heap.size v W) (hbel : Below u.heap.size u W) (A : Option Addr) (n c : Nat) (bs : List UInt8) (hx : a.eval x = .slice A n c) (hS : Hid (SlB u u.heap.size A c bs)) (hn : bs.length = n) (hm : n1 + n ≤ 1000000)
    (h : ∀ A2 c2 u2, Below u.heap.size u u2 → Hid (u2.ownsRow u.heap.size 5 1 (.slice A2 (n1 + n) c2) (n1 + n) (bv (xs ++ bs))) → (∀ g, isB W g = true → isB u2 g = true) → K (a.put o.dst (.slice A2 (n1 + n) c2)) u2) :
    if Region.wanted o (yielded ops a.tmps) = true then Oper.wp Try.prog o a W K Q else E := by
  subst hn
  obtain ⟨i5, hi5, hz5, hz51, hz52⟩ := info_parts Try.info5
  have how := own_keep hown.out hv
  refine step_app _ hgd s x 38 ho u.heap.size 5 i5 _ 1 1 Try.underlying38 hi5 hz5 hz51 hz52 rfl (by decide) A1 n1 c1 (bv xs) hs how u.heap.size A bs.length c (bv bs) hx (by rw [bv_length, Nat.mul_one]) (hS.out.2.2.2.below hbel) (bv_one _) (by unfold maxLen; omega) (by omega) hbel.size ?_
  intro A2 c2 u2 ho2 hg2
  rw [← bv_append] at ho2
  have hk : Kept u.heap.size [5] W u2 := (Kept.refl _ _ W).grown hg2 (fun k hk => by obtain ⟨a, cs, b⟩ := own_box how k hk; exact ⟨a, 5, cs, by simp, b⟩)
  exact h A2 c2 u2 (hbel.trans (hk.below hbel.size)) (hid ho2) (fun g hg => isB_kept hg hk)
/-- What is the call's own is decoded. -/
theorem dec_own (u v W : World) (h7 : Below u.heap.size u W) (hv : Below v.heap.size v W) (A : Option Addr) (n c : Nat) (bs : List UInt8) (hown : Hid (v.ownsRow u.heap.size 5 1 (.slice A n c) n (bv bs))) (hn : bs.length = n) {t t' : Tm} {e : Int} (ht : t.Ok) (h : decT bs t = (t', e)) :
    Calls Try.prog 22 #[.slice A n c, .agg t.cs] W fun e' w' => e' = .returned (.tuple #[.agg t'.cs, .int .i64 e]) ∧ Below u.heap.size u w' ∧ ∀ g, isB W g = true → isB w' g = true := by
  subst hn
  refine (dec_b W A c _ (hid (own_slb (_n := 0) (own_keep hown.out hv))) rfl ht h).mono ?_
  rintro e' w' ⟨rfl, hk⟩
  exact ⟨rfl, h7.trans (hk.out.mono h7.size), fun g hg => isB_below hg hk.out⟩
theorem fin_reg {u W u8 : World} {g : Nat} {cs : Array Value} (hW : W.setRow g cs = u8) (hb : Below u.heap.size u W) (hg : u.heap.size ≤ g) (hz : isB W g = true) : Below u.heap.size u u8 ∧ Box u8 g 26 cs := by
  subst hW
  exact ⟨hb.trans ((Turn.setRow W g cs).below hg), setRow_heap _ _ _ cs 26 _ (isB_box hz).1⟩
end Go.Proofs.Ytgkcappcjlfloaa
