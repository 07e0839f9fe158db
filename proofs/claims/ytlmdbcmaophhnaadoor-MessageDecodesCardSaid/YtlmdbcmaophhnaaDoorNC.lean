import Derived.Test.YtlmdbcmaophhnaaDoorYD
namespace Go.Proofs.YtlmdbcmaophhnaaDoor
open Go.RowKit

theorem own_fin {w2 wr w8 : World} {base k : Nat} {A' tA lA : Option Addr} {c' tc lc : Nat} {fs : List Fd} {cs : List Value} {f : Fd} {o1 o2 o3 : Obj}
    (hbw : Below w2.heap.size w2 wr) (hro : wr.ownsRow w2.heap.size 50 4 (.slice A' k c') k cs) (hfl : FlatF wr base fs cs)
    (ho : wr.ownsRow base 5 1 (.slice tA f.text.length tc) f.text.length (bv f.text) ∧ wr.ownsRow base 9 1 (.slice lA f.list.length lc) f.list.length (sv f.list))
    (hg8 : (((wr.alloc o1).alloc o2).alloc o3).grownBy w8 (Value.slice A' k c').ownBlock) :
    FlatF w8 base (fs ++ [f]) (cs ++ [.int .i64 f.kind, .int .u32 f.n, .slice tA f.text.length tc, .slice lA f.list.length lc]) ∧ Below w2.heap.size w2 w8 := by
  have hro7 := ((hro.alloc o1).alloc o2).alloc o3
  have k8 : Kept w2.heap.size [50] wr w8 := ((((Kept.refl _ _ _).alloc _).alloc _).alloc _).grown hg8 (fun k hk => by obtain ⟨a, cs, b⟩ := own_box hro7 k hk; exact ⟨a, 50, cs, by simp, b⟩)
  exact ⟨FlatF.snoc (f := f) (k8.own ho.1 (by decide)) (k8.own ho.2 (by decide)) fs cs (FlatF.kept k8 (by decide) (by decide) _ _ hfl), hbw.trans (k8.below hbw.size)⟩

theorem fds_wf {w : World} {B : Nat} {A : Option Addr} {l : List Fd} (h : FdsV w B A l) : ∀ f ∈ l, Wf f := fun f hf => by
  obtain ⟨i, hi, rfl⟩ := List.getElem_of_mem hf
  obtain ⟨b, o, rfl, hb, hc⟩ := h (by rintro rfl; cases hf)
  obtain ⟨tA, tc, lA, lc, hfd, _⟩ := hc i hi
  obtain ⟨_, _, _, _, _, h1, h2, _, _, _, _, _, h3⟩ := hfd
  exact ⟨h1, h2, h3⟩
theorem enc_len (f : Fd) (hk : 1 ≤ f.kind ∧ f.kind ≤ 6) (hf : fault f = 0) : (enc f).length ≤ 33792 := by
  have h : f.kind = 1 ∨ f.kind = 2 ∨ f.kind = 3 ∨ f.kind = 4 ∨ f.kind = 5 ∨ f.kind = 6 := by omega
  rcases h with h | h | h | h | h | h
  · simp [enc, h]
  · simp [enc, h]
  · simp [enc, h, four_len]
  · simp only [fault, h] at hf
    simp at hf
    simp [enc, h, four_len]
    omega
  · simp only [fault, h, namesE] at hf
    simp at hf
    have h64 : f.list.length ≤ 64 := by
      by_cases hh : 64 < f.list.length
      · simp [hh] at hf
      · omega
    have hall : f.list.all nameOk = true := by
      rw [if_neg (by omega)] at hf
      simpa using hf
    have := joined_len f.list hall h64
    simp [enc, h, four_len]
    omega
  · simp only [fault, h] at hf
    simp at hf
    simp [enc, h]
    omega
theorem Tryd.info3 : (Tryd.prog.info? 3).map (fun i => (i.zero, i.size, i.bytes)) = some (some (.int .i64 0), 1, 8) := by kernel_rfl

theorem one1 (k : Int) : ∀ u ∈ (#[Value.int .i64 k] : Array Value).toList, u.oneCell' = true := by
  intro u hu
  simp only [List.mem_cons, List.mem_nil_iff, or_false] at hu
  subst hu
  rfl
theorem kinds_fin {w3 wr w8 : World} {k : Nat} {A' : Option Addr} {c' : Nat} {xs : List Value} {o1 : Obj} {cs : Array Value} {g : Nat} (hg : g = wr.heap.size) (hro : wr.ownsRow w3.heap.size 3 1 (.slice A' k c') k xs) (hbw : Below w3.heap.size w3 wr)
    (hg8 : ((wr.alloc (.cells cs 50)).alloc o1).grownBy w8 (Value.slice A' k c').ownBlock) : Below w3.heap.size w3 w8 ∧ Box w8 g 50 cs := by
  subst hg
  have hro7 := (hro.alloc (.cells cs 50)).alloc o1
  have k8 : Kept w3.heap.size [3] ((wr.alloc (.cells cs 50)).alloc o1) w8 := (Kept.refl _ _ _).grown hg8 (fun k hk => by obtain ⟨a, cs, b⟩ := own_box hro7 k hk; exact ⟨a, 3, cs, by simp, b⟩)
  have hb7 : Below w3.heap.size w3 ((wr.alloc (.cells cs 50)).alloc o1) := (hbw.alloc hbw.size _).alloc (by have := hbw.size; simp; omega) _
  refine ⟨hb7.trans (k8.below (by have := hbw.size; simp; omega)), k8.box (box_below (Box.new wr 50 cs) ((Below.refl _ _).alloc (Nat.le_refl _) _)) (by decide)⟩


end Go.Proofs.YtlmdbcmaophhnaaDoor
