import Derived.Test.YtggcampdkgfmgaaGreatJZ
import Derived.Test.YtggcampdkgfmgaaGreatQTp
import Derived.Test.YtggcampdkgfmgaaGreatJH
import Derived.Deep.DeepCutAuto
namespace Go.Proofs.YtggcampdkgfmgaaGreat
open Go.RowKit

/-! Layer 17: the law's From and the document's Same, of a discipline whose lines wait. -/
def gRest (D : Ds) (h : Ph) (A : Option Addr) (m c : Nat) : List Value :=
  [.slice h.lA D.line.length h.lc, .bool D.nx, .slice A m c, .slice h.rA D.raw.length h.rc, .bool D.s, .bool D.h, .slice h.oA D.out.length h.oc, .int .i64 D.col, .int .i64 D.fr, .int .i64 D.idle]
structure GIn (w : World) (D : Ds) (h : Ph) (A : Option Addr) (c : Nat) : Prop where
  f : FIn w D h
  ln : ∃ qs, L13.LnV w w.heap.size A c qs ∧ L13.lnR qs = D.ls
theorem GIn.grow {w w' : World} {D : Ds} {h : Ph} {A : Option Addr} {c : Nat} (H : GIn w D h A c) (k : Below w.heap.size w w') : GIn w' D h A c := by
  obtain ⟨qs, h1, h2⟩ := H.ln
  exact ⟨H.f.grow k, qs, (L13.ln_up (hid h1) k).out, h2⟩
/-- From, its lines laid one by one. -/
structure FI (w v5 wr : World) (g : Nat) (D : Ds) (h : Ph) (m : Nat) (A : Option Addr) (c : Nat) : Prop where
  bel : Below w.heap.size w wr
  size : v5.heap.size ≤ wr.heap.size
  box : Box wr g 79 (tmV D.t (gRest D h A m c))
  zero : Box wr w.heap.size 79 #[.int .u8 0, .int .u8 0, .int .u8 0, .int .u8 0, .int .u8 0, .int .u8 0, .int .u8 0, .int .u8 0, .int .u8 0, .int .u8 0, .int .u8 0, .int .u8 0, .int .u8 0, .int .u8 0, .int .u8 0, .int .u8 0, .int .u8 0, .int .u8 0, .int .u8 0, .int .u64 0, .int .u32 0, .int .u32 0, .int .i64 0, .int .i64 0, .slice none 0 0, .bool false, .slice none 0 0, .slice none 0 0, .bool false, .bool false, .slice none 0 0, .int .i64 0, .int .i64 0, .int .i64 0]
  row : wr.ownsRow v5.heap.size 142 2 (.slice A m c) m (L13.rcV (h.qs.take m))
theorem kept_row {w : World} {g : Nat} {t : TypeId} {cs : Array Value} (hx : Box w g t cs) (V : Array Value) : Kept g [t] w (w.setRow g V) :=
  ⟨(Turn.setRow w g V).os, (Turn.setRow w g V).tape, (Turn.setRow w g V).output, Nat.le_of_eq (Turn.setRow w g V).size.symm, fun b _ hc => (Turn.setRow w g V).block b (by
    rintro rfl
    rcases hc with hc | hc
    · omega
    · exact hc _ _ _ hx (by simp))⟩
theorem okV_g {D : Ds} (ht : D.t.Ok) (h : Ph) (A : Option Addr) (m c : Nat) : OkV (.agg (tmV D.t (gRest D h A m c))) := by
  refine ⟨_, rfl, tmV_size ht _, ?_⟩
  rw [Array.all_eq_true_iff_forall_mem]
  intro v hv
  simp only [tmV, List.mem_toArray, List.mem_append, gRest, Tm.cl, bv, List.mem_map, List.mem_cons, List.not_mem_nil, or_false] at hv
  rcases hv with (⟨b, _, rfl⟩ | rfl | rfl | rfl | rfl | rfl) | rfl | rfl | rfl | rfl | rfl | rfl | rfl | rfl | rfl | rfl <;> rfl
theorem fi_next {w v5 wr v6 u3 : World} {g : Nat} {D : Ds} {h : Ph} {m : Nat} {A A3 : Option Addr} {c c3 : Nat} {r : L13.Rc} (ht : D.t.Ok) (H : Hid (FI w v5 wr g D h m A c)) (hg : w.heap.size < g) (hg5 : g < v5.heap.size) (hm : h.qs[m]? = some r) (k6 : Below wr.heap.size wr v6) (k3 : Hid (Kept v5.heap.size [142] v6 u3)) (O3 : Hid (u3.ownsRow v5.heap.size 142 2 (.slice A3 (m + 1) c3) (m + 1) (L13.rcV (h.qs.take m ++ [r])))) :
    Hid (FI w v5 (u3.setCell ⟨g, 26, none⟩ (.slice A3 (m + 1) c3)) g D h (m + 1) A3 c3) := by
  have h := H.out
  have hsz : v5.heap.size ≤ v6.heap.size := Nat.le_trans h.size k6.size
  have bx3 : Box u3 g 79 _ := k3.out.box (box_below h.box k6) (by decide)
  have z3 : Box u3 w.heap.size 79 _ := k3.out.box (box_below h.zero k6) (by decide)
  have kb : Below v5.heap.size v6 u3 := k3.out.below hsz
  have ks : KB g u3 (u3.setCell ⟨g, 26, none⟩ (.slice A3 (m + 1) c3)) := kb_st (ButP.refl _ _) 26 _
  have kst : Kept g [79] u3 (u3.setCell ⟨g, 26, none⟩ (.slice A3 (m + 1) c3)) := (Kept.refl _ _ _).store bx3 (Nat.le_refl _) (by simp) _
  have b3 : Below w.heap.size w u3 := (h.bel.trans (k6.mono h.bel.size)).trans (kb.mono (by omega))
  refine hid ⟨b3.trans (ks.below b3.size (fun x hx => by subst hx; omega)), Nat.le_trans hsz (Nat.le_trans kb.size ks.size), ?_, ks.box z3 (fun e => by have e : w.heap.size = g := e; omega), ?_⟩
  · have := bx3.store (24 + 2) (.slice A3 (m + 1) c3)
    rw [tmV_set ht] at this
    exact this
  · rw [L13.rcV_take hm]
    exact kst.own O3.out (by decide)
attribute [local go_sem ↓] wp_ldR ex_ldR wp_bD ex_bD wp_stD wp_stR
attribute [local go_sem] isP_v blkV_v aggV_v stR_v
set_option maxRecDepth 100000 in
set_option maxHeartbeats 4000000 in
theorem from16l_walk (w : World) (p : Nat) (S : Nat → Prop) (D : Ds) (h : Ph) (H : Hid (Wy w p S w S D h)) (ht : Hid D.t.Ok) (hf : Hid (Fit D)) : Calls Tryz.prog 35 #[(.pointer (some ⟨p, 0, none⟩))] w fun e w' => ∃ A2 c2, e = .returned (.agg (tmV D.t (gRest D h A2 D.ls.length c2))) ∧ Hid (w'.ownsRow w.heap.size 142 2 (.slice A2 D.ls.length c2) D.ls.length (L13.rcV h.qs)) ∧ Hid (Below w.heap.size w w') := by
  have hl := ht.out.len
  obtain ⟨ll, hll⟩ : ∃ q, Hid (D.line.length = q) := ⟨_, hid rfl⟩
  obtain ⟨lr, hlr⟩ : ∃ q, Hid (D.raw.length = q) := ⟨_, hid rfl⟩
  obtain ⟨lo, hlo⟩ : ∃ q, Hid (D.out.length = q) := ⟨_, hid rfl⟩
  obtain ⟨n, hn⟩ : ∃ n, Hid (D.ls.length = n) := ⟨_, hid rfl⟩
  obtain ⟨nA, hnA⟩ : ∃ nA, Hid (h.nA = nA) := ⟨_, hid rfl⟩
  have hqn : Hid (h.qs.length = n) := hid (by rw [← hn.out, ← H.out.at_.lsq]; simp [L13.lnR])
  have hn2 : n ≤ 4000 := by have := hf.out.ls; have := hn.out; omega
  obtain ⟨q1, q2⟩ := bld_ok hl D h rfl hll.out hlr.out hlo.out
  have q3 := okV_f ht.out h
  have RS : Hid ((tmV D.t (fRest D h)).size = 34) := hid (tmV_size ht.out _)
  have bz : ∀ W, Below w.heap.size w W → isR W (.pointer (some ⟨p, 0, none⟩)) = true ∧ csR W (.pointer (some ⟨p, 0, none⟩)) = D.t.cs ∧ World.cell? W ⟨p, 24, none⟩ = some (.slice h.lA ll h.lc) ∧ World.cell? W ⟨p, 25, none⟩ = some (.bool D.nx) ∧ World.cell? W ⟨p, 27, none⟩ = some (.slice h.rA lr h.rc) ∧ World.cell? W ⟨p, 28, none⟩ = some (.bool D.s) ∧ World.cell? W ⟨p, 29, none⟩ = some (.bool D.h) ∧ World.cell? W ⟨p, 30, none⟩ = some (.slice h.oA lo h.oc) ∧ World.cell? W ⟨p, 31, none⟩ = some (.int .i64 D.col) ∧ World.cell? W ⟨p, 32, none⟩ = some (.int .i64 D.fr) ∧ World.cell? W ⟨p, 33, none⟩ = some (.int .i64 D.idle) ∧ World.cell? W ⟨p, 26, none⟩ = some (.slice nA n h.nc) := by
    intro W k
    have a0 := Wy.tm H ht.out W k
    have c0 := Wy.cellW H ht.out 0 rfl W k
    have c2 := Wy.cellW H ht.out 2 rfl W k
    have c3 := Wy.cellW H ht.out 3 rfl W k
    have c6 := Wy.cellW H ht.out 6 rfl W k
    rw [hll.out] at c0
    rw [hn.out] at c2
    rw [hlr.out] at c3
    rw [hlo.out] at c6
    rw [hnA.out] at c2
    exact ⟨a0.1, a0.2, c0, Wy.cellW H ht.out 1 rfl W k, c3, Wy.cellW H ht.out 4 rfl W k, Wy.cellW H ht.out 5 rfl W k, c6, Wy.cellW H ht.out 7 rfl W k, Wy.cellW H ht.out 8 rfl W k, Wy.cellW H ht.out 9 rfl W k, c2⟩
  generalize hR : tmV D.t (fRest D h) = R at q2 q3 RS
  go_enter Tryz.func35, Tryz.ntmps35
  go_wp2_with fail
  have K0 : Below w.heap.size w (w.alloc (.cells #[.int .u8 0, .int .u8 0, .int .u8 0, .int .u8 0, .int .u8 0, .int .u8 0, .int .u8 0, .int .u8 0, .int .u8 0, .int .u8 0, .int .u8 0, .int .u8 0, .int .u8 0, .int .u8 0, .int .u8 0, .int .u8 0, .int .u8 0, .int .u8 0, .int .u8 0, .int .u64 0, .int .u32 0, .int .u32 0, .int .i64 0, .int .i64 0, .slice none 0 0, .bool false, .slice none 0 0, .slice none 0 0, .bool false, .bool false, .slice none 0 0, .int .i64 0, .int .i64 0, .int .i64 0] 79)) := (Below.refl _ w).alloc (Nat.le_refl _) _
  have BZ : Hid (Box (w.alloc (.cells #[.int .u8 0, .int .u8 0, .int .u8 0, .int .u8 0, .int .u8 0, .int .u8 0, .int .u8 0, .int .u8 0, .int .u8 0, .int .u8 0, .int .u8 0, .int .u8 0, .int .u8 0, .int .u8 0, .int .u8 0, .int .u8 0, .int .u8 0, .int .u8 0, .int .u8 0, .int .u64 0, .int .u32 0, .int .u32 0, .int .i64 0, .int .i64 0, .slice none 0 0, .bool false, .slice none 0 0, .slice none 0 0, .bool false, .bool false, .slice none 0 0, .int .i64 0, .int .i64 0, .int .i64 0] 79)) w.heap.size 79 #[.int .u8 0, .int .u8 0, .int .u8 0, .int .u8 0, .int .u8 0, .int .u8 0, .int .u8 0, .int .u8 0, .int .u8 0, .int .u8 0, .int .u8 0, .int .u8 0, .int .u8 0, .int .u8 0, .int .u8 0, .int .u8 0, .int .u8 0, .int .u8 0, .int .u8 0, .int .u64 0, .int .u32 0, .int .u32 0, .int .i64 0, .int .i64 0, .slice none 0 0, .bool false, .slice none 0 0, .slice none 0 0, .bool false, .bool false, .slice none 0 0, .int .i64 0, .int .i64 0, .int .i64 0]) := hid (box_nw rfl)
  generalize World.alloc w (.cells #[.int .u8 0, .int .u8 0, .int .u8 0, .int .u8 0, .int .u8 0, .int .u8 0, .int .u8 0, .int .u8 0, .int .u8 0, .int .u8 0, .int .u8 0, .int .u8 0, .int .u8 0, .int .u8 0, .int .u8 0, .int .u8 0, .int .u8 0, .int .u8 0, .int .u8 0, .int .u64 0, .int .u32 0, .int .u32 0, .int .i64 0, .int .i64 0, .slice none 0 0, .bool false, .slice none 0 0, .slice none 0 0, .bool false, .bool false, .slice none 0 0, .int .i64 0, .int .i64 0, .int .i64 0] 79) = u at K0 BZ ⊢
  have hgu : w.heap.size < u.heap.size := BZ.out.lt
  have bzu : ∀ W, Below u.heap.size u W → isR W (.pointer (some ⟨p, 0, none⟩)) = true ∧ csR W (.pointer (some ⟨p, 0, none⟩)) = D.t.cs ∧ World.cell? W ⟨p, 24, none⟩ = some (.slice h.lA ll h.lc) ∧ World.cell? W ⟨p, 25, none⟩ = some (.bool D.nx) ∧ World.cell? W ⟨p, 27, none⟩ = some (.slice h.rA lr h.rc) ∧ World.cell? W ⟨p, 28, none⟩ = some (.bool D.s) ∧ World.cell? W ⟨p, 29, none⟩ = some (.bool D.h) ∧ World.cell? W ⟨p, 30, none⟩ = some (.slice h.oA lo h.oc) ∧ World.cell? W ⟨p, 31, none⟩ = some (.int .i64 D.col) ∧ World.cell? W ⟨p, 32, none⟩ = some (.int .i64 D.fr) ∧ World.cell? W ⟨p, 33, none⟩ = some (.int .i64 D.idle) := fun W k => by
    obtain ⟨a1, a2, a3, a4, a5, a6, a7, a8, a9, a10, a11, _⟩ := bz W (K0.trans (k.mono K0.size))
    exact ⟨a1, a2, a3, a4, a5, a6, a7, a8, a9, a10, a11⟩
  have hD1 : isD (u.drew.alloc (.cells #[.int .u8 0, .int .u8 0, .int .u8 0, .int .u8 0, .int .u8 0, .int .u8 0, .int .u8 0, .int .u8 0, .int .u8 0, .int .u8 0, .int .u8 0, .int .u8 0, .int .u8 0, .int .u8 0, .int .u8 0, .int .u8 0, .int .u8 0, .int .u8 0, .int .u8 0, .int .u64 0, .int .u32 0, .int .u32 0, .int .i64 0, .int .i64 0, .slice none 0 0, .bool false, .slice none 0 0, .slice none 0 0, .bool false, .bool false, .slice none 0 0, .int .i64 0, .int .i64 0, .int .i64 0] 79)) u.heap.size = true := isD_mk (box_nw rfl) rfl
  have hD2 : isD ((u.alloc (.cells #[.int .u8 0, .int .u8 0, .int .u8 0, .int .u8 0, .int .u8 0, .int .u8 0, .int .u8 0, .int .u8 0, .int .u8 0, .int .u8 0, .int .u8 0, .int .u8 0, .int .u8 0, .int .u8 0, .int .u8 0, .int .u8 0, .int .u8 0, .int .u8 0, .int .u8 0, .int .u64 0, .int .u32 0, .int .u32 0, .int .i64 0, .int .i64 0, .slice none 0 0, .bool false, .slice none 0 0, .slice none 0 0, .bool false, .bool false, .slice none 0 0, .int .i64 0, .int .i64 0, .int .i64 0] 79)).drew) u.heap.size = true := isD_mk (box_dr (box_nw rfl)) rfl
  go_cut [3] (fun a wx => ∃ g, a = .pointer (some ⟨g, 0, none⟩) ∧ w.heap.size < g ∧ Hid (Box wx g 79 R) ∧ Hid (Below u.heap.size u wx))
  case first =>
    go_region_held3 (fun W => isR W (.pointer (some ⟨p, 0, none⟩)) = true ∧ csR W (.pointer (some ⟨p, 0, none⟩)) = D.t.cs ∧ World.cell? W ⟨p, 24, none⟩ = some (.slice h.lA ll h.lc) ∧ World.cell? W ⟨p, 25, none⟩ = some (.bool D.nx) ∧ World.cell? W ⟨p, 27, none⟩ = some (.slice h.rA lr h.rc) ∧ World.cell? W ⟨p, 28, none⟩ = some (.bool D.s) ∧ World.cell? W ⟨p, 29, none⟩ = some (.bool D.h) ∧ World.cell? W ⟨p, 30, none⟩ = some (.slice h.oA lo h.oc) ∧ World.cell? W ⟨p, 31, none⟩ = some (.int .i64 D.col) ∧ World.cell? W ⟨p, 32, none⟩ = some (.int .i64 D.fr) ∧ World.cell? W ⟨p, 33, none⟩ = some (.int .i64 D.idle)) (exact bzu _ (by repeat (first | exact Below.refl _ _ | with_reducible apply bel_dr | with_reducible apply bel_al | with_reducible apply bel_rowG))) (fail)
    all_goals
      go_wp2_with fail
      go_meet
      exact ⟨u.heap.size, rfl, hgu, hid (setRow_heap _ u.heap.size _ _ 79 _ (box_dr (box_nw rfl))), hid (bel_rowG (bel_dr (bel_al (Below.refl _ _))) R)⟩
  case rest =>
  obtain ⟨g, rfl, hg, X, K⟩ := hcut
  have K1 : Hid (Below w.heap.size w wc) := hid (K0.trans (K.out.mono K0.size))
  have c26 := (bz wc K1.out).2.2.2.2.2.2.2.2.2.2.2
  have Z1 := hid (box_below BZ.out K.out)
  obtain ⟨v5, hv5⟩ : ∃ v5, v5 = wc := ⟨_, rfl⟩
  subst hv5
  have hg5 : g < v5.heap.size := X.out.lt
  have LS := Wy.lsS H
  have ht0 := ht.out
  subst hR
  clear bz bzu q1 q2 q3 RS hD1 hD2 BZ K0 K hgu
  go_wp2_with fail
  go_loopg [48] n (fun gk i wr => ∃ (m : Nat) (A : Option Addr) (c : Nat), m + gk = n ∧ i = .int .i64 m ∧ Hid (FI w v5 wr g D h m A c))
  case atStart => exact ⟨0, none, 0, by omega, rfl, hid ⟨K1.out, Nat.le_refl _, X.out, Z1.out, by rw [List.take_zero]; exact World.ownsRow_nil _ _ _ _⟩⟩
  case round =>
    clear X Z1 K1
    obtain ⟨m, A, c, hm, rfl, HT⟩ := hrel
    by_cases hlt : m < n
    · have hki : (m : Int) < (n : Int) := by omega
      obtain ⟨b0, o0, r, hA, hr, d0, d1, hS⟩ := (L13.ln_up LS HT.out.bel).out.at (k := m) (by have := hqn.out; omega)
      obtain rfl : nA = some ⟨b0, o0, none⟩ := hnA.out.symm.trans hA
      have HR := hid hr
      obtain ⟨y, hy⟩ : ∃ y, Hid (r.bs.length = y) := ⟨_, hid rfl⟩
      rw [hy.out] at d0
      obtain ⟨re, hre⟩ : ∃ x, Hid (r.e = x) := ⟨_, hid rfl⟩
      rw [hre.out] at d1
      obtain ⟨rA, hrA⟩ : ∃ x, Hid (r.A = x) := ⟨_, hid rfl⟩
      obtain ⟨rc, hrc⟩ : ∃ x, Hid (r.c = x) := ⟨_, hid rfl⟩
      rw [hrA.out, hrc.out] at d0
      have hw : Hid (r.v.toArray = #[.slice rA y rc, .bool re]) := hid (by rw [← hrA.out, ← hrc.out, ← hy.out, ← hre.out]; rfl)
      have e26 : World.cell? wr ⟨g, 26, none⟩ = some (.slice A m c) := (HT.out.box.cell 26).trans (tmV_back ht0 (j := 2) rfl)
      have e26' : ∀ o, World.cell? (wr.alloc o) ⟨g, 26, none⟩ = some (.slice A m c) := fun o => cellOld o e26
      have b1 : Below wr.heap.size wr ((wr.alloc (.cells #[.slice rA y rc, .bool re] 132)).alloc (.cells #[.slice rA y rc, .bool re] 142)) := (((Below.refl _ wr).alloc (Nat.le_refl _) _).alloc (by simp) _)
      have hB1 := hid b1
      have O1 := hid (own_keep HT.out.row b1)
      have L1 : Hid (Lies ((wr.alloc (.cells #[.slice rA y rc, .bool re] 132)).alloc (.cells #[.slice rA y rc, .bool re] 142)) ((wr.alloc (.cells #[.slice rA y rc, .bool re] 132)).alloc (.cells #[.slice rA y rc, .bool re] 142)).heap.size (some ⟨wr.heap.size + 1, 0, none⟩) (L13.rcV [r])) := hid (L13.lies_rec (wr.alloc (.cells #[.slice rA y rc, .bool re] 132)) 142 r #[.slice rA y rc, .bool re] (wr.heap.size + 1) (by simp) hw.out)
      have bx6 := hid (box_below HT.out.box b1)
      have hz1 : v5.heap.size ≤ ((wr.alloc (.cells #[.slice rA y rc, .bool re] 132)).alloc (.cells #[.slice rA y rc, .bool re] 142)).heap.size := Nat.le_trans HT.out.size b1.size
      clear hS hr b1 c26
      go_wp2_with (first
        | (at_builtin
           (refine L13.app_rec 76 142 Tryz.underlying76 L13.Tryz.info37 _ (by rfl) (.tmp 53) (.tmp 55) rfl v5.heap.size m 1 c A (h.qs.take m) [r] rfl O1 hz1 (some ⟨wr.heap.size + 1, 0, none⟩) 1 rfl L1 rfl (by omega) ?_)
           intro A3 c3 u3 O3 k3
           have y26 : World.cell? u3 ⟨g, 26, none⟩ = some (.slice A m c) := ((k3.out.box bx6.out (by decide)).cell 26).trans (tmV_back ht0 (j := 2) rfl)
           have z26 := (k3.out.box bx6.out (by decide)).frozen 26))
      have HT8 := fi_next ht0 HT hg hg5 HR.out hB1.out k3 O3
      go_roundg (gk - 1)
      case measure => omega
      case rel => exact ⟨m + 1, A3, c3, by omega, by go_num, HT8⟩
    · obtain rfl : m = n := by omega
      have hki : ¬ (m : Int) < (m : Int) := by omega
      have hD3 : isD wr w.heap.size = true := isD_mk HT.out.zero rfl
      have HS : Hid ((Tryz.prog.info? 79).map (·.size) = some (tmV D.t (gRest D h A m c)).size) := hid (by rw [tmV_size ht0]; exact size79)
      have X2 := hid HT.out.box
      have q3 := okV_g ht0 h A m c
      obtain ⟨V, hV⟩ : ∃ V, Hid (tmV D.t (gRest D h A m c) = V) := ⟨_, hid rfl⟩
      rw [hV.out] at HS X2 q3
      go_wp2_with (first
        | (refine ldX (by rfl) 79 Tryz.underlying79 _ (by rfl) g (by rfl) X2 HS ?_))
      refine bodyPost_ret (results_cell_row rfl _ _ w.heap.size 79 V (0, 0) _ rfl (setRow_heap wr w.heap.size _ V 79 _ HT.out.zero) Tryz.underlying79 rfl HS.out) rfl ?_
      refine ⟨A, c, by rw [← hV.out, hn.out], hid ?_, hid (bel_rowG' HT.out.bel V)⟩
      have htk : h.qs.take m = h.qs := List.take_of_length_le (by have := hqn.out; omega)
      have ho := HT.out.row
      rw [htk] at ho
      have hk : Kept w.heap.size [79] wr (wr.setRow w.heap.size V) := kept_row HT.out.zero V
      rw [hn.out]
      exact own_mono (hk.own ho (by decide)) (by have := HT.out.bel.size; have := hg5; omega)
theorem from16l_any (w : World) (p : Nat) (S : Nat → Prop) (D : Ds) (hD : Hid (DAt w p S D)) (ht : Hid D.t.Ok) (hf : Hid (Fit D)) : Calls Tryz.prog 35 #[(.pointer (some ⟨p, 0, none⟩))] w fun e w' => ∃ h A c, e = .returned (.agg (tmV D.t (gRest D h A D.ls.length c))) ∧ Hid (GIn w' D h A c) ∧ Hid (Below w.heap.size w w') := by
  obtain ⟨h, H⟩ := Wy.of hD
  refine (from16l_walk w p S D h H ht hf).mono ?_
  rintro e w' ⟨A2, c2, rfl, ho, k⟩
  have hl := (Wy.lsS H).out
  have hq := H.out.at_.lsq
  have hn : h.qs.length = D.ls.length := by rw [← hq]; simp [L13.lnR]
  exact ⟨h, A2, c2, rfl, hid ⟨FIn.grow ⟨ht.out, (Wy.lineS H).out, (Wy.rawS H).out, (Wy.outS H).out⟩ k.out, h.qs, L13.LnO.ln (base := w.heap.size) (E := 142) ⟨hn, ho.out, fun r hr => ((hl.text r hr).below k.out).more k.out.size⟩, hq⟩, k⟩
end Go.Proofs.YtggcampdkgfmgaaGreat
