import Derived.Test.YtdplngplljejhaaDoorQP
import Derived.Test.YtdplngplljejhaaDoorMK
import Derived.Lib.AppendZeros
namespace Go.Proofs.YtdplngplljejhaaDoor
open Go.RowKit

set_option maxHeartbeats 2000000 in
set_option maxRecDepth 100000 in
theorem same_q (r : Rq) (A A2 : Option Addr) (c c2 B B2 : Nat) (w : World) (hx : Lies w B A (bv r.modes)) (hy : Lies w B2 A2 (bv r.modes)) (hB : B ≤ w.heap.size) (hB2 : B2 ≤ w.heap.size) (hl : r.modes.length ≤ maxLen) :
    Calls Tryd.prog 8 #[.agg (r.cells A c), .agg (r.cells A2 c2)] w fun e w' => e = .returned (.bool true) ∧ Below w.heap.size w w' := by
  have HX := hid hx
  have HY := hid hy
  clear hx hy
  unfold Rq.cells
  go_enter Tryd.func8, Tryd.ntmps8
  go_wp2_with (
    go_at_call 9
    refine (bytes_any _ B B2 A A2 c c2 r.modes r.modes (HX.out.below ((bel2 w _ _).mono hB)) (HY.out.below ((bel2 w _ _).mono hB2)) hl hl).mono ?_
    rintro e w2 ⟨rfl, n, rfl⟩
    rw [decide_eq_true rfl])
  go_ret
  exact ⟨rfl, bel_drewN (bel2 w _ _) n⟩

theorem app_bel {w wr w' : World} {e : TypeId} {n c : Nat} {A : Option Addr} {xs : List Value} (hbw : Below w.heap.size w wr) (hro : wr.ownsRow w.heap.size e 1 (.slice A n c) n xs) (hg : wr.grownBy w' (Value.slice A n c).ownBlock) : Below w.heap.size w w' :=
  hbw.trans (((Kept.refl w.heap.size [e] wr).grown hg (fun k hk => by obtain ⟨a, cs, b⟩ := own_box hro k hk; exact ⟨a, e, cs, by simp, b⟩)).below hbw.size)
theorem Tryd.info22 : (Tryd.prog.info? 22).map (fun i => (i.zero, i.size, i.bytes)) = some (some (.slice none 0 0), 1, 24) := by kernel_rfl

/-- A slice of slices of bytes: what its cells hold. -/
def LisV (w : World) (B : Nat) (A : Option Addr) (ls : List (List UInt8)) : Prop :=
  ls ≠ [] → ∃ b o, A = some ⟨b, o, none⟩ ∧ b < B ∧ ∀ k (h : k < ls.length), ∃ A' c', w.cell? ⟨b, o + k, none⟩ = some (.slice A' ls[k].length c') ∧ SlB w B A' c' ls[k]
theorem SlB.more {w : World} {B B' : Nat} {A : Option Addr} {c : Nat} {bs : List UInt8} (h : SlB w B A c bs) (hB : B ≤ B') : SlB w B' A c bs := ⟨h.1, h.2.1, h.2.2.1, h.2.2.2.more hB⟩
theorem LisV.below {w w' : World} {B : Nat} {A : Option Addr} {ls : List (List UInt8)} (h : LisV w B A ls) (hb : Below B w w') : LisV w' B A ls := fun hn => by
  obtain ⟨b, o, e, hlt, hc⟩ := h hn
  exact ⟨b, o, e, hlt, fun k hk => by obtain ⟨A', c', h1, h2⟩ := hc k hk; exact ⟨A', c', (hb.cell (p := ⟨b, o + k, none⟩) hlt).trans h1, h2.below hb⟩⟩
theorem LisV.more {w : World} {B B' : Nat} {A : Option Addr} {ls : List (List UInt8)} (h : LisV w B A ls) (hB : B ≤ B') : LisV w B' A ls := fun hn => by
  obtain ⟨b, o, e, hlt, hc⟩ := h hn
  exact ⟨b, o, e, by omega, fun k hk => by obtain ⟨A', c', h1, h2⟩ := hc k hk; exact ⟨A', c', h1, h2.more hB⟩⟩

set_option maxHeartbeats 400000 in
set_option maxRecDepth 100000 in
theorem copied_any (w : World) (B : Nat) (A : Option Addr) (c : Nat) (bs : List UInt8) (h : SlB w B A c bs) (hl : bs.length ≤ 1000000) :
    Calls Tryd.prog 32 #[.slice A bs.length c] w fun e w' => ∃ A' c', e = .returned (.slice A' bs.length c') ∧ w'.ownsRow w.heap.size 5 1 (.slice A' bs.length c') bs.length (bv bs) ∧ Below w.heap.size w w' := by
  obtain ⟨i0, hi0, hz0, hz1, hz2⟩ := info_parts Tryd.info5
  have HL := hid hl; clear hl
  go_enter Tryd.func32, Tryd.ntmps32
  go_wp2_with (at_builtin; refine wpList_app _ rfl (.const (.slice none 0 0)) (.tmp 3) 22 rfl w.heap.size 5 i0 _ 1 1 Tryd.underlying22 hi0 hz0 hz1 hz2 rfl (by omega) none 0 0 [] rfl (World.ownsRow_nil _ _ _ _) B A bs.length c (bv bs) rfl ?c0 ?c1 ?c2 ?b1 ?b2 ?b3 ?grow)
  case c0 => simp [bv_length]
  case c1 => exact h.2.2.2
  case c2 => exact bv_one _
  case b1 => have := HL.out; unfold maxLen; omega
  case b2 => have := HL.out; omega
  case b3 => omega
  case grow =>
    intro A' c' w' ho' hg
    have HO := hid ho'
    have HG := hid hg
    clear ho' hg
    go_wp2
    go_ret
    trace_state
    refine ⟨A', c', by simp, by simpa using HO.out, ?_⟩
    exact app_bel (Below.refl _ _) (World.ownsRow_nil _ _ 5 1) HG.out

/-- How many bytes the packet at the front takes, and the error. -/
def nextF (s : List UInt8) : Nat × Int :=
  if s.length < 4 then (0, 3) else if num4 s < 1 ∨ 33792 < num4 s then (0, 5) else if s.length < 4 + num4 s then (0, 3) else (4 + num4 s, 0)

theorem ret_next {a b : Int} {n : Nat} {e : Int} (h : a = n) (k : b = e) : Ending.returned (.tuple #[.int .i64 a, .int .i64 b]) = .returned (.tuple #[.int .i64 n, .int .i64 e]) := by rw [h, k]

set_option maxHeartbeats 1000000 in
set_option maxRecDepth 100000 in
theorem fnext_any (w : World) (B : Nat) (A : Option Addr) (c : Nat) (s : List UInt8) (hb : Lies w B A (bv s)) (hl : s.length ≤ 1000000) :
    Calls Tryd.prog 31 #[.slice A s.length c] w fun e w' => e = .returned (.tuple #[.int .i64 (nextF s).1, .int .i64 (nextF s).2]) ∧ Quiet w w' := by
  by_cases h4 : s.length < 4
  · have e : nextF s = (0, 3) := by unfold nextF; rw [if_pos h4]
    rw [e]
    clear hb
    go_enter Tryd.func31, Tryd.ntmps31
    go_wp2
    go_ret2
    exact ⟨rfl, Quiet.refl _⟩
  · have h4' : 4 ≤ s.length := by omega
    match s, h4' with
    | a :: b :: x :: d :: r, _ =>
      obtain ⟨bk, o, rfl, hbk, hcells⟩ := hb (by simp [bv])
      have c0 : w.cell? ⟨bk, o, none⟩ = some (.int .u8 a.toNat) := hcells 0 _ rfl
      have c1 : w.cell? ⟨bk, o + 1, none⟩ = some (.int .u8 b.toNat) := hcells 1 _ rfl
      have c2 : w.cell? ⟨bk, o + 2, none⟩ = some (.int .u8 x.toNat) := hcells 2 _ rfl
      have c3 : w.cell? ⟨bk, o + 3, none⟩ = some (.int .u8 d.toNat) := hcells 3 _ rfl
      clear hcells hb
      have h0 := a.toNat_lt
      have h1 := b.toNat_lt
      have h2 := x.toNat_lt
      have h3 := d.toNat_lt
      have hor := or4 a b x d
      obtain ⟨N, HN⟩ : ∃ N : Nat, Hid (num4 (a :: b :: x :: d :: r) = N) := ⟨_, hid rfl⟩
      have hN : a.toNat * 16777216 + b.toNat * 65536 + x.toNat * 256 + d.toNat = N := HN.out
      rw [hN] at hor
      have hNb : N < 4294967296 := by omega
      clear hN
      have hlen : (a :: b :: x :: d :: r).length = r.length + 4 := rfl
      have he : nextF (a :: b :: x :: d :: r) = if N < 1 ∨ 33792 < N then (0, 5) else if r.length + 4 < 4 + N then (0, 3) else (4 + N, 0) := by
        unfold nextF
        rw [HN.out, hlen, if_neg (by omega)]
      have HE := hid he
      clear he
      rw [hlen] at hl ⊢
      have l0 : (0 : Int) < (r.length : Int) + 4 := by omega
      have l1 : (1 : Int) < (r.length : Int) + 4 := by omega
      have l2 : (2 : Int) < (r.length : Int) + 4 := by omega
      have l3 : (3 : Int) < (r.length : Int) + 4 := by omega
      clear h0 h1 h2 h3 HN
      by_cases g1 : N < 1
      · rw [HE.out, if_pos (.inl g1)]
        have hN0 : N = 0 := by omega
        subst hN0
        go_enter Tryd.func31, Tryd.ntmps31
        go_wp2
        go_quiet (fail)
        go_wp2
        go_ret2
        exact ⟨rfl, _, rfl⟩
      · by_cases g2 : 33792 < N
        · rw [HE.out, if_pos (.inr g2)]
          have t1 : ¬ ((N : Int) < 1) := by omega
          have t2 : (33792 : Int) < N := by omega
          go_enter Tryd.func31, Tryd.ntmps31
          go_wp2
          go_quiet (fail)
          go_wp2
          go_ret2
          exact ⟨rfl, _, rfl⟩
        · rw [HE.out, if_neg (by omega)]
          have t1 : ¬ ((N : Int) < 1) := by omega
          have t2 : ¬ ((33792 : Int) < N) := by omega
          by_cases g3 : r.length + 4 < 4 + N
          · rw [if_pos g3]
            have t3 : (r.length : Int) + 4 < 4 + N := by omega
            go_enter Tryd.func31, Tryd.ntmps31
            go_wp2
            go_quiet (fail)
            go_wp2
            go_ret2
            exact ⟨rfl, _, rfl⟩
          · rw [if_neg g3]
            have t3 : ¬ ((r.length : Int) + 4 < 4 + N) := by omega
            go_enter Tryd.func31, Tryd.ntmps31
            go_wp2
            go_quiet (fail)
            go_wp2
            go_ret2
            exact ⟨ret_next (by omega) rfl, _, rfl⟩

theorem zeros_size (n : Nat) : (Builtin.zeroCells (Value.int .u8 0).cells n).size = n := by
  simp [Builtin.zeroCells, Value.cells]

set_option maxHeartbeats 1000000 in
set_option maxRecDepth 100000 in
theorem grow_nil (w : World) (n : Nat) (hn : n ≤ 1000000) :
    Calls Tryd.prog 46 #[.slice none 0 0, .int .i64 n] w fun e w' => ∃ A c, e = .returned (.slice A 0 c) ∧ w'.ownsRow w.heap.size 5 1 (.slice A 0 c) 0 [] ∧ Below w.heap.size w w' := by
  obtain ⟨i0, hi0, hz0, hz1, hz2⟩ := info_parts Tryd.info5
  by_cases h0 : n = 0
  · subst h0
    go_enter Tryd.func46, Tryd.ntmps46
    go_wp2
    go_ret
    exact ⟨none, 0, rfl, World.ownsRow_nil _ _ _ _, Below.refl _ _⟩
  · have hpos : (0 : Int) < n := by omega
    have hneg : ¬ ((n : Int) < 0) := by omega
    have happ := Lib.run_append_nil_zeros (P := Tryd.prog) w 22 3 22 5 i0 (.int .u8 0) .i64 .i64 Tryd.underlying22 Tryd.underlying3 hi0 hz0 n (by omega) (by omega) (by omega) (by rw [hz2]; omega)
    have hgc : (0 : Int) ≤ grownCap w n 0 5 := by omega
    have hge := grownCap_ge w n 0 5
    have hle := grownCap_le_maxLen w n 0 5 (by unfold maxLen; omega)
    obtain ⟨cap, hcap⟩ : ∃ cap, grownCap w n 0 5 = cap := ⟨_, rfl⟩
    rw [hcap] at happ hge hle
    have HC := hid hcap
    clear hcap hgc
    have hgc : (0 : Int) ≤ cap := by omega
    obtain ⟨w1, hw1⟩ : ∃ w1, w.drew.alloc (.cells (Builtin.zeroCells (Value.int .u8 0).cells n ++ Builtin.zeroCells (Value.int .u8 0).cells (cap - n)) 5) = w1 := ⟨_, rfl⟩
    rw [hw1] at happ
    have HW := hid hw1
    have HA := hid happ
    have HLE := hid hle
    clear hw1 happ hle
    go_enter Tryd.func46, Tryd.ntmps46
    go_wp2_with (at_builtin; refine Lib.wpList_append_run _ rfl (.tmp 20) (.tmp 21) 22 3 rfl _ _ rfl rfl _ _ HA.out ?_)
    go_ret
    refine ⟨_, _, rfl, ?_, ?_⟩
    · rw [← HW.out]
      refine ⟨rfl, .inr ⟨w.heap.size, cap, _, rfl, Nat.le_refl _, heap_alloc_new w.drew _, Nat.zero_le _, HLE.out, ?_, rfl⟩⟩
      rw [Array.size_append, zeros_size, zeros_size]
      omega
    · rw [← HW.out]
      exact (bel_drewN (Below.refl _ _) 1).alloc (Nat.le_refl _) _

theorem flat_snoc (ls : List (List UInt8)) (k : Nat) (h : k < ls.length) : (ls.take (k + 1)).flatten = (ls.take k).flatten ++ ls[k] := by
  rw [take_snoc _ _ h, List.flatten_append, List.flatten_cons, List.flatten_nil, List.append_nil]
theorem flat_le (ls : List (List UInt8)) (k : Nat) : (ls.take k).flatten.length ≤ ls.flatten.length := by
  conv => rhs; rw [← List.take_append_drop k ls, List.flatten_append, List.length_append]
  omega

set_option maxHeartbeats 2000000 in
set_option maxRecDepth 100000 in
theorem concat_any (w : World) (B : Nat) (A : Option Addr) (c : Nat) (ls : List (List UInt8)) (hl : LisV w B A ls) (hB : B ≤ w.heap.size) (hn : ls.length ≤ 1000) (ht : ls.flatten.length ≤ 1000000) :
    Calls Tryd.prog 30 #[.slice A ls.length c] w fun e w' => ∃ A' c', e = .returned (.slice A' ls.flatten.length c') ∧ w'.ownsRow w.heap.size 5 1 (.slice A' ls.flatten.length c') ls.flatten.length (bv ls.flatten) ∧ Below w.heap.size w w' := by
  obtain ⟨i0, hi0, hz0, hz1, hz2⟩ := info_parts Tryd.info5
  have HL := hid hl
  clear hl
  have HF : Hid (∀ k, (ls.take k).flatten.length ≤ ls.flatten.length) := flat_le ls
  obtain ⟨T, HT⟩ : ∃ T, Hid (ls.flatten.length = T) := ⟨_, hid rfl⟩
  rw [HT.out] at ht HF ⊢
  go_enter Tryd.func30, Tryd.ntmps30
  go_wp2
  go_loop [11, 3] (fun i s => ∃ k : Nat, k ≤ ls.length ∧ i = .int .i64 k ∧ s = .int .i64 (ls.take k).flatten.length) (fun i _ => ls.length - (intOf i).toNat)
  case atStart => exact ⟨0, Nat.zero_le _, rfl, rfl⟩
  case round =>
    obtain ⟨k, hk, rfl, rfl⟩ := hrel
    by_cases hlt : k < ls.length
    · obtain ⟨b, o, rfl, hbw, hcells⟩ := HL.out (by intro e; rw [e] at hlt; simp at hlt)
      obtain ⟨A', c', hc, hs⟩ := hcells k hlt
      have HS := hid (flat_snoc ls k hlt)
      have hF1 := HF.out (k + 1)
      have hle : (ls.take (k + 1)).flatten.length = (ls.take k).flatten.length + ls[k].length := by rw [HS.out, List.length_append]
      rw [hle] at hF1
      obtain ⟨x, Hx⟩ : ∃ x, Hid ((ls.take k).flatten.length = x) := ⟨_, hid rfl⟩
      obtain ⟨y, Hy⟩ : ∃ y, Hid (ls[k].length = y) := ⟨_, hid rfl⟩
      obtain ⟨z, Hz⟩ : ∃ z, Hid ((ls.take (k + 1)).flatten.length = z) := ⟨_, hid rfl⟩
      rw [Hz.out, Hx.out, Hy.out] at hle
      rw [Hx.out, Hy.out] at hF1
      rw [Hy.out] at hc
      rw [Hx.out]
      have hneg : ¬ ((x : Int) + y < 0) := by omega
      clear hcells hs
      go_wp2
      go_roundw
      case rel => exact ⟨k + 1, by omega, by go_num, by rw [Hz.out, hle]; go_num⟩
      case measure => simp [intOf]; omega
    · have hd : ls.take k = ls := List.take_of_length_le (by omega)
      rw [hd, HT.out]
      go_wp2_with (first
        | (go_at_call 46
           ((with_reducible refine (grow_nil _ T ht).mono ?_); rintro e w1 ⟨A1, c1, rfl, ho1, hb1⟩)
           have HO1 := hid ho1
           have HB1 := hid hb1
           have hz1w : w.heap.size ≤ w1.heap.size := hb1.size
           clear ho1 hb1))
      go_loopw [27, 6] (fun i s W2 => ∃ (k m : Nat) (A' : Option Addr) (c' : Nat), k ≤ ls.length ∧ i = .int .i64 k ∧ s = .slice A' m c' ∧ Hid ((ls.take k).flatten.length = m) ∧ W2.ownsRow w.heap.size 5 1 (.slice A' m c') m (bv (ls.take k).flatten) ∧ Below w.heap.size w W2) (fun i _ _ => ls.length - (intOf i).toNat)
      case atStart => exact ⟨0, 0, A1, c1, Nat.zero_le _, rfl, rfl, rfl, HO1.out, HB1.out⟩
      case round =>
        obtain ⟨k2, m, A', c', hk2, rfl, rfl, Hm, hro, hbw⟩ := hrel
        have HRO := hid hro
        have HBW := hid hbw
        have hszr : w.heap.size ≤ wr.heap.size := hbw.size
        clear hro hbw
        by_cases hlt2 : k2 < ls.length
        · obtain ⟨b, o, rfl, hbB, hcells⟩ := HL.out (by intro e; rw [e] at hlt2; simp at hlt2)
          obtain ⟨A2, c2, hc, hs⟩ := hcells k2 hlt2
          have hcc := (HBW.out.cell (p := ⟨b, o + k2, none⟩) (by show b < _; omega)).trans hc
          have HS2 := hid ((hs.more hB).below HBW.out)
          have HS := hid (flat_snoc ls k2 hlt2)
          have hF1 := HF.out (k2 + 1)
          have hle : (ls.take (k2 + 1)).flatten.length = (ls.take k2).flatten.length + ls[k2].length := by rw [HS.out, List.length_append]
          rw [hle, Hm.out] at hF1
          rw [Hm.out] at hle
          have HLE := hid hle
          obtain ⟨p, Hp⟩ : ∃ p, Hid (ls[k2] = p) := ⟨_, hid rfl⟩
          rw [Hp.out] at hcc hF1 HS2 HLE HS
          clear hcells hs hc hle
          go_wp2_with (at_builtin; refine wpList_app _ rfl (.tmp 31) (.tmp 32) 22 rfl w.heap.size 5 i0 _ 1 1 Tryd.underlying22 hi0 hz0 hz1 hz2 rfl (by omega) A' m c' (bv (ls.take k2).flatten) rfl HRO.out w.heap.size A2 p.length c2 (bv p) rfl ?c0 ?c1 ?c2 ?b1 ?b2 ?b3 ?grow)
          case c0 => simp [bv_length]
          case c1 => exact HS2.out.2.2.2
          case c2 => exact bv_one _
          case b1 => unfold maxLen; omega
          case b2 => omega
          case b3 => omega
          case grow =>
            intro A3 c3 w3 ho3 hg3
            have HO3 := hid ho3
            have HB3 := hid (app_bel HBW.out HRO.out hg3)
            clear ho3 hg3
            go_wp2
            go_roundw
            case rel =>
              refine ⟨k2 + 1, m + p.length, A3, c3, by omega, by go_num, rfl, HLE.out, ?_, HB3.out⟩
              rw [HS.out, bv_append]
              exact HO3.out
            case measure => simp [intOf]; omega
        · have hd2 : ls.take k2 = ls := List.take_of_length_le (by omega)
          rw [hd2] at HRO Hm
          have hmT : m = T := Hm.out.symm.trans HT.out
          subst hmT
          go_wp2
          go_ret
          exact ⟨A', c', rfl, HRO.out, HBW.out⟩

end Go.Proofs.YtdplngplljejhaaDoor
