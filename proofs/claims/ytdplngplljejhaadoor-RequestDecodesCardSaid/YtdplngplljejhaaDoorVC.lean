import Derived.Test.YtdplngplljejhaaDoorQO
import Derived.Test.YtdplngplljejhaaDoorUE
import Derived.Test.YtdplngplljejhaaDoorTA
import Derived.Test.YtdplngplljejhaaDoorZF
import Derived.Deep.WholeRow
import Derived.Deep.DrawnRows
import Derived.BigQuiet
namespace Go.Proofs.YtdplngplljejhaaDoor
open Go.RowKit

structure Turn (g : Nat) (w w' : World) : Prop where
  os : w'.os = w.os
  tape : w'.tape = w.tape
  output : w'.output = w.output
  size : w'.heap.size = w.heap.size
  block : ∀ b, b ≠ g → w'.heap[b]? = w.heap[b]?
theorem Turn.setRow (w : World) (g : Nat) (cs : Array Value) : Turn g w (w.setRow g cs) := ⟨rfl, rfl, rfl, size_setRow w g cs, fun b hb => setRow_other w g b cs hb⟩
theorem Turn.setCell (w : World) (g i : Nat) (v : Value) : Turn g w (w.setCell ⟨g, i, none⟩ v) := ⟨rfl, rfl, rfl, World.size_setCell .., fun b hb => heap_setCell_other w ⟨g, i, none⟩ b v hb⟩
theorem Turn.below {g B : Nat} {w w' : World} (h : Turn g w w') (hB : B ≤ g) : Below B w w' := ⟨h.os, h.tape, h.output, Nat.le_of_eq h.size.symm, fun b hb => h.block b (by omega)⟩
theorem Turn.box {g b : Nat} {w w' : World} {t : TypeId} {cs : Array Value} (h : Turn g w w') (hx : Box w b t cs) (hne : b ≠ g) : Box w' b t cs := hx.same (h.block b hne)
theorem Turn.drew {g : Nat} {w w' : World} (h : Turn g w w') : Turn g w w'.drew := ⟨h.os, h.tape, h.output, h.size, h.block⟩
theorem Turn.drew0 {g : Nat} {w w' : World} (h : Turn g w.drew w') : Turn g w w' := ⟨h.os, h.tape, h.output, h.size, h.block⟩

theorem Tryd.size28 : (Tryd.prog.info? 28).map (·.size) = some 11 := by kernel_rfl
section
variable {ops : Array Oper} {rest : List Oper} {o : Oper} {a : Act} {w : World} {Q : Exit → Act → World → Prop}
/-- A whole request is loaded. -/
theorem ld28 (hw : Region.wanted o (yielded ops a.tmps) = true) (x : Operand) (ho : o.op = .load 28 x) (g : Nat) (hx : a.eval x = .pointer (some ⟨g, 0, none⟩)) (cs : Array Value) (hb : Box w g 28 cs) (hs : cs.size = 11)
    (h : wpList Tryd.prog ops Q rest (a.put o.dst (.agg cs)) w) : wpList Tryd.prog ops Q (o :: rest) a w :=
  BigFrame.wpList_want hw fun _ hK => wp_load_row 28 x ho g hx 28 cs (0, 0) _ hb Tryd.underlying28 rfl (by rw [hs]; exact Tryd.size28) (hK _ _ h)
/-- A whole request is stored. -/
theorem st28 (hw : Region.wanted o (yielded ops a.tmps) = true) (x y : Operand) (ho : o.op = .store 28 x y) (g : Nat) (hx : a.eval x = .pointer (some ⟨g, 0, none⟩)) (ds : Array Value) (hd : ds.size = 11) (h1 : ds.all (·.oneCell') = true) (hy : a.eval y = .agg ds) (cs : Array Value) (hb : Box w g 28 cs) (hs : cs.size = 11)
    (h : ∀ w', Hid (Box w' g 28 ds) → Hid (Turn g w w') → wpList Tryd.prog ops Q rest (a.put o.dst undef) w') : wpList Tryd.prog ops Q (o :: rest) a w :=
  BigFrame.wpList_want hw fun _ hK => wp_store_row 28 x y ho g ds hx hy 28 cs hb (by rw [hd]; exact Tryd.size28) (by rw [hs, hd]) h1 (hK _ _ (h _ (hid (setRow_heap w g cs _ 28 _ hb)) (hid (Turn.setRow w g _))))
end
theorem results28 {fn : Func} {p q : Tmp} (h : fn.results = #[.cell p 28, .tmp q]) (tmps : Array Value) (w : World) (g : Nat) (cs : Array Value) (hs : cs.size = 11)
    (hp : tmps.getD p undef = .pointer (some ⟨g, 0, none⟩)) (v : Value) (hq : tmps.getD q undef = v) (hb : Box w g 28 cs) : (results fn tmps).run Tryd.prog w = .ok (.tuple #[.agg cs, v]) w := by
  have hl := run_loadVar_row (P := Tryd.prog) w g 28 28 cs (0, 0) _ hb Tryd.underlying28 rfl (by rw [hs]; exact Tryd.size28)
  unfold results
  rw [h]
  simp only [Array.mapM_eq_mapM_toList, List.mapM_cons, List.mapM_nil, hp, hq, asAddr]
  simp [hl]
theorem cells_size (r : Rq) (A : Option Addr) (c : Nat) : (r.cells A c).size = 11 := rfl
theorem cells_one (r : Rq) (A : Option Addr) (c : Nat) : (r.cells A c).all (·.oneCell') = true := by
  simp [Rq.cells, Value.oneCell']
/-- The kind that a name says; the last row that has it. -/
def kat (nm : ByteArray) : List Rw → Int → Int
  | [], z => z
  | a :: r, z => kat nm r (if a.name = nm then a.kind else z)
theorem kat_snoc (nm : ByteArray) (a : Rw) : ∀ (l : List Rw) (z : Int), kat nm (l ++ [a]) z = if a.name = nm then a.kind else kat nm l z
  | [], _ => rfl
  | b :: l, z => by
    show kat nm (l ++ [a]) _ = _
    rw [kat_snoc nm a l]
    rfl
theorem kat_none {nm : ByteArray} : ∀ {l : List Rw} (z : Int), rowN nm l = none → kat nm l z = z
  | [], _, _ => rfl
  | a :: l, z, h => by
    simp only [rowN] at h
    split at h
    · cases h
    · rename_i q
      show kat nm l (if a.name = nm then a.kind else z) = z
      rw [if_neg q]
      exact kat_none z h
theorem rowN_name {nm : ByteArray} {x : Rw} : ∀ {l : List Rw}, rowN nm l = some x → x.name = nm
  | [], h => by cases h
  | a :: l, h => by
    simp only [rowN] at h
    split at h
    · rename_i q
      injection h with h
      rw [← h, q]
    · exact rowN_name h
theorem kat_some {nm : ByteArray} {x : Rw} (h : rowN nm Rw.all = some x) : kat nm Rw.all 0 = x.kind := by
  have e := rowN_name h
  clear h
  subst e
  cases x <;> first | rfl | decide | kernel_rfl
theorem kat_step (nm : ByteArray) (k : Nat) (h : k < 10) : kat nm (Rw.all.take (k + 1)) 0 = if (Rw.all[k]'(by exact h)).name = nm then (Rw.all[k]'(by exact h)).kind else kat nm (Rw.all.take k) 0 := by
  have e : Rw.all.take (k + 1) = Rw.all.take k ++ [Rw.all[k]'(by exact h)] := by
    rw [List.take_add_one, List.getElem?_eq_getElem (by exact h)]
    rfl
  rw [e, kat_snoc]
theorem kind_at (k : Nat) (h : k < 10) : (Rw.all[k]'(by exact h)).kind = ((k + 1 : Nat) : Int) := by
  rcases (by omega : k = 0 ∨ k = 1 ∨ k = 2 ∨ k = 3 ∨ k = 4 ∨ k = 5 ∨ k = 6 ∨ k = 7 ∨ k = 8 ∨ k = 9) with rfl | rfl | rfl | rfl | rfl | rfl | rfl | rfl | rfl | rfl <;> rfl
theorem qname_x (x : Rw) (w : World) : Calls Tryd.prog 23 #[.int .i64 x.kind] w fun e w' => e = .returned (.tuple #[.string x.name, .bool true]) ∧ w' = w := by
  refine (qname_any x w).mono ?_
  rintro e w' ⟨h1, h2⟩
  exact ⟨h1, h2.symm⟩

/-- A request of which only the kind was set. -/
def kz (z : Int) : Array Value := #[.int .i64 z, .string ⟨#[]⟩, .string ⟨#[]⟩, .string ⟨#[]⟩, .int .u32 0, .int .u32 0, .int .u32 0, .int .u32 0, .slice none 0 0, .bool false, .int .u32 0]
theorem kz_one (z : Int) : (kz z).all (·.oneCell') = true := by simp [kz, Value.oneCell']
/-- What its fields are. -/
def zfs (k : Rw) : List Fd := (k.put ({ zeroR with kind := k.kind } : Rq) .zero).fs
theorem zfs_kinds (k : Rw) : (zfs k).map Fd.kind = k.kinds := put_kinds_any k _
theorem qfields_z (k : Rw) (w : World) : Calls Tryd.prog 24 #[.agg (kz k.kind)] w fun e w' => ∃ A' c' L, e = .returned (.slice A' L c') ∧ Hid ((zfs k).length = L) ∧ Hid (FdsV w' w'.heap.size A' (zfs k)) ∧ Hid (Below w.heap.size w w') := by
  have hb := kind_bd k
  have z0 : (0 : Nat) < 4294967296 := by decide
  refine (qfields_any k ({ zeroR with kind := k.kind } : Rq) none 0 0 k.kind w.heap.size w rfl rfl ⟨by constructor <;> (show _ ≤ _) <;> dsimp only <;> omega, Nat.zero_le _, Nat.zero_le _, Nat.zero_le _, z0, z0, z0, z0, z0⟩ (Nat.zero_le _) (Nat.zero_le _) (Nat.zero_le _) (hid (TK.nil_ _ _)) (Nat.le_refl _)).mono ?_
  rintro e w' ⟨A', c', h1, h2, h3⟩
  exact ⟨A', c', _, h1, hid rfl, h2, h3⟩
structure FkQ (u wr : World) (fs : List Fd) (j : Nat) (A' : Option Addr) (c' : Nat) : Prop where
  bel : Below u.heap.size u wr
  own : wr.ownsRow u.heap.size 3 1 (.slice A' j c') j ((fs.take j).map (fun f => Value.int .i64 f.kind))
theorem FkQ.step {w wr w6 : World} {fs : List Fd} {j : Nat} {A' A6 : Option Addr} {c' c6 : Nat} {f : Fd} {o1 o2 : Obj} (h : FkQ w wr fs j A' c') (hj : j < fs.length) (hf : fs[j] = f)
    (ho : w6.ownsRow w.heap.size 3 1 (.slice A6 (j + 1) c6) (j + 1) ((fs.take j).map (fun f => Value.int .i64 f.kind) ++ [.int .i64 f.kind])) (hg : ((wr.alloc o1).alloc o2).grownBy w6 (Value.slice A' j c').ownBlock) :
    FkQ w w6 fs (j + 1) A6 c6 := by
  have k1 : Kept w.heap.size [3] wr ((wr.alloc o1).alloc o2) := ((Kept.refl _ _ _).alloc _).alloc _
  have hown1 : ((wr.alloc o1).alloc o2).ownsRow w.heap.size 3 1 (.slice A' j c') j ((fs.take j).map (fun f => Value.int .i64 f.kind)) := (h.own.alloc _).alloc _
  have k2 : Kept w.heap.size [3] wr w6 := k1.trans ((Kept.refl _ _ _).grown hg (fun k hk => by obtain ⟨a, cs, b⟩ := own_box hown1 k hk; exact ⟨a, 3, cs, by simp, b⟩))
  refine ⟨h.bel.trans (k2.below h.bel.size), ?_⟩
  have e : (fs.take (j + 1)).map (fun f => Value.int .i64 f.kind) = (fs.take j).map (fun f => Value.int .i64 f.kind) ++ [.int .i64 f.kind] := by
    rw [take_snoc fs j hj, hf]; simp
  rw [e]
  exact ho
theorem rread_x (w : World) (kA : Option Addr) (kc m n : Nat) (ks : List Int) (A : Option Addr) (c : Nat) (bs : List UInt8) (er : Int) (fs : List Fd)
    (hk : Hid (Lies w w.heap.size kA (ks.map (Value.int .i64)))) (hm : Hid (ks.length = m)) (hkl : m ≤ 1000) (hb : Hid (SlB w w.heap.size A c bs)) (hn : bs.length = n) (hbl : n ≤ 100000) (hR : Hid (readF ks bs = (er, fs))) :
    Calls Tryd.prog 25 #[.slice kA m kc, .slice A n c] w fun e w' => ∃ A5 c5 cs L5, e = .returned (.tuple #[.slice A5 L5 c5, .int .i64 er]) ∧ Hid (fs.length = L5) ∧ Hid (w'.ownsRow w.heap.size 80 4 (.slice A5 fs.length c5) fs.length cs) ∧ Hid (FlatF w' w.heap.size fs cs) ∧ Hid (Below w.heap.size w w') := by
  obtain rfl := hm.out
  subst hn
  refine (rread_any w kA kc ks A c bs hk.out hkl hb.out hbl).mono ?_
  rw [hR.out]
  rintro e w' ⟨A5, c5, cs, h1, h2, h3, h4⟩
  exact ⟨A5, c5, cs, _, h1, hid rfl, hid h2, hid h3, hid h4⟩
set_option maxRecDepth 100000 in
set_option maxHeartbeats 8000000 in
theorem rdec_none (w : World) (nm : ByteArray) (A : Option Addr) (c n : Nat) (hX : Hid (rowN nm Rw.all = none)) :
    Calls Tryd.prog 7 #[.string nm, .slice A n c] w (DecodeQ w (8, zeroR)) := by
  have HK := hid (kat_none 0 hX.out)
  have B4 : Hid (Box ((w.alloc (.cells (kz 0) 28)).alloc (.cells (kz 0) 28)) w.heap.size 28 (kz 0)) := hid (box_below (Box.new w 28 _) ((Below.refl _ _).alloc (Nat.le_refl _) _))
  have B6 : Hid (Box ((w.alloc (.cells (kz 0) 28)).alloc (.cells (kz 0) 28)) (w.heap.size + 1) 28 (kz 0)) := hid (by have h := Box.new (w.alloc (.cells (kz 0) 28)) 28 (kz 0); rwa [World.size_alloc] at h)
  have K0 : Hid (Below w.heap.size w ((w.alloc (.cells (kz 0) 28)).alloc (.cells (kz 0) 28))) := hid (((Below.refl _ w).alloc (Nat.le_refl _) _).alloc (by simp) _)
  go_enter Tryd.func7, Tryd.ntmps7
  go_wp2_with (first
    | (refine st28 (by rfl) _ _ (by rfl) (w.heap.size + 1) (by rfl) (kz 0) rfl (kz_one 0) (by rfl) (kz 0) B6.out rfl ?_
       intro u1 X1 t1
       have Y1 := hid (t1.out.box B4.out (by omega))
       have K1 := hid (K0.out.trans (t1.out.below (by omega)))
       clear B4 B6 K0 t1))
  go_loopw [7] (fun i wr => ∃ (j : Nat) (K : Int), j ≤ 10 ∧ i = .int .i64 ((j + 1 : Nat) : Int) ∧ Hid (kat nm (Rw.all.take j) 0 = K) ∧ Hid (Box wr (w.heap.size + 1) 28 (kz K)) ∧ Hid (Box wr w.heap.size 28 (kz 0)) ∧ Hid (Below w.heap.size w wr)) (fun i _ => 12 - (intOf i).toNat)
  case atStart => exact ⟨0, 0, by omega, rfl, hid rfl, X1, Y1, K1⟩
  case round =>
    clear X1 Y1 K1 u1
    obtain ⟨j, K, hj, rfl, HKA, X2, Y2, K2⟩ := hrel
    by_cases hlt : j < 10
    · have hst := kat_step nm j hlt
      have hkd := kind_at j hlt
      generalize (Rw.all[j]'(by exact hlt)) = x at hst hkd
      rw [← hkd]
      have hle : x.kind ≤ 10 := by omega
      have hge : 1 ≤ x.kind := by omega
      have HS := hid hst
      have HKD := hid hkd
      clear hst hkd
      have c0 : wr.cell? ⟨w.heap.size + 1, 0, none⟩ = some (.int .i64 K) := X2.out.cell 0
      have f0 : wr.frozen? ⟨w.heap.size + 1, 0, none⟩ = false := X2.out.frozen 0
      by_cases he : x.name = nm
      · have he2 := toL_eq he
        have HS2 : Hid (kat nm (Rw.all.take (j + 1)) 0 = x.kind) := hid (by rw [HS.out, if_pos he])
        clear he
        go_wp2_with (
          go_at_call 23
          (with_reducible refine (qname_x x _).mono ?_)
          rintro e w' ⟨rfl, rfl⟩)
        go_roundw
        case rel => exact ⟨j + 1, x.kind, by omega, by (have h := HKD.out; rw [h]; go_num), HS2, hid (X2.out.store 0 _), hid ((Turn.setCell _ _ 0 _).box Y2.out (by omega)), hid (K2.out.trans ((Turn.setCell _ _ 0 _).below (by omega)))⟩
        case measure => (have h := HKD.out; rw [h]; simp only [intOf]; omega)
      · have hne := toL_ne he
        have HS2 : Hid (kat nm (Rw.all.take (j + 1)) 0 = K) := hid (by rw [HS.out, if_neg he]; exact HKA.out)
        clear he
        go_wp2_with (
          go_at_call 23
          (with_reducible refine (qname_x x _).mono ?_)
          rintro e w' ⟨rfl, rfl⟩)
        go_roundw
        case rel => exact ⟨j + 1, K, by omega, by (have h := HKD.out; rw [h]; go_num), HS2, X2, Y2, K2⟩
        case measure => (have h := HKD.out; rw [h]; simp only [intOf]; omega)
    · obtain rfl : j = 10 := by omega
      obtain rfl : K = 0 := HKA.out.symm.trans HK.out
      rw [show ((10 + 1 : Nat) : Int) = 11 from rfl]
      have c0 : wr.cell? ⟨w.heap.size + 1, 0, none⟩ = some (.int .i64 0) := X2.out.cell 0
      clear hlt hj HKA HK
      go_wp2_with (
        refine st28 (by rfl) _ _ (by rfl) w.heap.size (by rfl) (kz 0) rfl (kz_one 0) (by rfl) (kz 0) Y2.out rfl ?_
        intro u6 Y6 t6
        have K6 := hid (K2.out.trans (t6.out.below (Nat.le_refl _)))
        clear t6)
      refine bodyPost_ret (results28 rfl _ _ _ (kz 0) rfl rfl _ rfl Y6.out) rfl ?_
      exact decodeQ_err w _ 8 K6.out
set_option maxRecDepth 100000 in
set_option maxHeartbeats 8000000 in
theorem rdec_err (k : Rw) (w : World) (nm : ByteArray) (A : Option Addr) (c n : Nat) (bs : List UInt8) (er : Int) (fs : List Fd) (hb : Hid (SlB w w.heap.size A c bs)) (hn : bs.length = n) (hbl : n ≤ 100000) (hX : Hid (rowN nm Rw.all = some k)) (hR : Hid (readF k.kinds bs = (er, fs))) (he : er ≠ 0) :
    Calls Tryd.prog 7 #[.string nm, .slice A n c] w (DecodeQ w (er, zeroR)) := by
  have HK := hid (kat_some hX.out)
  have hkb := kind_bd k
  have B4 : Hid (Box ((w.alloc (.cells (kz 0) 28)).alloc (.cells (kz 0) 28)) w.heap.size 28 (kz 0)) := hid (box_below (Box.new w 28 _) ((Below.refl _ _).alloc (Nat.le_refl _) _))
  have B6 : Hid (Box ((w.alloc (.cells (kz 0) 28)).alloc (.cells (kz 0) 28)) (w.heap.size + 1) 28 (kz 0)) := hid (by have h := Box.new (w.alloc (.cells (kz 0) 28)) 28 (kz 0); rwa [World.size_alloc] at h)
  have K0 : Hid (Below w.heap.size w ((w.alloc (.cells (kz 0) 28)).alloc (.cells (kz 0) 28))) := hid (((Below.refl _ w).alloc (Nat.le_refl _) _).alloc (by simp) _)
  go_enter Tryd.func7, Tryd.ntmps7
  go_wp2_with (first
    | (refine st28 (by rfl) _ _ (by rfl) (w.heap.size + 1) (by rfl) (kz 0) rfl (kz_one 0) (by rfl) (kz 0) B6.out rfl ?_
       intro u1 X1 t1
       have Y1 := hid (t1.out.box B4.out (by omega))
       have K1 := hid (K0.out.trans (t1.out.below (by omega)))
       clear B4 B6 K0 t1))
  go_loopw [7] (fun i wr => ∃ (j : Nat) (K : Int), j ≤ 10 ∧ i = .int .i64 ((j + 1 : Nat) : Int) ∧ Hid (kat nm (Rw.all.take j) 0 = K) ∧ Hid (Box wr (w.heap.size + 1) 28 (kz K)) ∧ Hid (Box wr w.heap.size 28 (kz 0)) ∧ Hid (Below w.heap.size w wr)) (fun i _ => 12 - (intOf i).toNat)
  case atStart => exact ⟨0, 0, by omega, rfl, hid rfl, X1, Y1, K1⟩
  case round =>
    clear X1 Y1 K1 u1
    obtain ⟨j, K, hj, rfl, HKA, X2, Y2, K2⟩ := hrel
    by_cases hlt : j < 10
    · have hst := kat_step nm j hlt
      have hkd := kind_at j hlt
      generalize (Rw.all[j]'(by exact hlt)) = x at hst hkd
      rw [← hkd]
      have hle : x.kind ≤ 10 := by omega
      have hge : 1 ≤ x.kind := by omega
      have HS := hid hst
      have HKD := hid hkd
      clear hst hkd
      have c0 : wr.cell? ⟨w.heap.size + 1, 0, none⟩ = some (.int .i64 K) := X2.out.cell 0
      have f0 : wr.frozen? ⟨w.heap.size + 1, 0, none⟩ = false := X2.out.frozen 0
      by_cases he : x.name = nm
      · have he2 := toL_eq he
        have HS2 : Hid (kat nm (Rw.all.take (j + 1)) 0 = x.kind) := hid (by rw [HS.out, if_pos he])
        clear he
        go_wp2_with (
          go_at_call 23
          (with_reducible refine (qname_x x _).mono ?_)
          rintro e w' ⟨rfl, rfl⟩)
        go_roundw
        case rel => exact ⟨j + 1, x.kind, by omega, by (have h := HKD.out; rw [h]; go_num), HS2, hid (X2.out.store 0 _), hid ((Turn.setCell _ _ 0 _).box Y2.out (by omega)), hid (K2.out.trans ((Turn.setCell _ _ 0 _).below (by omega)))⟩
        case measure => (have h := HKD.out; rw [h]; simp only [intOf]; omega)
      · have hne := toL_ne he
        have HS2 : Hid (kat nm (Rw.all.take (j + 1)) 0 = K) := hid (by rw [HS.out, if_neg he]; exact HKA.out)
        clear he
        go_wp2_with (
          go_at_call 23
          (with_reducible refine (qname_x x _).mono ?_)
          rintro e w' ⟨rfl, rfl⟩)
        go_roundw
        case rel => exact ⟨j + 1, K, by omega, by (have h := HKD.out; rw [h]; go_num), HS2, X2, Y2, K2⟩
        case measure => (have h := HKD.out; rw [h]; simp only [intOf]; omega)
    · obtain rfl : j = 10 := by omega
      obtain rfl : K = k.kind := HKA.out.symm.trans HK.out
      rw [show ((10 + 1 : Nat) : Int) = 11 from rfl]
      have hk0 : (k.kind == 0) = false := by simp; omega
      have c0 : wr.cell? ⟨w.heap.size + 1, 0, none⟩ = some (.int .i64 k.kind) := X2.out.cell 0
      clear hlt hj HKA HK
      go_wp2_with (first
        | (refine ld28 (by rfl) _ (by rfl) (w.heap.size + 1) (by rfl) (kz k.kind) X2.out rfl ?_)
        | (go_at_call 24
           (with_reducible refine (qfields_z k _).mono ?_)
           rintro e u3 ⟨A3, c3, L, rfl, hL, F3, k3⟩
           have X3 := hid (box_below X2.out k3.out)
           have Y3 := hid (box_below Y2.out k3.out)
           have K3 := hid (K2.out.trans (k3.out.mono K2.out.size))
           clear k3 X2 Y2 K2 c0))
      obtain ⟨i3, hi3, hz3, hz31, hz32⟩ := info_parts Tryd.info3r
      have HZK := hid (zfs_kinds k)
      have hL6 : L ≤ 6 := by have h1 := kinds_len k; have h2 := hL.out; rw [← HZK.out, List.length_map] at h1; omega
      generalize zfs k = fs0 at F3 hL HZK
      have I0 : Hid (FkQ u3 u3 fs0 0 none 0) := hid ⟨Below.refl _ _, ⟨rfl, .inl ⟨rfl, rfl⟩⟩⟩
      go_loopw [38, 10] (fun i v wr => ∃ (j : Nat) (A' : Option Addr) (c' : Nat), j ≤ L ∧ i = .int .i64 j ∧ v = .slice A' j c' ∧ Hid (FkQ u3 wr fs0 j A' c')) (fun i _ _ => L - (intOf i).toNat)
      case atStart => exact ⟨0, none, 0, by omega, rfl, rfl, I0⟩
      case round =>
        clear I0
        obtain ⟨j, A', c', hj, rfl, rfl, HR⟩ := hrel
        by_cases hlt : j < L
        · have hjf : j < fs0.length := by have := hL.out; omega
          obtain ⟨fb, fo, rfl, hfb, hfc⟩ := (F3.out.below HR.out.bel) (by intro e; rw [e] at hjf; simp at hjf)
          obtain ⟨tA, tc, lA, lc, _, d0, d1, d2, d3⟩ := hfc j hjf
          clear hfc
          obtain ⟨f, HFJ⟩ : ∃ f, Hid (fs0[j] = f) := ⟨_, hid rfl⟩
          rw [HFJ.out] at d0 d1 d2 d3
          have hj0 : (j : Int) < (L : Int) := by omega
          obtain ⟨tl, HTL⟩ : ∃ tl, Hid (f.text.length = tl) := ⟨_, hid rfl⟩
          obtain ⟨ll, HLL⟩ : ∃ ll, Hid (f.list.length = ll) := ⟨_, hid rfl⟩
          rw [HTL.out] at d2
          rw [HLL.out] at d3
          go_wp2_with (
            at_builtin
            refine wpList_app _ rfl (.tmp 42) (.tmp 45) 66 rfl u3.heap.size 3 i3 _ 1 8 Tryd.underlying66 hi3 hz3 hz31 hz32 rfl ?g1 A' j c' ((fs0.take j).map (fun f => Value.int .i64 f.kind)) rfl ((HR.out.own.alloc _).alloc _) _ _ 1 1 [.int .i64 f.kind] rfl ?g2 (lies_lit_at _ _ _ _ (by simp)) (one1r _) ?g3 ?g4 ?g5 ?_
            case g1 => omega
            case g2 => rfl
            case g3 => unfold maxLen; omega
            case g4 => omega
            case g5 => have := HR.out.bel.size; simp; omega
            intro A6 c6 w6 ho6 hg6
            have HFIN := hid (FkQ.step HR.out hjf HFJ.out ho6 hg6)
            clear ho6 hg6)
          go_roundw
          case rel => exact ⟨j + 1, A6, c6, by omega, by go_num, rfl, HFIN⟩
          case measure => simp [intOf]; omega
        · obtain rfl : j = L := by omega
          have hown := HR.out.own
          have hto : (fs0.take j).map (fun f => Value.int .i64 f.kind) = k.kinds.map (Value.int .i64) := by
            rw [List.take_of_length_le (by rw [hL.out]; omega), ← HZK.out, List.map_map]; rfl
          rw [hto] at hown
          have HLI := hid (Lies.own hown)
          have HKL : Hid (k.kinds.length = j) := hid (by rw [← HZK.out, List.length_map]; exact hL.out)
          have X4 := hid (box_below X3.out HR.out.bel)
          have Y4 := hid (box_below Y3.out HR.out.bel)
          have K4 := hid (K3.out.trans (HR.out.bel.mono K3.out.size))
          have S4 := slb_at hb K4
          clear hown hto X3 Y3 K3 hlt hj hL HZK F3 HR
          have her1 : (er == 0) = false := by simpa using he
          have her2 : (er != 0) = true := by simp [bne, her1]
          go_wp2_with (first
            | (go_at_call 25
               (with_reducible refine (rread_x _ A' c' j n k.kinds A c bs er fs HLI HKL (by omega) S4 hn hbl hR).mono ?_)
               rintro e u5 ⟨A5, c5, cs5, L5, rfl, hL5, ho5, hf5, k5⟩
               have Y5 := hid (box_below Y4.out k5.out)
               have K5 := hid (K4.out.trans (k5.out.mono K4.out.size))
               clear k5 X4 Y4 K4 S4)
            | (refine st28 (by rfl) _ _ (by rfl) w.heap.size (by rfl) (kz 0) rfl (kz_one 0) (by rfl) (kz 0) Y5.out rfl ?_
               intro u6 Y6 t6
               have K6 := hid (K5.out.trans (t6.out.below (Nat.le_refl _)))
               clear t6))
          refine bodyPost_ret (results28 rfl _ _ _ (kz 0) rfl rfl _ rfl Y6.out) rfl ?_
          exact decodeQ_err w _ er K6.out

theorem kz_kind {u : World} {g : Nat} {k : Rw} {kd : Int} (X : Hid (Box u g 28 (kz k.kind))) (e : k.kind = kd) : Hid (Box u g 28 (kz kd)) := by
  rw [← e]
  exact X
theorem fault_x (k : Rw) (r : Rq) (A : Option Addr) (c : Nat) (w : World) (fl : Int) (hk : Hid (r.kind = k.kind)) (hr : Hid r.Ok) (hm : r.modes.length ≤ maxLen) (hf : Hid ((k.put r .zero).fault = fl)) : Calls Tryd.prog 26 #[.agg (r.cells A c)] w fun e w' => e = .returned (.int .i64 fl) ∧ Hid (Below w.heap.size w w') := by
  refine (qfault_any k r A c r.modes.length r.kind w hk.out rfl hr.out.text hr.out.value hr.out.lang hm).mono ?_
  rintro e w' ⟨h1, h2⟩
  rw [hf.out] at h1
  exact ⟨h1, hid h2⟩
theorem one_of {fs : List Fd} {a : Int} (h : fs.map Fd.kind = [a]) : ∃ f, fs = [f] ∧ f.kind = a := by
  match fs, h with
  | [f], h => exact ⟨f, rfl, by simpa using h⟩
/-- What a call of Decode tells: the request, or the fault. -/
def DecF (w : World) (r : Rq) (fl : Int) (e : Ending) (w' : World) : Prop := DecodeQ w (if fl = 0 then (0, r) else (fl, zeroR)) e w'
theorem decF_bad {w w' : World} {r : Rq} {fl : Int} (h : fl ≠ 0) (hb : Hid (Below w.heap.size w w')) : DecF w r fl (.returned (.tuple #[.agg (kz 0), .int .i64 fl])) w' := by
  unfold DecF
  rw [if_neg h]
  exact decodeQ_err w w' fl hb.out
theorem decF_ok {w w' : World} {r : Rq} {fl : Int} (h : fl = 0) (hm : r.modes = []) (hb : Hid (Below w.heap.size w w')) : DecF w r fl (.returned (.tuple #[.agg (r.cells none 0), .int .i64 0])) w' := by
  unfold DecF
  rw [if_pos h]
  refine ⟨none, 0, rfl, ?_, hb.out⟩
  show w'.ownsRow w.heap.size 5 1 (.slice none r.modes.length 0) r.modes.length (bv r.modes)
  rw [hm]
  exact World.ownsRow_nil _ _ _ _

end Go.Proofs.YtdplngplljejhaaDoor
