import Derived.Test.YtdplngplljejhaaDoorQN
namespace Go.Proofs.YtdplngplljejhaaDoor
open Go.RowKit

def DecodeQ (w : World) (x : Int × Rq) (e : Ending) (w' : World) : Prop :=
  ∃ A c, e = .returned (.tuple #[.agg (x.2.cells A c), .int .i64 x.1]) ∧ w'.ownsRow w.heap.size 5 1 (.slice A x.2.modes.length c) x.2.modes.length (bv x.2.modes) ∧ Below w.heap.size w w'
theorem decodeQ_err (w w' : World) (er : Int) (h : Below w.heap.size w w') : DecodeQ w (er, zeroR) (.returned (.tuple #[.agg #[.int .i64 0, .string ⟨#[]⟩, .string ⟨#[]⟩, .string ⟨#[]⟩, .int .u32 0, .int .u32 0, .int .u32 0, .int .u32 0, .slice none 0 0, .bool false, .int .u32 0], .int .i64 er])) w' :=
  ⟨none, 0, rfl, World.ownsRow_nil _ _ _ _, h⟩

set_option maxHeartbeats 4000000 in
set_option maxRecDepth 100000 in
theorem decodeq_none (w : World) (nm : ByteArray) (A : Option Addr) (c : Nat) (bs : List UInt8) (mm : Int) (hs : nm.size ≤ maxLen) (hb : SlB w w.heap.size A c bs) (hmm : w.cell? ⟨0, 0, none⟩ = some (.int .i64 mm)) (hX : rowN nm Rw.all = none) :
    Calls Tryd.prog 6 #[.string nm, .slice A bs.length c] w (DecodeQ w (decR nm bs)) := by
  have h1 : ∀ (w : World) (a : Addr) (m : Mode) (f : Fn) (xs ys : Array Value), (store a (.func f xs ys) m).run Tryd.prog w = stored Tryd.prog w a (.func f xs ys) m := fun w a m f xs ys => run_store Tryd.prog w a _ m rfl
  have h2 : ∀ (w : World) (a : Addr) (m : Mode), (store a .nilFunc m).run Tryd.prog w = stored Tryd.prog w a .nilFunc m := fun w a m => run_store Tryd.prog w a _ m rfl
  have HB := hid hb
  have HMM := hid hmm
  have hpos : 0 < w.heap.size := World.block_lt_of_cell? w _ hmm
  have hlen := hb.1
  have hlen2 := hb.2.1
  unfold maxLen at hlen2
  clear hb hmm
  have HX0 : Hid (Box (w.alloc (.cells #[.int .i64 0, .string ⟨#[]⟩, .string ⟨#[]⟩, .string ⟨#[]⟩, .int .u32 0, .int .u32 0, .int .u32 0, .int .u32 0, .slice none 0 0, .bool false, .int .u32 0] 28)) w.heap.size 28 #[.int .i64 0, .string ⟨#[]⟩, .string ⟨#[]⟩, .string ⟨#[]⟩, .int .u32 0, .int .u32 0, .int .u32 0, .int .u32 0, .slice none 0 0, .bool false, .int .u32 0]) := hid (Box.new w 28 _)
  have HX := hid hX
  clear hX
  have HE : Hid (decR nm bs = (8, zeroR)) := by show _ = _; rw [decR, HX.out]
  go_enter Tryd.func6, Tryd.ntmps6
  go_wp2_with (
    go_at_call 19
    refine (rowNamed_any nm _ hs).mono ?_
    rw [HX.out]
    rintro e w1 ⟨hb1, rfl⟩
    have HB1 : Hid (Below w.heap.size w (w1.alloc (.cells #[.int .i64 0, .string ⟨#[]⟩, .nilFunc, .nilFunc] 60))) := hid (((bel1 w _).trans (hb1.mono (by simp))).alloc (by have := hb1.size; simp at this; omega) _)
    have hx : Box (w1.alloc (.cells #[.int .i64 0, .string ⟨#[]⟩, .nilFunc, .nilFunc] 60)) w.heap.size 28 #[.int .i64 0, .string ⟨#[]⟩, .string ⟨#[]⟩, .string ⟨#[]⟩, .int .u32 0, .int .u32 0, .int .u32 0, .int .u32 0, .slice none 0 0, .bool false, .int .u32 0] := box_al (HX0.out.same (hb1.block _ (by simp))) _
    have rc0 : (w1.alloc (.cells #[.int .i64 0, .string ⟨#[]⟩, .nilFunc, .nilFunc] 60)).cell? ⟨w.heap.size, 0, none⟩ = some (.int .i64 0) := hx.cell 0
    have rf0 : (w1.alloc (.cells #[.int .i64 0, .string ⟨#[]⟩, .nilFunc, .nilFunc] 60)).frozen? ⟨w.heap.size, 0, none⟩ = false := hx.frozen 0
    have rc1 : (w1.alloc (.cells #[.int .i64 0, .string ⟨#[]⟩, .nilFunc, .nilFunc] 60)).cell? ⟨w.heap.size, 1, none⟩ = some (.string ⟨#[]⟩) := hx.cell 1
    have rf1 : (w1.alloc (.cells #[.int .i64 0, .string ⟨#[]⟩, .nilFunc, .nilFunc] 60)).frozen? ⟨w.heap.size, 1, none⟩ = false := hx.frozen 1
    have rc2 : (w1.alloc (.cells #[.int .i64 0, .string ⟨#[]⟩, .nilFunc, .nilFunc] 60)).cell? ⟨w.heap.size, 2, none⟩ = some (.string ⟨#[]⟩) := hx.cell 2
    have rf2 : (w1.alloc (.cells #[.int .i64 0, .string ⟨#[]⟩, .nilFunc, .nilFunc] 60)).frozen? ⟨w.heap.size, 2, none⟩ = false := hx.frozen 2
    have rc3 : (w1.alloc (.cells #[.int .i64 0, .string ⟨#[]⟩, .nilFunc, .nilFunc] 60)).cell? ⟨w.heap.size, 3, none⟩ = some (.string ⟨#[]⟩) := hx.cell 3
    have rf3 : (w1.alloc (.cells #[.int .i64 0, .string ⟨#[]⟩, .nilFunc, .nilFunc] 60)).frozen? ⟨w.heap.size, 3, none⟩ = false := hx.frozen 3
    have rc4 : (w1.alloc (.cells #[.int .i64 0, .string ⟨#[]⟩, .nilFunc, .nilFunc] 60)).cell? ⟨w.heap.size, 4, none⟩ = some (.int .u32 0) := hx.cell 4
    have rf4 : (w1.alloc (.cells #[.int .i64 0, .string ⟨#[]⟩, .nilFunc, .nilFunc] 60)).frozen? ⟨w.heap.size, 4, none⟩ = false := hx.frozen 4
    have rc5 : (w1.alloc (.cells #[.int .i64 0, .string ⟨#[]⟩, .nilFunc, .nilFunc] 60)).cell? ⟨w.heap.size, 5, none⟩ = some (.int .u32 0) := hx.cell 5
    have rf5 : (w1.alloc (.cells #[.int .i64 0, .string ⟨#[]⟩, .nilFunc, .nilFunc] 60)).frozen? ⟨w.heap.size, 5, none⟩ = false := hx.frozen 5
    have rc6 : (w1.alloc (.cells #[.int .i64 0, .string ⟨#[]⟩, .nilFunc, .nilFunc] 60)).cell? ⟨w.heap.size, 6, none⟩ = some (.int .u32 0) := hx.cell 6
    have rf6 : (w1.alloc (.cells #[.int .i64 0, .string ⟨#[]⟩, .nilFunc, .nilFunc] 60)).frozen? ⟨w.heap.size, 6, none⟩ = false := hx.frozen 6
    have rc7 : (w1.alloc (.cells #[.int .i64 0, .string ⟨#[]⟩, .nilFunc, .nilFunc] 60)).cell? ⟨w.heap.size, 7, none⟩ = some (.int .u32 0) := hx.cell 7
    have rf7 : (w1.alloc (.cells #[.int .i64 0, .string ⟨#[]⟩, .nilFunc, .nilFunc] 60)).frozen? ⟨w.heap.size, 7, none⟩ = false := hx.frozen 7
    have rc8 : (w1.alloc (.cells #[.int .i64 0, .string ⟨#[]⟩, .nilFunc, .nilFunc] 60)).cell? ⟨w.heap.size, 8, none⟩ = some (.slice none 0 0) := hx.cell 8
    have rf8 : (w1.alloc (.cells #[.int .i64 0, .string ⟨#[]⟩, .nilFunc, .nilFunc] 60)).frozen? ⟨w.heap.size, 8, none⟩ = false := hx.frozen 8
    have rc9 : (w1.alloc (.cells #[.int .i64 0, .string ⟨#[]⟩, .nilFunc, .nilFunc] 60)).cell? ⟨w.heap.size, 9, none⟩ = some (.bool false) := hx.cell 9
    have rf9 : (w1.alloc (.cells #[.int .i64 0, .string ⟨#[]⟩, .nilFunc, .nilFunc] 60)).frozen? ⟨w.heap.size, 9, none⟩ = false := hx.frozen 9
    have rc10 : (w1.alloc (.cells #[.int .i64 0, .string ⟨#[]⟩, .nilFunc, .nilFunc] 60)).cell? ⟨w.heap.size, 10, none⟩ = some (.int .u32 0) := hx.cell 10
    have rf10 : (w1.alloc (.cells #[.int .i64 0, .string ⟨#[]⟩, .nilFunc, .nilFunc] 60)).frozen? ⟨w.heap.size, 10, none⟩ = false := hx.frozen 10
    clear hx hb1)
  refine bodyPost_ret (v := .tuple #[.agg #[.int .i64 0, .string ⟨#[]⟩, .string ⟨#[]⟩, .string ⟨#[]⟩, .int .u32 0, .int .u32 0, .int .u32 0, .int .u32 0, .slice none 0 0, .bool false, .int .u32 0], .int .i64 8]) (by simp [results, Tryd.results6, go_sem, rc0, rc1, rc2, rc3, rc4, rc5, rc6, rc7, rc8, rc9, rc10]) rfl ?_
  rw [HE.out]
  exact decodeQ_err _ _ _ (bel_elf HB1.out (Nat.le_refl _) _ _ _ _ _ _ _ _ _ _ _)
set_option maxHeartbeats 4000000 in
set_option maxRecDepth 100000 in
theorem decodeq_rd (w : World) (nm : ByteArray) (A : Option Addr) (c : Nat) (bs : List UInt8) (mm : Int) (hs : nm.size ≤ maxLen) (hb : SlB w w.heap.size A c bs) (hmm : w.cell? ⟨0, 0, none⟩ = some (.int .i64 mm)) (k : Rw) (er : Int) (fs : List Fd) (hX : rowN nm Rw.all = some k) (hR : readF k.kinds bs = (er, fs)) (her : er ≠ 0) :
    Calls Tryd.prog 6 #[.string nm, .slice A bs.length c] w (DecodeQ w (decR nm bs)) := by
  have h1 : ∀ (w : World) (a : Addr) (m : Mode) (f : Fn) (xs ys : Array Value), (store a (.func f xs ys) m).run Tryd.prog w = stored Tryd.prog w a (.func f xs ys) m := fun w a m f xs ys => run_store Tryd.prog w a _ m rfl
  have h2 : ∀ (w : World) (a : Addr) (m : Mode), (store a .nilFunc m).run Tryd.prog w = stored Tryd.prog w a .nilFunc m := fun w a m => run_store Tryd.prog w a _ m rfl
  have HB := hid hb
  have HMM := hid hmm
  have hpos : 0 < w.heap.size := World.block_lt_of_cell? w _ hmm
  have hlen := hb.1
  have hlen2 := hb.2.1
  unfold maxLen at hlen2
  clear hb hmm
  have HX0 : Hid (Box (w.alloc (.cells #[.int .i64 0, .string ⟨#[]⟩, .string ⟨#[]⟩, .string ⟨#[]⟩, .int .u32 0, .int .u32 0, .int .u32 0, .int .u32 0, .slice none 0 0, .bool false, .int .u32 0] 28)) w.heap.size 28 #[.int .i64 0, .string ⟨#[]⟩, .string ⟨#[]⟩, .string ⟨#[]⟩, .int .u32 0, .int .u32 0, .int .u32 0, .int .u32 0, .slice none 0 0, .bool false, .int .u32 0]) := hid (Box.new w 28 _)
  have HX := hid hX
  clear hX
  have e1 := run_wfn k
  have e2 := run_rfn k
  obtain ⟨bn, HBN⟩ : ∃ n, Hid (bs.length = n) := ⟨_, hid rfl⟩
  rw [HBN.out] at hlen
  rw [HBN.out]
  obtain ⟨kn, HKN⟩ : ∃ n, Hid (k.kinds.length = n) := ⟨_, hid rfl⟩
  have hkn6 : kn ≤ 6 := by rw [← HKN.out]; exact kinds_len k
  have HR := hid hR
  clear hR
  have hz : (er == 0) = false := by simpa using her
  have HE : Hid (decR nm bs = (er, zeroR)) := by
    show _ = _
    rw [decR, HX.out]
    simp only [HR.out, if_neg her]
  clear her
  go_enter Tryd.func6, Tryd.ntmps6
  go_wp2_with (first
    | (go_at_call 19
       refine (rowNamed_any nm _ hs).mono ?_
       rw [HX.out]
       rintro e w1 ⟨hb1, rfl⟩
       have hxr1 : Box w1 w.heap.size 28 #[.int .i64 0, .string ⟨#[]⟩, .string ⟨#[]⟩, .string ⟨#[]⟩, .int .u32 0, .int .u32 0, .int .u32 0, .int .u32 0, .slice none 0 0, .bool false, .int .u32 0] := HX0.out.same (hb1.block _ (by simp))
       have HB1 : Hid (Below w.heap.size w w1) := hid ((bel1 w _).trans (hb1.mono (by simp)))
       have HBR : Hid (Below w.heap.size w (w1.alloc (.cells #[.int .i64 k.kind, .string k.name, .func (.func k.wfn) #[] #[], .func (.func k.rfn) #[] #[]] 60))) := hid (HB1.out.alloc HB1.out.size _)
       have HRR : Hid (Box (w1.alloc (.cells #[.int .i64 k.kind, .string k.name, .func (.func k.wfn) #[] #[], .func (.func k.rfn) #[] #[]] 60)) w1.heap.size 60 #[.int .i64 k.kind, .string k.name, .func (.func k.wfn) #[] #[], .func (.func k.rfn) #[] #[]]) := hid (Box.new w1 60 _)
       have HXR : Hid (Box (w1.alloc (.cells #[.int .i64 k.kind, .string k.name, .func (.func k.wfn) #[] #[], .func (.func k.rfn) #[] #[]] 60)) w.heap.size 28 #[.int .i64 0, .string ⟨#[]⟩, .string ⟨#[]⟩, .string ⟨#[]⟩, .int .u32 0, .int .u32 0, .int .u32 0, .int .u32 0, .slice none 0 0, .bool false, .int .u32 0]) := hid (box_al hxr1 _)
       clear hb1 hxr1)
    | (go_at_call 21
       refine (fieldKinds_any k _).mono ?_
       rintro e w2 ⟨kA, kc, rfl, hok, hb2⟩
       rw [HKN.out]
       have hok2 := hok
       rw [HKN.out] at hok2
       have HLK : Hid (Lies w2 w2.heap.size kA (k.kinds.map (Value.int .i64))) := hid (Lies.own hok)
       have HB2 : Hid (Below w.heap.size w w2) := hid (HBR.out.trans (hb2.mono HBR.out.size))
       have HSB := slb_at HB HB2
       have HM0 := hid ((HB2.out.cell (p := ⟨0, 0, none⟩) hpos).trans HMM.out)
       have HRR2 := hid (HRR.out.same (hb2.block _ HRR.out.lt))
       have HXR2 := hid (HXR.out.same (hb2.block _ HXR.out.lt))
       have hcp := own_caps hok2
       have hcp1 := hcp.1
       have hcp2 := hcp.2
       clear hok hok2 hb2 hcp)
    | (go_at_call 20
       (with_reducible refine (read_n w2 kA kc kn k.kinds A c bn bs mm er fs fs.length HR rfl HKN.out HBN.out HLK (by omega) HSB HM0).mono ?_)
       rintro e w3 ⟨A1, c1, rfl, _, hb3⟩
       have hx : Box w3 w.heap.size 28 #[.int .i64 0, .string ⟨#[]⟩, .string ⟨#[]⟩, .string ⟨#[]⟩, .int .u32 0, .int .u32 0, .int .u32 0, .int .u32 0, .slice none 0 0, .bool false, .int .u32 0] := HXR2.out.same (hb3.out.block _ HXR2.out.lt)
       have rc0 : w3.cell? ⟨w.heap.size, 0, none⟩ = some (.int .i64 0) := hx.cell 0
       have rf0 : w3.frozen? ⟨w.heap.size, 0, none⟩ = false := hx.frozen 0
       have rc1 : w3.cell? ⟨w.heap.size, 1, none⟩ = some (.string ⟨#[]⟩) := hx.cell 1
       have rf1 : w3.frozen? ⟨w.heap.size, 1, none⟩ = false := hx.frozen 1
       have rc2 : w3.cell? ⟨w.heap.size, 2, none⟩ = some (.string ⟨#[]⟩) := hx.cell 2
       have rf2 : w3.frozen? ⟨w.heap.size, 2, none⟩ = false := hx.frozen 2
       have rc3 : w3.cell? ⟨w.heap.size, 3, none⟩ = some (.string ⟨#[]⟩) := hx.cell 3
       have rf3 : w3.frozen? ⟨w.heap.size, 3, none⟩ = false := hx.frozen 3
       have rc4 : w3.cell? ⟨w.heap.size, 4, none⟩ = some (.int .u32 0) := hx.cell 4
       have rf4 : w3.frozen? ⟨w.heap.size, 4, none⟩ = false := hx.frozen 4
       have rc5 : w3.cell? ⟨w.heap.size, 5, none⟩ = some (.int .u32 0) := hx.cell 5
       have rf5 : w3.frozen? ⟨w.heap.size, 5, none⟩ = false := hx.frozen 5
       have rc6 : w3.cell? ⟨w.heap.size, 6, none⟩ = some (.int .u32 0) := hx.cell 6
       have rf6 : w3.frozen? ⟨w.heap.size, 6, none⟩ = false := hx.frozen 6
       have rc7 : w3.cell? ⟨w.heap.size, 7, none⟩ = some (.int .u32 0) := hx.cell 7
       have rf7 : w3.frozen? ⟨w.heap.size, 7, none⟩ = false := hx.frozen 7
       have rc8 : w3.cell? ⟨w.heap.size, 8, none⟩ = some (.slice none 0 0) := hx.cell 8
       have rf8 : w3.frozen? ⟨w.heap.size, 8, none⟩ = false := hx.frozen 8
       have rc9 : w3.cell? ⟨w.heap.size, 9, none⟩ = some (.bool false) := hx.cell 9
       have rf9 : w3.frozen? ⟨w.heap.size, 9, none⟩ = false := hx.frozen 9
       have rc10 : w3.cell? ⟨w.heap.size, 10, none⟩ = some (.int .u32 0) := hx.cell 10
       have rf10 : w3.frozen? ⟨w.heap.size, 10, none⟩ = false := hx.frozen 10
       have HB3 : Hid (Below w.heap.size w w3) := hid (HB2.out.trans (hb3.out.mono HB2.out.size))
       clear hx hb3))
  refine bodyPost_ret (v := .tuple #[.agg #[.int .i64 0, .string ⟨#[]⟩, .string ⟨#[]⟩, .string ⟨#[]⟩, .int .u32 0, .int .u32 0, .int .u32 0, .int .u32 0, .slice none 0 0, .bool false, .int .u32 0], .int .i64 er]) (by simp [results, Tryd.results6, go_sem, rc0, rc1, rc2, rc3, rc4, rc5, rc6, rc7, rc8, rc9, rc10]) rfl ?_
  rw [HE.out]
  exact decodeQ_err _ _ _ (bel_elf HB3.out (Nat.le_refl _) _ _ _ _ _ _ _ _ _ _ _)
set_option maxHeartbeats 4000000 in
set_option maxRecDepth 100000 in
theorem decodeq_ok (w : World) (nm : ByteArray) (A : Option Addr) (c : Nat) (bs : List UInt8) (mm : Int) (hs : nm.size ≤ maxLen) (hb : SlB w w.heap.size A c bs) (hmm : w.cell? ⟨0, 0, none⟩ = some (.int .i64 mm)) (k : Rw) (fs : List Fd) (x : Rq) (fl : Int) (hX : rowN nm Rw.all = some k) (hR : readF k.kinds bs = (0, fs)) (hG : k.get fs { zeroR with kind := k.kind } = x) (hF : (k.put x .zero).fault = fl)(hfl : fl = 0) :
    Calls Tryd.prog 6 #[.string nm, .slice A bs.length c] w (DecodeQ w (decR nm bs)) := by
  have h1 : ∀ (w : World) (a : Addr) (m : Mode) (f : Fn) (xs ys : Array Value), (store a (.func f xs ys) m).run Tryd.prog w = stored Tryd.prog w a (.func f xs ys) m := fun w a m f xs ys => run_store Tryd.prog w a _ m rfl
  have h2 : ∀ (w : World) (a : Addr) (m : Mode), (store a .nilFunc m).run Tryd.prog w = stored Tryd.prog w a .nilFunc m := fun w a m => run_store Tryd.prog w a _ m rfl
  have HB := hid hb
  have HMM := hid hmm
  have hpos : 0 < w.heap.size := World.block_lt_of_cell? w _ hmm
  have hlen := hb.1
  have hlen2 := hb.2.1
  unfold maxLen at hlen2
  clear hb hmm
  have HX0 : Hid (Box (w.alloc (.cells #[.int .i64 0, .string ⟨#[]⟩, .string ⟨#[]⟩, .string ⟨#[]⟩, .int .u32 0, .int .u32 0, .int .u32 0, .int .u32 0, .slice none 0 0, .bool false, .int .u32 0] 28)) w.heap.size 28 #[.int .i64 0, .string ⟨#[]⟩, .string ⟨#[]⟩, .string ⟨#[]⟩, .int .u32 0, .int .u32 0, .int .u32 0, .int .u32 0, .slice none 0 0, .bool false, .int .u32 0]) := hid (Box.new w 28 _)
  have HX := hid hX
  clear hX
  have e1 := run_wfn k
  have e2 := run_rfn k
  obtain ⟨bn, HBN⟩ : ∃ n, Hid (bs.length = n) := ⟨_, hid rfl⟩
  rw [HBN.out] at hlen
  rw [HBN.out]
  obtain ⟨kn, HKN⟩ : ∃ n, Hid (k.kinds.length = n) := ⟨_, hid rfl⟩
  have hkn6 : kn ≤ 6 := by rw [← HKN.out]; exact kinds_len k
  have HR := hid hR
  have HG := hid hG
  have HF := hid hF
  have hrd := readF_rd k (b := bs) (by rw [hR])
  rw [hR] at hrd
  have HKM := hid hrd.1
  have HOK : Hid x.Ok := hid (by rw [← hG]; exact get_okq k hrd.1 hrd.2)
  have HFN : Hid (fs.length = kn) := hid (by rw [← HKN.out, ← hrd.1, List.length_map])
  clear hR hG hF hrd
  have HE : Hid (decR nm bs = (0, x)) := by
    show _ = _
    rw [decR, HX.out]
    simp only [HR.out, if_true, HG.out, HF.out, if_pos hfl]
  subst hfl
  obtain ⟨ml, HML⟩ : ∃ n, Hid (x.modes.length = n) := ⟨_, hid rfl⟩
  go_enter Tryd.func6, Tryd.ntmps6
  go_wp2_with (first
    | (go_at_call 19
       refine (rowNamed_any nm _ hs).mono ?_
       rw [HX.out]
       rintro e w1 ⟨hb1, rfl⟩
       have hxr1 : Box w1 w.heap.size 28 #[.int .i64 0, .string ⟨#[]⟩, .string ⟨#[]⟩, .string ⟨#[]⟩, .int .u32 0, .int .u32 0, .int .u32 0, .int .u32 0, .slice none 0 0, .bool false, .int .u32 0] := HX0.out.same (hb1.block _ (by simp))
       have HB1 : Hid (Below w.heap.size w w1) := hid ((bel1 w _).trans (hb1.mono (by simp)))
       have HBR : Hid (Below w.heap.size w (w1.alloc (.cells #[.int .i64 k.kind, .string k.name, .func (.func k.wfn) #[] #[], .func (.func k.rfn) #[] #[]] 60))) := hid (HB1.out.alloc HB1.out.size _)
       have HRR : Hid (Box (w1.alloc (.cells #[.int .i64 k.kind, .string k.name, .func (.func k.wfn) #[] #[], .func (.func k.rfn) #[] #[]] 60)) w1.heap.size 60 #[.int .i64 k.kind, .string k.name, .func (.func k.wfn) #[] #[], .func (.func k.rfn) #[] #[]]) := hid (Box.new w1 60 _)
       have HXR : Hid (Box (w1.alloc (.cells #[.int .i64 k.kind, .string k.name, .func (.func k.wfn) #[] #[], .func (.func k.rfn) #[] #[]] 60)) w.heap.size 28 #[.int .i64 0, .string ⟨#[]⟩, .string ⟨#[]⟩, .string ⟨#[]⟩, .int .u32 0, .int .u32 0, .int .u32 0, .int .u32 0, .slice none 0 0, .bool false, .int .u32 0]) := hid (box_al hxr1 _)
       clear hb1 hxr1)
    | (go_at_call 21
       refine (fieldKinds_any k _).mono ?_
       rintro e w2 ⟨kA, kc, rfl, hok, hb2⟩
       rw [HKN.out]
       have hok2 := hok
       rw [HKN.out] at hok2
       have HLK : Hid (Lies w2 w2.heap.size kA (k.kinds.map (Value.int .i64))) := hid (Lies.own hok)
       have HB2 : Hid (Below w.heap.size w w2) := hid (HBR.out.trans (hb2.mono HBR.out.size))
       have HSB := slb_at HB HB2
       have HM0 := hid ((HB2.out.cell (p := ⟨0, 0, none⟩) hpos).trans HMM.out)
       have HRR2 := hid (HRR.out.same (hb2.block _ HRR.out.lt))
       have HXR2 := hid (HXR.out.same (hb2.block _ HXR.out.lt))
       have hcp := own_caps hok2
       have hcp1 := hcp.1
       have hcp2 := hcp.2
       clear hok hok2 hb2 hcp)
    | (go_at_call 20
       (with_reducible refine (read_n w2 kA kc kn k.kinds A c bn bs mm 0 fs kn HR HFN.out HKN.out HBN.out HLK (by omega) HSB HM0).mono ?_)
       rintro e w3 ⟨A1, c1, rfl, hown, hb3⟩
       have HRR3 := hid (HRR2.out.same (hb3.out.block _ HRR2.out.lt))
       have HXR3 := hid (HXR2.out.same (hb3.out.block _ HXR2.out.lt))
       have q0 : w3.cell? ⟨w1.heap.size, 0, none⟩ = some (.int .i64 k.kind) := HRR3.out.cell 0
       have HB3 : Hid (Below w.heap.size w w3) := hid (HB2.out.trans (hb3.out.mono HB2.out.size))
       have HBQ : Hid (Below w.heap.size w (w3.alloc (.cells #[.int .i64 k.kind, .string ⟨#[]⟩, .string ⟨#[]⟩, .string ⟨#[]⟩, .int .u32 0, .int .u32 0, .int .u32 0, .int .u32 0, .slice none 0 0, .bool false, .int .u32 0, .slice A1 kn c1] 69))) := hid (HB3.out.alloc HB3.out.size _)
       have HRR4 := hid (box_al HRR3.out (.cells #[.int .i64 k.kind, .string ⟨#[]⟩, .string ⟨#[]⟩, .string ⟨#[]⟩, .int .u32 0, .int .u32 0, .int .u32 0, .int .u32 0, .slice none 0 0, .bool false, .int .u32 0, .slice A1 kn c1] 69))
       have HXR4 := hid (box_al HXR3.out (.cells #[.int .i64 k.kind, .string ⟨#[]⟩, .string ⟨#[]⟩, .string ⟨#[]⟩, .int .u32 0, .int .u32 0, .int .u32 0, .int .u32 0, .slice none 0 0, .bool false, .int .u32 0, .slice A1 kn c1] 69))
       have q3 : (w3.alloc (.cells #[.int .i64 k.kind, .string ⟨#[]⟩, .string ⟨#[]⟩, .string ⟨#[]⟩, .int .u32 0, .int .u32 0, .int .u32 0, .int .u32 0, .slice none 0 0, .bool false, .int .u32 0, .slice A1 kn c1] 69)).cell? ⟨w1.heap.size, 3, none⟩ = some (.func (.func k.rfn) #[] #[]) := HRR4.out.cell 3
       have HRD : Hid (RdS (w3.alloc (.cells #[.int .i64 k.kind, .string ⟨#[]⟩, .string ⟨#[]⟩, .string ⟨#[]⟩, .int .u32 0, .int .u32 0, .int .u32 0, .int .u32 0, .slice none 0 0, .bool false, .int .u32 0, .slice A1 kn c1] 69)) w.heap.size w3.heap.size { zeroR with kind := k.kind } fs) := hid (by
         obtain ⟨cs, ho1, hf1⟩ := hown.out
         have h := rd_new w3 w.heap.size c1 k.kind A1 fs cs HB3.out.size w2.heap.size ho1 HB2.out.size hf1
         rw [HFN.out] at h
         exact h)
       clear hown hb3)
    | ((with_reducible refine (get_any_r k w.heap.size w3.heap.size _ fs _ HRD.out HKM.out).mono ?_)
       rintro e w4 ⟨rfl, hs4, hk4⟩
       rw [HG.out] at hs4
       obtain ⟨_, mA, mc, zA, zc, zcs, hx4, ho4, _⟩ := hs4
       rw [HML.out] at ho4
       have hx4' : Box w4 w3.heap.size 69 #[.int .i64 x.kind, .string x.text, .string x.value, .string x.lang, .int .u32 x.cols, .int .u32 x.rows, .int .u32 x.width, .int .u32 x.height, .slice mA ml mc, .bool x.on, .int .u32 x.code, .slice zA 0 zc] := by rw [← HML.out]; exact hx4
       have lc0 : w4.cell? ⟨w3.heap.size, 0, none⟩ = some (.int .i64 x.kind) := hx4'.cell 0
       have lc1 : w4.cell? ⟨w3.heap.size, 1, none⟩ = some (.string x.text) := hx4'.cell 1
       have lc2 : w4.cell? ⟨w3.heap.size, 2, none⟩ = some (.string x.value) := hx4'.cell 2
       have lc3 : w4.cell? ⟨w3.heap.size, 3, none⟩ = some (.string x.lang) := hx4'.cell 3
       have lc4 : w4.cell? ⟨w3.heap.size, 4, none⟩ = some (.int .u32 x.cols) := hx4'.cell 4
       have lc5 : w4.cell? ⟨w3.heap.size, 5, none⟩ = some (.int .u32 x.rows) := hx4'.cell 5
       have lc6 : w4.cell? ⟨w3.heap.size, 6, none⟩ = some (.int .u32 x.width) := hx4'.cell 6
       have lc7 : w4.cell? ⟨w3.heap.size, 7, none⟩ = some (.int .u32 x.height) := hx4'.cell 7
       have lc8 : w4.cell? ⟨w3.heap.size, 8, none⟩ = some (.slice mA ml mc) := hx4'.cell 8
       have lc9 : w4.cell? ⟨w3.heap.size, 9, none⟩ = some (.bool x.on) := hx4'.cell 9
       have lc10 : w4.cell? ⟨w3.heap.size, 10, none⟩ = some (.int .u32 x.code) := hx4'.cell 10
       have HB4 : Hid (Below w.heap.size w w4) := hid (HBQ.out.trans (hk4.below HBQ.out.size))
       have HRR5 := hid (box_al (hk4.box HRR4.out (by decide)) (.cells #[.int .i64 x.kind, .string x.text, .string x.value, .string x.lang, .int .u32 x.cols, .int .u32 x.rows, .int .u32 x.width, .int .u32 x.height, .slice mA ml mc, .bool x.on, .int .u32 x.code, .slice none 0 0, .bool false, .bool false] 72))
       have HXR5 := hid (box_al (hk4.box HXR4.out (by decide)) (.cells #[.int .i64 x.kind, .string x.text, .string x.value, .string x.lang, .int .u32 x.cols, .int .u32 x.rows, .int .u32 x.width, .int .u32 x.height, .slice mA ml mc, .bool x.on, .int .u32 x.code, .slice none 0 0, .bool false, .bool false] 72))
       have HXD5 := hid (box_al hx4' (.cells #[.int .i64 x.kind, .string x.text, .string x.value, .string x.lang, .int .u32 x.cols, .int .u32 x.rows, .int .u32 x.width, .int .u32 x.height, .slice mA ml mc, .bool x.on, .int .u32 x.code, .slice none 0 0, .bool false, .bool false] 72))
       have HO5 := hid (own_keep ho4 (bel1 w4 (.cells #[.int .i64 x.kind, .string x.text, .string x.value, .string x.lang, .int .u32 x.cols, .int .u32 x.rows, .int .u32 x.width, .int .u32 x.height, .slice mA ml mc, .bool x.on, .int .u32 x.code, .slice none 0 0, .bool false, .bool false] 72)))
       have HB5 : Hid (Below w.heap.size w (w4.alloc (.cells #[.int .i64 x.kind, .string x.text, .string x.value, .string x.lang, .int .u32 x.cols, .int .u32 x.rows, .int .u32 x.width, .int .u32 x.height, .slice mA ml mc, .bool x.on, .int .u32 x.code, .slice none 0 0, .bool false, .bool false] 72))) := hid (HB4.out.alloc HB4.out.size _)
       have q2 : (w4.alloc (.cells #[.int .i64 x.kind, .string x.text, .string x.value, .string x.lang, .int .u32 x.cols, .int .u32 x.rows, .int .u32 x.width, .int .u32 x.height, .slice mA ml mc, .bool x.on, .int .u32 x.code, .slice none 0 0, .bool false, .bool false] 72)).cell? ⟨w1.heap.size, 2, none⟩ = some (.func (.func k.wfn) #[] #[]) := HRR5.out.cell 2
       have HW0 : Hid (WrS (w4.alloc (.cells #[.int .i64 x.kind, .string x.text, .string x.value, .string x.lang, .int .u32 x.cols, .int .u32 x.rows, .int .u32 x.width, .int .u32 x.height, .slice mA ml mc, .bool x.on, .int .u32 x.code, .slice none 0 0, .bool false, .bool false] 72)) w.heap.size w4.heap.size x mA mc .zero) := hid (by
         have ho4' : w4.ownsRow w.heap.size 5 1 (.slice mA x.modes.length mc) x.modes.length (bv x.modes) := by rw [HML.out]; exact ho4
         have h := wr_new w4 w.heap.size x mA mc HB4.out.size (tk_own ho4')
         unfold Rq.wcells at h
         rw [HML.out] at h
         exact h)
       clear hx4 hx4' ho4 hk4)
    | ((with_reducible refine (put_any_r k w.heap.size w4.heap.size mc x mA .zero _ HOK.out HW0.out (by simp [Ws.zero])).mono ?_)
       rintro e w5 ⟨rfl, hs5, hk5⟩
       have HS5 := hid hs5
       have HXR6 := hid (hk5.box HXR5.out (by decide))
       have HXD6 := hid (hk5.box HXD5.out (by decide))
       have HO6 := hid (hk5.own HO5.out (by decide))
       have HB6 : Hid (Below w.heap.size w w5) := hid (HB5.out.trans (hk5.below HB5.out.size))
       have hx6 := HXR6.out
       have hd6 := HXD6.out
       have rc0 : w5.cell? ⟨w.heap.size, 0, none⟩ = some (.int .i64 0) := hx6.cell 0
       have rf0 : w5.frozen? ⟨w.heap.size, 0, none⟩ = false := hx6.frozen 0
       have rc1 : w5.cell? ⟨w.heap.size, 1, none⟩ = some (.string ⟨#[]⟩) := hx6.cell 1
       have rf1 : w5.frozen? ⟨w.heap.size, 1, none⟩ = false := hx6.frozen 1
       have rc2 : w5.cell? ⟨w.heap.size, 2, none⟩ = some (.string ⟨#[]⟩) := hx6.cell 2
       have rf2 : w5.frozen? ⟨w.heap.size, 2, none⟩ = false := hx6.frozen 2
       have rc3 : w5.cell? ⟨w.heap.size, 3, none⟩ = some (.string ⟨#[]⟩) := hx6.cell 3
       have rf3 : w5.frozen? ⟨w.heap.size, 3, none⟩ = false := hx6.frozen 3
       have rc4 : w5.cell? ⟨w.heap.size, 4, none⟩ = some (.int .u32 0) := hx6.cell 4
       have rf4 : w5.frozen? ⟨w.heap.size, 4, none⟩ = false := hx6.frozen 4
       have rc5 : w5.cell? ⟨w.heap.size, 5, none⟩ = some (.int .u32 0) := hx6.cell 5
       have rf5 : w5.frozen? ⟨w.heap.size, 5, none⟩ = false := hx6.frozen 5
       have rc6 : w5.cell? ⟨w.heap.size, 6, none⟩ = some (.int .u32 0) := hx6.cell 6
       have rf6 : w5.frozen? ⟨w.heap.size, 6, none⟩ = false := hx6.frozen 6
       have rc7 : w5.cell? ⟨w.heap.size, 7, none⟩ = some (.int .u32 0) := hx6.cell 7
       have rf7 : w5.frozen? ⟨w.heap.size, 7, none⟩ = false := hx6.frozen 7
       have rc8 : w5.cell? ⟨w.heap.size, 8, none⟩ = some (.slice none 0 0) := hx6.cell 8
       have rf8 : w5.frozen? ⟨w.heap.size, 8, none⟩ = false := hx6.frozen 8
       have rc9 : w5.cell? ⟨w.heap.size, 9, none⟩ = some (.bool false) := hx6.cell 9
       have rf9 : w5.frozen? ⟨w.heap.size, 9, none⟩ = false := hx6.frozen 9
       have rc10 : w5.cell? ⟨w.heap.size, 10, none⟩ = some (.int .u32 0) := hx6.cell 10
       have rf10 : w5.frozen? ⟨w.heap.size, 10, none⟩ = false := hx6.frozen 10
       have dc0 : w5.cell? ⟨w3.heap.size, 0, none⟩ = some (.int .i64 x.kind) := hd6.cell 0
       have dc1 : w5.cell? ⟨w3.heap.size, 1, none⟩ = some (.string x.text) := hd6.cell 1
       have dc2 : w5.cell? ⟨w3.heap.size, 2, none⟩ = some (.string x.value) := hd6.cell 2
       have dc3 : w5.cell? ⟨w3.heap.size, 3, none⟩ = some (.string x.lang) := hd6.cell 3
       have dc4 : w5.cell? ⟨w3.heap.size, 4, none⟩ = some (.int .u32 x.cols) := hd6.cell 4
       have dc5 : w5.cell? ⟨w3.heap.size, 5, none⟩ = some (.int .u32 x.rows) := hd6.cell 5
       have dc6 : w5.cell? ⟨w3.heap.size, 6, none⟩ = some (.int .u32 x.width) := hd6.cell 6
       have dc7 : w5.cell? ⟨w3.heap.size, 7, none⟩ = some (.int .u32 x.height) := hd6.cell 7
       have dc8 : w5.cell? ⟨w3.heap.size, 8, none⟩ = some (.slice mA ml mc) := hd6.cell 8
       have dc9 : w5.cell? ⟨w3.heap.size, 9, none⟩ = some (.bool x.on) := hd6.cell 9
       have dc10 : w5.cell? ⟨w3.heap.size, 10, none⟩ = some (.int .u32 x.code) := hd6.cell 10
       clear hs5 hk5 hx6 hd6)
    | (go_at_call 22
       ((with_reducible refine (fault_any_r w.heap.size w4.heap.size mc x mA _ _ HS5.out).mono ?_)); rintro e w7 ⟨rfl, rfl⟩
       rw [HF.out]))
  refine bodyPost_ret (v := .tuple #[.agg #[.int .i64 x.kind, .string x.text, .string x.value, .string x.lang, .int .u32 x.cols, .int .u32 x.rows, .int .u32 x.width, .int .u32 x.height, .slice mA ml mc, .bool x.on, .int .u32 x.code], .int .i64 0]) (by simp [results, Tryd.results6, go_sem, rc0, rc1, rc2, rc3, rc4, rc5, rc6, rc7, rc8, rc9, rc10]) rfl ?_
  rw [HE.out]
  refine ⟨mA, mc, by unfold Rq.cells; rw [HML.out], ?_, bel_elf HB6.out (Nat.le_refl _) _ _ _ _ _ _ _ _ _ _ _⟩
  show World.ownsRow _ _ _ _ (.slice mA x.modes.length mc) x.modes.length _
  rw [HML.out]
  exact (kept_elf HXR6.out (Nat.zero_le _) _ _ _ _ _ _ _ _ _ _ _).own HO6.out (by decide)
set_option maxHeartbeats 4000000 in
set_option maxRecDepth 100000 in
theorem decodeq_bad (w : World) (nm : ByteArray) (A : Option Addr) (c : Nat) (bs : List UInt8) (mm : Int) (hs : nm.size ≤ maxLen) (hb : SlB w w.heap.size A c bs) (hmm : w.cell? ⟨0, 0, none⟩ = some (.int .i64 mm)) (k : Rw) (fs : List Fd) (x : Rq) (fl : Int) (hX : rowN nm Rw.all = some k) (hR : readF k.kinds bs = (0, fs)) (hG : k.get fs { zeroR with kind := k.kind } = x) (hF : (k.put x .zero).fault = fl)(hfl : fl ≠ 0) :
    Calls Tryd.prog 6 #[.string nm, .slice A bs.length c] w (DecodeQ w (decR nm bs)) := by
  have h1 : ∀ (w : World) (a : Addr) (m : Mode) (f : Fn) (xs ys : Array Value), (store a (.func f xs ys) m).run Tryd.prog w = stored Tryd.prog w a (.func f xs ys) m := fun w a m f xs ys => run_store Tryd.prog w a _ m rfl
  have h2 : ∀ (w : World) (a : Addr) (m : Mode), (store a .nilFunc m).run Tryd.prog w = stored Tryd.prog w a .nilFunc m := fun w a m => run_store Tryd.prog w a _ m rfl
  have HB := hid hb
  have HMM := hid hmm
  have hpos : 0 < w.heap.size := World.block_lt_of_cell? w _ hmm
  have hlen := hb.1
  have hlen2 := hb.2.1
  unfold maxLen at hlen2
  clear hb hmm
  have HX0 : Hid (Box (w.alloc (.cells #[.int .i64 0, .string ⟨#[]⟩, .string ⟨#[]⟩, .string ⟨#[]⟩, .int .u32 0, .int .u32 0, .int .u32 0, .int .u32 0, .slice none 0 0, .bool false, .int .u32 0] 28)) w.heap.size 28 #[.int .i64 0, .string ⟨#[]⟩, .string ⟨#[]⟩, .string ⟨#[]⟩, .int .u32 0, .int .u32 0, .int .u32 0, .int .u32 0, .slice none 0 0, .bool false, .int .u32 0]) := hid (Box.new w 28 _)
  have HX := hid hX
  clear hX
  have e1 := run_wfn k
  have e2 := run_rfn k
  obtain ⟨bn, HBN⟩ : ∃ n, Hid (bs.length = n) := ⟨_, hid rfl⟩
  rw [HBN.out] at hlen
  rw [HBN.out]
  obtain ⟨kn, HKN⟩ : ∃ n, Hid (k.kinds.length = n) := ⟨_, hid rfl⟩
  have hkn6 : kn ≤ 6 := by rw [← HKN.out]; exact kinds_len k
  have HR := hid hR
  have HG := hid hG
  have HF := hid hF
  have hrd := readF_rd k (b := bs) (by rw [hR])
  rw [hR] at hrd
  have HKM := hid hrd.1
  have HOK : Hid x.Ok := hid (by rw [← hG]; exact get_okq k hrd.1 hrd.2)
  have HFN : Hid (fs.length = kn) := hid (by rw [← HKN.out, ← hrd.1, List.length_map])
  clear hR hG hF hrd
  have HE : Hid (decR nm bs = (fl, zeroR)) := by
    show _ = _
    rw [decR, HX.out]
    simp only [HR.out, if_true, HG.out, HF.out, if_neg hfl]
  have hz : (fl == 0) = false := by simpa using hfl
  clear hfl
  obtain ⟨ml, HML⟩ : ∃ n, Hid (x.modes.length = n) := ⟨_, hid rfl⟩
  go_enter Tryd.func6, Tryd.ntmps6
  go_wp2_with (first
    | (go_at_call 19
       refine (rowNamed_any nm _ hs).mono ?_
       rw [HX.out]
       rintro e w1 ⟨hb1, rfl⟩
       have hxr1 : Box w1 w.heap.size 28 #[.int .i64 0, .string ⟨#[]⟩, .string ⟨#[]⟩, .string ⟨#[]⟩, .int .u32 0, .int .u32 0, .int .u32 0, .int .u32 0, .slice none 0 0, .bool false, .int .u32 0] := HX0.out.same (hb1.block _ (by simp))
       have HB1 : Hid (Below w.heap.size w w1) := hid ((bel1 w _).trans (hb1.mono (by simp)))
       have HBR : Hid (Below w.heap.size w (w1.alloc (.cells #[.int .i64 k.kind, .string k.name, .func (.func k.wfn) #[] #[], .func (.func k.rfn) #[] #[]] 60))) := hid (HB1.out.alloc HB1.out.size _)
       have HRR : Hid (Box (w1.alloc (.cells #[.int .i64 k.kind, .string k.name, .func (.func k.wfn) #[] #[], .func (.func k.rfn) #[] #[]] 60)) w1.heap.size 60 #[.int .i64 k.kind, .string k.name, .func (.func k.wfn) #[] #[], .func (.func k.rfn) #[] #[]]) := hid (Box.new w1 60 _)
       have HXR : Hid (Box (w1.alloc (.cells #[.int .i64 k.kind, .string k.name, .func (.func k.wfn) #[] #[], .func (.func k.rfn) #[] #[]] 60)) w.heap.size 28 #[.int .i64 0, .string ⟨#[]⟩, .string ⟨#[]⟩, .string ⟨#[]⟩, .int .u32 0, .int .u32 0, .int .u32 0, .int .u32 0, .slice none 0 0, .bool false, .int .u32 0]) := hid (box_al hxr1 _)
       clear hb1 hxr1)
    | (go_at_call 21
       refine (fieldKinds_any k _).mono ?_
       rintro e w2 ⟨kA, kc, rfl, hok, hb2⟩
       rw [HKN.out]
       have hok2 := hok
       rw [HKN.out] at hok2
       have HLK : Hid (Lies w2 w2.heap.size kA (k.kinds.map (Value.int .i64))) := hid (Lies.own hok)
       have HB2 : Hid (Below w.heap.size w w2) := hid (HBR.out.trans (hb2.mono HBR.out.size))
       have HSB := slb_at HB HB2
       have HM0 := hid ((HB2.out.cell (p := ⟨0, 0, none⟩) hpos).trans HMM.out)
       have HRR2 := hid (HRR.out.same (hb2.block _ HRR.out.lt))
       have HXR2 := hid (HXR.out.same (hb2.block _ HXR.out.lt))
       have hcp := own_caps hok2
       have hcp1 := hcp.1
       have hcp2 := hcp.2
       clear hok hok2 hb2 hcp)
    | (go_at_call 20
       (with_reducible refine (read_n w2 kA kc kn k.kinds A c bn bs mm 0 fs kn HR HFN.out HKN.out HBN.out HLK (by omega) HSB HM0).mono ?_)
       rintro e w3 ⟨A1, c1, rfl, hown, hb3⟩
       have HRR3 := hid (HRR2.out.same (hb3.out.block _ HRR2.out.lt))
       have HXR3 := hid (HXR2.out.same (hb3.out.block _ HXR2.out.lt))
       have q0 : w3.cell? ⟨w1.heap.size, 0, none⟩ = some (.int .i64 k.kind) := HRR3.out.cell 0
       have HB3 : Hid (Below w.heap.size w w3) := hid (HB2.out.trans (hb3.out.mono HB2.out.size))
       have HBQ : Hid (Below w.heap.size w (w3.alloc (.cells #[.int .i64 k.kind, .string ⟨#[]⟩, .string ⟨#[]⟩, .string ⟨#[]⟩, .int .u32 0, .int .u32 0, .int .u32 0, .int .u32 0, .slice none 0 0, .bool false, .int .u32 0, .slice A1 kn c1] 69))) := hid (HB3.out.alloc HB3.out.size _)
       have HRR4 := hid (box_al HRR3.out (.cells #[.int .i64 k.kind, .string ⟨#[]⟩, .string ⟨#[]⟩, .string ⟨#[]⟩, .int .u32 0, .int .u32 0, .int .u32 0, .int .u32 0, .slice none 0 0, .bool false, .int .u32 0, .slice A1 kn c1] 69))
       have HXR4 := hid (box_al HXR3.out (.cells #[.int .i64 k.kind, .string ⟨#[]⟩, .string ⟨#[]⟩, .string ⟨#[]⟩, .int .u32 0, .int .u32 0, .int .u32 0, .int .u32 0, .slice none 0 0, .bool false, .int .u32 0, .slice A1 kn c1] 69))
       have q3 : (w3.alloc (.cells #[.int .i64 k.kind, .string ⟨#[]⟩, .string ⟨#[]⟩, .string ⟨#[]⟩, .int .u32 0, .int .u32 0, .int .u32 0, .int .u32 0, .slice none 0 0, .bool false, .int .u32 0, .slice A1 kn c1] 69)).cell? ⟨w1.heap.size, 3, none⟩ = some (.func (.func k.rfn) #[] #[]) := HRR4.out.cell 3
       have HRD : Hid (RdS (w3.alloc (.cells #[.int .i64 k.kind, .string ⟨#[]⟩, .string ⟨#[]⟩, .string ⟨#[]⟩, .int .u32 0, .int .u32 0, .int .u32 0, .int .u32 0, .slice none 0 0, .bool false, .int .u32 0, .slice A1 kn c1] 69)) w.heap.size w3.heap.size { zeroR with kind := k.kind } fs) := hid (by
         obtain ⟨cs, ho1, hf1⟩ := hown.out
         have h := rd_new w3 w.heap.size c1 k.kind A1 fs cs HB3.out.size w2.heap.size ho1 HB2.out.size hf1
         rw [HFN.out] at h
         exact h)
       clear hown hb3)
    | ((with_reducible refine (get_any_r k w.heap.size w3.heap.size _ fs _ HRD.out HKM.out).mono ?_)
       rintro e w4 ⟨rfl, hs4, hk4⟩
       rw [HG.out] at hs4
       obtain ⟨_, mA, mc, zA, zc, zcs, hx4, ho4, _⟩ := hs4
       rw [HML.out] at ho4
       have hx4' : Box w4 w3.heap.size 69 #[.int .i64 x.kind, .string x.text, .string x.value, .string x.lang, .int .u32 x.cols, .int .u32 x.rows, .int .u32 x.width, .int .u32 x.height, .slice mA ml mc, .bool x.on, .int .u32 x.code, .slice zA 0 zc] := by rw [← HML.out]; exact hx4
       have lc0 : w4.cell? ⟨w3.heap.size, 0, none⟩ = some (.int .i64 x.kind) := hx4'.cell 0
       have lc1 : w4.cell? ⟨w3.heap.size, 1, none⟩ = some (.string x.text) := hx4'.cell 1
       have lc2 : w4.cell? ⟨w3.heap.size, 2, none⟩ = some (.string x.value) := hx4'.cell 2
       have lc3 : w4.cell? ⟨w3.heap.size, 3, none⟩ = some (.string x.lang) := hx4'.cell 3
       have lc4 : w4.cell? ⟨w3.heap.size, 4, none⟩ = some (.int .u32 x.cols) := hx4'.cell 4
       have lc5 : w4.cell? ⟨w3.heap.size, 5, none⟩ = some (.int .u32 x.rows) := hx4'.cell 5
       have lc6 : w4.cell? ⟨w3.heap.size, 6, none⟩ = some (.int .u32 x.width) := hx4'.cell 6
       have lc7 : w4.cell? ⟨w3.heap.size, 7, none⟩ = some (.int .u32 x.height) := hx4'.cell 7
       have lc8 : w4.cell? ⟨w3.heap.size, 8, none⟩ = some (.slice mA ml mc) := hx4'.cell 8
       have lc9 : w4.cell? ⟨w3.heap.size, 9, none⟩ = some (.bool x.on) := hx4'.cell 9
       have lc10 : w4.cell? ⟨w3.heap.size, 10, none⟩ = some (.int .u32 x.code) := hx4'.cell 10
       have HB4 : Hid (Below w.heap.size w w4) := hid (HBQ.out.trans (hk4.below HBQ.out.size))
       have HRR5 := hid (box_al (hk4.box HRR4.out (by decide)) (.cells #[.int .i64 x.kind, .string x.text, .string x.value, .string x.lang, .int .u32 x.cols, .int .u32 x.rows, .int .u32 x.width, .int .u32 x.height, .slice mA ml mc, .bool x.on, .int .u32 x.code, .slice none 0 0, .bool false, .bool false] 72))
       have HXR5 := hid (box_al (hk4.box HXR4.out (by decide)) (.cells #[.int .i64 x.kind, .string x.text, .string x.value, .string x.lang, .int .u32 x.cols, .int .u32 x.rows, .int .u32 x.width, .int .u32 x.height, .slice mA ml mc, .bool x.on, .int .u32 x.code, .slice none 0 0, .bool false, .bool false] 72))
       have HXD5 := hid (box_al hx4' (.cells #[.int .i64 x.kind, .string x.text, .string x.value, .string x.lang, .int .u32 x.cols, .int .u32 x.rows, .int .u32 x.width, .int .u32 x.height, .slice mA ml mc, .bool x.on, .int .u32 x.code, .slice none 0 0, .bool false, .bool false] 72))
       have HO5 := hid (own_keep ho4 (bel1 w4 (.cells #[.int .i64 x.kind, .string x.text, .string x.value, .string x.lang, .int .u32 x.cols, .int .u32 x.rows, .int .u32 x.width, .int .u32 x.height, .slice mA ml mc, .bool x.on, .int .u32 x.code, .slice none 0 0, .bool false, .bool false] 72)))
       have HB5 : Hid (Below w.heap.size w (w4.alloc (.cells #[.int .i64 x.kind, .string x.text, .string x.value, .string x.lang, .int .u32 x.cols, .int .u32 x.rows, .int .u32 x.width, .int .u32 x.height, .slice mA ml mc, .bool x.on, .int .u32 x.code, .slice none 0 0, .bool false, .bool false] 72))) := hid (HB4.out.alloc HB4.out.size _)
       have q2 : (w4.alloc (.cells #[.int .i64 x.kind, .string x.text, .string x.value, .string x.lang, .int .u32 x.cols, .int .u32 x.rows, .int .u32 x.width, .int .u32 x.height, .slice mA ml mc, .bool x.on, .int .u32 x.code, .slice none 0 0, .bool false, .bool false] 72)).cell? ⟨w1.heap.size, 2, none⟩ = some (.func (.func k.wfn) #[] #[]) := HRR5.out.cell 2
       have HW0 : Hid (WrS (w4.alloc (.cells #[.int .i64 x.kind, .string x.text, .string x.value, .string x.lang, .int .u32 x.cols, .int .u32 x.rows, .int .u32 x.width, .int .u32 x.height, .slice mA ml mc, .bool x.on, .int .u32 x.code, .slice none 0 0, .bool false, .bool false] 72)) w.heap.size w4.heap.size x mA mc .zero) := hid (by
         have ho4' : w4.ownsRow w.heap.size 5 1 (.slice mA x.modes.length mc) x.modes.length (bv x.modes) := by rw [HML.out]; exact ho4
         have h := wr_new w4 w.heap.size x mA mc HB4.out.size (tk_own ho4')
         unfold Rq.wcells at h
         rw [HML.out] at h
         exact h)
       clear hx4 hx4' ho4 hk4)
    | ((with_reducible refine (put_any_r k w.heap.size w4.heap.size mc x mA .zero _ HOK.out HW0.out (by simp [Ws.zero])).mono ?_)
       rintro e w5 ⟨rfl, hs5, hk5⟩
       have HS5 := hid hs5
       have HXR6 := hid (hk5.box HXR5.out (by decide))
       have HXD6 := hid (hk5.box HXD5.out (by decide))
       have HO6 := hid (hk5.own HO5.out (by decide))
       have HB6 : Hid (Below w.heap.size w w5) := hid (HB5.out.trans (hk5.below HB5.out.size))
       have hx6 := HXR6.out
       have hd6 := HXD6.out
       have rc0 : w5.cell? ⟨w.heap.size, 0, none⟩ = some (.int .i64 0) := hx6.cell 0
       have rf0 : w5.frozen? ⟨w.heap.size, 0, none⟩ = false := hx6.frozen 0
       have rc1 : w5.cell? ⟨w.heap.size, 1, none⟩ = some (.string ⟨#[]⟩) := hx6.cell 1
       have rf1 : w5.frozen? ⟨w.heap.size, 1, none⟩ = false := hx6.frozen 1
       have rc2 : w5.cell? ⟨w.heap.size, 2, none⟩ = some (.string ⟨#[]⟩) := hx6.cell 2
       have rf2 : w5.frozen? ⟨w.heap.size, 2, none⟩ = false := hx6.frozen 2
       have rc3 : w5.cell? ⟨w.heap.size, 3, none⟩ = some (.string ⟨#[]⟩) := hx6.cell 3
       have rf3 : w5.frozen? ⟨w.heap.size, 3, none⟩ = false := hx6.frozen 3
       have rc4 : w5.cell? ⟨w.heap.size, 4, none⟩ = some (.int .u32 0) := hx6.cell 4
       have rf4 : w5.frozen? ⟨w.heap.size, 4, none⟩ = false := hx6.frozen 4
       have rc5 : w5.cell? ⟨w.heap.size, 5, none⟩ = some (.int .u32 0) := hx6.cell 5
       have rf5 : w5.frozen? ⟨w.heap.size, 5, none⟩ = false := hx6.frozen 5
       have rc6 : w5.cell? ⟨w.heap.size, 6, none⟩ = some (.int .u32 0) := hx6.cell 6
       have rf6 : w5.frozen? ⟨w.heap.size, 6, none⟩ = false := hx6.frozen 6
       have rc7 : w5.cell? ⟨w.heap.size, 7, none⟩ = some (.int .u32 0) := hx6.cell 7
       have rf7 : w5.frozen? ⟨w.heap.size, 7, none⟩ = false := hx6.frozen 7
       have rc8 : w5.cell? ⟨w.heap.size, 8, none⟩ = some (.slice none 0 0) := hx6.cell 8
       have rf8 : w5.frozen? ⟨w.heap.size, 8, none⟩ = false := hx6.frozen 8
       have rc9 : w5.cell? ⟨w.heap.size, 9, none⟩ = some (.bool false) := hx6.cell 9
       have rf9 : w5.frozen? ⟨w.heap.size, 9, none⟩ = false := hx6.frozen 9
       have rc10 : w5.cell? ⟨w.heap.size, 10, none⟩ = some (.int .u32 0) := hx6.cell 10
       have rf10 : w5.frozen? ⟨w.heap.size, 10, none⟩ = false := hx6.frozen 10
       have dc0 : w5.cell? ⟨w3.heap.size, 0, none⟩ = some (.int .i64 x.kind) := hd6.cell 0
       have dc1 : w5.cell? ⟨w3.heap.size, 1, none⟩ = some (.string x.text) := hd6.cell 1
       have dc2 : w5.cell? ⟨w3.heap.size, 2, none⟩ = some (.string x.value) := hd6.cell 2
       have dc3 : w5.cell? ⟨w3.heap.size, 3, none⟩ = some (.string x.lang) := hd6.cell 3
       have dc4 : w5.cell? ⟨w3.heap.size, 4, none⟩ = some (.int .u32 x.cols) := hd6.cell 4
       have dc5 : w5.cell? ⟨w3.heap.size, 5, none⟩ = some (.int .u32 x.rows) := hd6.cell 5
       have dc6 : w5.cell? ⟨w3.heap.size, 6, none⟩ = some (.int .u32 x.width) := hd6.cell 6
       have dc7 : w5.cell? ⟨w3.heap.size, 7, none⟩ = some (.int .u32 x.height) := hd6.cell 7
       have dc8 : w5.cell? ⟨w3.heap.size, 8, none⟩ = some (.slice mA ml mc) := hd6.cell 8
       have dc9 : w5.cell? ⟨w3.heap.size, 9, none⟩ = some (.bool x.on) := hd6.cell 9
       have dc10 : w5.cell? ⟨w3.heap.size, 10, none⟩ = some (.int .u32 x.code) := hd6.cell 10
       clear hs5 hk5 hx6 hd6)
    | (go_at_call 22
       ((with_reducible refine (fault_any_r w.heap.size w4.heap.size mc x mA _ _ HS5.out).mono ?_)); rintro e w7 ⟨rfl, rfl⟩
       rw [HF.out]))
  refine bodyPost_ret (v := .tuple #[.agg #[.int .i64 0, .string ⟨#[]⟩, .string ⟨#[]⟩, .string ⟨#[]⟩, .int .u32 0, .int .u32 0, .int .u32 0, .int .u32 0, .slice none 0 0, .bool false, .int .u32 0], .int .i64 fl]) (by simp [results, Tryd.results6, go_sem, rc0, rc1, rc2, rc3, rc4, rc5, rc6, rc7, rc8, rc9, rc10]) rfl ?_
  rw [HE.out]
  exact decodeQ_err _ _ _ (bel_elf HB6.out (Nat.le_refl _) _ _ _ _ _ _ _ _ _ _ _)
/-- The request that a name and what stands behind it say. -/
theorem decodeq_any (w : World) (nm : ByteArray) (A : Option Addr) (c : Nat) (bs : List UInt8) (mm : Int) (hs : nm.size ≤ maxLen) (hb : SlB w w.heap.size A c bs) (hmm : w.cell? ⟨0, 0, none⟩ = some (.int .i64 mm)) :
    Calls Tryd.prog 6 #[.string nm, .slice A bs.length c] w (DecodeQ w (decR nm bs)) := by
  cases hX : rowN nm Rw.all with
  | none => exact decodeq_none w nm A c bs mm hs hb hmm hX
  | some k =>
    obtain ⟨⟨er, fs⟩, hR⟩ : ∃ y, readF k.kinds bs = y := ⟨_, rfl⟩
    by_cases her : er = 0
    · subst her
      by_cases hfl : (k.put (k.get fs { zeroR with kind := k.kind }) .zero).fault = 0
      · exact decodeq_ok w nm A c bs mm hs hb hmm k fs _ 0 hX hR rfl hfl rfl
      · exact decodeq_bad w nm A c bs mm hs hb hmm k fs _ _ hX hR rfl rfl hfl
    · exact decodeq_rd w nm A c bs mm hs hb hmm k er fs hX hR her
end Go.Proofs.YtdplngplljejhaaDoor
