import Derived.Test.YtdplngplljejhaaDoorQL
import Derived.Test.YtdplngplljejhaaDoorMF
namespace Go.Proofs.YtdplngplljejhaaDoor
open Go.RowKit

/-- A request's name, and what stands behind it. -/
def encR (r : Rq) : Int × ByteArray × List UInt8 :=
  match rowK r.kind Rw.all with
  | none => (8, ⟨#[]⟩, [])
  | some k => if (k.put r .zero).fault = 0 then (0, k.name, (writeF (k.put r .zero).fs).2) else ((k.put r .zero).fault, ⟨#[]⟩, [])
/-- The request that a name and what stands behind it say. -/
def decR (s : ByteArray) (b : List UInt8) : Int × Rq :=
  match rowN s Rw.all with
  | none => (8, zeroR)
  | some k => if (readF k.kinds b).1 = 0 then
      (if (k.put (k.get (readF k.kinds b).2 { zeroR with kind := k.kind }) .zero).fault = 0 then (0, k.get (readF k.kinds b).2 { zeroR with kind := k.kind })
       else ((k.put (k.get (readF k.kinds b).2 { zeroR with kind := k.kind }) .zero).fault, zeroR))
    else ((readF k.kinds b).1, zeroR)

def EncodeQ (w : World) (x : Int × ByteArray × List UInt8) (e : Ending) (w' : World) : Prop :=
  ∃ A c, e = .returned (.tuple #[.string x.2.1, .slice A x.2.2.length c, .int .i64 x.1]) ∧ w'.ownsRow w.heap.size 5 1 (.slice A x.2.2.length c) x.2.2.length (bv x.2.2) ∧ Below w.heap.size w w'
theorem encodeQ_err (w w' : World) (er : Int) (h : Below w.heap.size w w') : EncodeQ w (er, ⟨#[]⟩, []) (.returned (.tuple #[.string ⟨#[]⟩, .slice none 0 0, .int .i64 er])) w' :=
  ⟨none, 0, rfl, World.ownsRow_nil _ _ _ _, h⟩
theorem wf_mk {k : Int} {n : Nat} {t : List UInt8} (hk : 0 ≤ k ∧ k ≤ 10) (hn : n < 4294967296) : Wf ⟨k, n, t, []⟩ := ⟨hn, ⟨by show _ ≤ k; omega, by show k ≤ _; omega⟩, by simp⟩
theorem put_wf (k : Rw) {r : Rq} (h : r.Ok) : ∀ f ∈ (k.put r .zero).fs, Wf f := by
  have e4 : ∀ t, Wf ⟨4, 0, t, []⟩ := fun t => wf_mk (by omega) (by omega)
  have e3 : ∀ n, n < 4294967296 → Wf ⟨3, n, [], []⟩ := fun n hn => wf_mk (by omega) hn
  have e2 : Wf ⟨2, if r.on then 1 else 0, [], []⟩ := wf_mk (by omega) (by split <;> omega)
  intro f hf
  cases k <;> simp [Rw.put, Ws.wrd, Ws.txt, Ws.num, Ws.flg, Ws.eqs, Ws.size, Ws.zero] at hf
  · rcases hf with rfl | rfl | rfl | rfl | rfl | rfl
    · exact e4 _
    · exact e3 _ h.cols
    · exact e3 _ h.rows
    · exact e3 _ h.width
    · exact e3 _ h.height
    · exact e4 _
  · rcases hf with rfl | rfl <;> exact e4 _
  · subst hf; exact e4 _
  · subst hf; exact e4 _
  · rcases hf with rfl | rfl | rfl | rfl
    · exact e3 _ h.cols
    · exact e3 _ h.rows
    · exact e3 _ h.width
    · exact e3 _ h.height
  · subst hf; exact e2
  · subst hf; exact e4 _
  · subst hf; exact e3 _ h.code
  · rcases hf with rfl | rfl | rfl | rfl
    · exact e4 _
    · exact e2
    · exact e4 _
    · exact e4 _
theorem put_len (k : Rw) (r : Rq) : (k.put r .zero).fs.length ≤ 6 := by
  have h := kinds_len k
  rw [← put_kinds_any k r, List.length_map] at h
  exact h
theorem kind_bd (k : Rw) : 1 ≤ k.kind ∧ k.kind ≤ 10 := by cases k <;> simp [Rw.kind]

set_option maxHeartbeats 2000000 in
set_option maxRecDepth 100000 in
theorem encodeq_any (w : World) (r : Rq) (A : Option Addr) (c : Nat) (hr : r.Ok) (hd : TK w w.heap.size A c r.modes) :
    Calls Tryd.prog 18 #[.agg (r.cells A c)] w (EncodeQ w (encR r)) := by
  have h1 : ∀ (w : World) (a : Addr) (m : Mode) (f : Fn) (xs ys : Array Value), (store a (.func f xs ys) m).run Tryd.prog w = stored Tryd.prog w a (.func f xs ys) m := fun w a m f xs ys => run_store Tryd.prog w a _ m rfl
  have h2 : ∀ (w : World) (a : Addr) (m : Mode), (store a .nilFunc m).run Tryd.prog w = stored Tryd.prog w a .nilFunc m := fun w a m => run_store Tryd.prog w a _ m rfl
  have hk1 := hr.kind.1
  have hk2 := hr.kind.2
  have HR := hid hr
  have HD := hid hd
  clear hr hd
  obtain ⟨x, HX⟩ : ∃ x, Hid (rowK r.kind Rw.all = x) := ⟨_, hid rfl⟩
  unfold Rq.cells
  cases x with
  | none =>
    have HE : Hid (encR r = (8, ⟨#[]⟩, [])) := by show _ = _; rw [encR, HX.out]
    go_enter Tryd.func18, Tryd.ntmps18
    go_wp2_with (go_at_call 33; refine (rowOf_any r.kind _ hk1 hk2).mono ?_; rw [HX.out]; rintro e w1 ⟨hb, rfl⟩)
    go_ret3
    rw [HE.out]
    exact encodeQ_err _ _ _ (((bel1 w _).trans (hb.mono (by simp))).alloc (by have := hb.size; simp at this; omega) _)
  | some k =>
    obtain ⟨fl, HFL⟩ : ∃ x, Hid ((k.put r .zero).fault = x) := ⟨_, hid rfl⟩
    obtain ⟨ml, HML⟩ : ∃ x, Hid (r.modes.length = x) := ⟨_, hid rfl⟩
    have e1 := run_wfn k
    rw [HML.out]
    by_cases hfl : fl = 0
    · subst hfl
      have HE : Hid (encR r = (0, k.name, (writeF (k.put r .zero).fs).2)) := by show _ = _; rw [encR, HX.out]; simp [HFL.out]
      obtain ⟨fs, HFS⟩ : ∃ x, Hid ((k.put r .zero).fs = x) := ⟨_, hid rfl⟩
      obtain ⟨n, HN⟩ : ∃ x, Hid (fs.length = x) := ⟨_, hid rfl⟩
      obtain ⟨wl, HWL⟩ : ∃ x, Hid ((writeF fs).2.length = x) := ⟨_, hid rfl⟩
      go_enter Tryd.func18, Tryd.ntmps18
      go_wp2_with (first
        | (go_at_call 33
           refine (rowOf_any r.kind _ hk1 hk2).mono ?_
           rw [HX.out]
           rintro e w1 ⟨hb, rfl⟩
           have hx : Box w1 w.heap.size 28 #[.int .i64 r.kind, .string r.text, .string r.value, .string r.lang, .int .u32 r.cols, .int .u32 r.rows, .int .u32 r.width, .int .u32 r.height, .slice A ml c, .bool r.on, .int .u32 r.code] := (Box.new w 28 _).same (hb.block _ (by simp))
           have b0 : w1.cell? ⟨w.heap.size, 0, none⟩ = some (.int .i64 r.kind) := hx.cell 0
           have b0a : ∀ o, (w1.alloc o).cell? ⟨w.heap.size, 0, none⟩ = some (.int .i64 r.kind) := fun o => (box_al hx o).cell 0
           have b1 : w1.cell? ⟨w.heap.size, 1, none⟩ = some (.string r.text) := hx.cell 1
           have b1a : ∀ o, (w1.alloc o).cell? ⟨w.heap.size, 1, none⟩ = some (.string r.text) := fun o => (box_al hx o).cell 1
           have b2 : w1.cell? ⟨w.heap.size, 2, none⟩ = some (.string r.value) := hx.cell 2
           have b2a : ∀ o, (w1.alloc o).cell? ⟨w.heap.size, 2, none⟩ = some (.string r.value) := fun o => (box_al hx o).cell 2
           have b3 : w1.cell? ⟨w.heap.size, 3, none⟩ = some (.string r.lang) := hx.cell 3
           have b3a : ∀ o, (w1.alloc o).cell? ⟨w.heap.size, 3, none⟩ = some (.string r.lang) := fun o => (box_al hx o).cell 3
           have b4 : w1.cell? ⟨w.heap.size, 4, none⟩ = some (.int .u32 r.cols) := hx.cell 4
           have b4a : ∀ o, (w1.alloc o).cell? ⟨w.heap.size, 4, none⟩ = some (.int .u32 r.cols) := fun o => (box_al hx o).cell 4
           have b5 : w1.cell? ⟨w.heap.size, 5, none⟩ = some (.int .u32 r.rows) := hx.cell 5
           have b5a : ∀ o, (w1.alloc o).cell? ⟨w.heap.size, 5, none⟩ = some (.int .u32 r.rows) := fun o => (box_al hx o).cell 5
           have b6 : w1.cell? ⟨w.heap.size, 6, none⟩ = some (.int .u32 r.width) := hx.cell 6
           have b6a : ∀ o, (w1.alloc o).cell? ⟨w.heap.size, 6, none⟩ = some (.int .u32 r.width) := fun o => (box_al hx o).cell 6
           have b7 : w1.cell? ⟨w.heap.size, 7, none⟩ = some (.int .u32 r.height) := hx.cell 7
           have b7a : ∀ o, (w1.alloc o).cell? ⟨w.heap.size, 7, none⟩ = some (.int .u32 r.height) := fun o => (box_al hx o).cell 7
           have b8 : w1.cell? ⟨w.heap.size, 8, none⟩ = some (.slice A ml c) := hx.cell 8
           have b8a : ∀ o, (w1.alloc o).cell? ⟨w.heap.size, 8, none⟩ = some (.slice A ml c) := fun o => (box_al hx o).cell 8
           have b9 : w1.cell? ⟨w.heap.size, 9, none⟩ = some (.bool r.on) := hx.cell 9
           have b9a : ∀ o, (w1.alloc o).cell? ⟨w.heap.size, 9, none⟩ = some (.bool r.on) := fun o => (box_al hx o).cell 9
           have b10 : w1.cell? ⟨w.heap.size, 10, none⟩ = some (.int .u32 r.code) := hx.cell 10
           have b10a : ∀ o, (w1.alloc o).cell? ⟨w.heap.size, 10, none⟩ = some (.int .u32 r.code) := fun o => (box_al hx o).cell 10
           have HB1 : Hid (Below w.heap.size w w1) := hid ((bel1 w _).trans (hb.mono (by simp)))
           have HBA : Hid (Below w.heap.size w ((w1.alloc (.cells #[.int .i64 k.kind, .string k.name, .func (.func k.wfn) #[] #[], .func (.func k.rfn) #[] #[]] 60)).alloc (.cells #[.int .i64 r.kind, .string r.text, .string r.value, .string r.lang, .int .u32 r.cols, .int .u32 r.rows, .int .u32 r.width, .int .u32 r.height, .slice A ml c, .bool r.on, .int .u32 r.code, .slice none 0 0, .bool false, .bool false] 72))) := hid ((HB1.out.alloc HB1.out.size _).alloc (by have := HB1.out.size; simp; omega) _)
           have HRB : Hid (Box ((w1.alloc (.cells #[.int .i64 k.kind, .string k.name, .func (.func k.wfn) #[] #[], .func (.func k.rfn) #[] #[]] 60)).alloc (.cells #[.int .i64 r.kind, .string r.text, .string r.value, .string r.lang, .int .u32 r.cols, .int .u32 r.rows, .int .u32 r.width, .int .u32 r.height, .slice A ml c, .bool r.on, .int .u32 r.code, .slice none 0 0, .bool false, .bool false] 72)) w1.heap.size 60 #[.int .i64 k.kind, .string k.name, .func (.func k.wfn) #[] #[], .func (.func k.rfn) #[] #[]]) := hid (box_al (Box.new w1 60 _) _)
           have HW0 : Hid (WrS ((w1.alloc (.cells #[.int .i64 k.kind, .string k.name, .func (.func k.wfn) #[] #[], .func (.func k.rfn) #[] #[]] 60)).alloc (.cells #[.int .i64 r.kind, .string r.text, .string r.value, .string r.lang, .int .u32 r.cols, .int .u32 r.rows, .int .u32 r.width, .int .u32 r.height, .slice A ml c, .bool r.on, .int .u32 r.code, .slice none 0 0, .bool false, .bool false] 72)) w.heap.size (w1.heap.size + 1) r A c .zero) := hid (by
             have e : (w1.alloc (.cells #[.int .i64 k.kind, .string k.name, .func (.func k.wfn) #[] #[], .func (.func k.rfn) #[] #[]] 60)).heap.size = w1.heap.size + 1 := by simp
             have h := wr_new (w1.alloc (.cells #[.int .i64 k.kind, .string k.name, .func (.func k.wfn) #[] #[], .func (.func k.rfn) #[] #[]] 60)) w.heap.size r A c (by have := HB1.out.size; omega) ((HD.out.below HB1.out).below (bel1 w1 _))
             rw [e] at h
             have h2 := HML.out
             unfold Rq.wcells at h
             rw [h2] at h
             exact h)
           clear hx hb)
        | ((with_reducible refine (put_any_r k w.heap.size (w1.heap.size + 1) c r A .zero _ HR.out HW0.out (by simp [Ws.zero])).mono ?_)
           rintro e w2 ⟨rfl, hs2, hk2'⟩
           have HS2 := hid hs2
           have HK2 := hid hk2'
           have r1 : w2.cell? ⟨w1.heap.size, 1, none⟩ = some (.string k.name) := (HK2.out.box HRB.out (by decide)).cell 1
           have HB2 : Hid (Below w.heap.size w w2) := hid (HBA.out.trans (HK2.out.below HBA.out.size))
           clear hs2 hk2')
        | (go_at_call 22
           ((with_reducible refine (fault_any_r w.heap.size (w1.heap.size + 1) c r A _ _ HS2.out).mono ?_)); rintro e w3 ⟨rfl, rfl⟩
           rw [HFL.out]
           obtain ⟨_, _, fA, fc, cs, hx, ho, hf⟩ := HS2.out
           rw [HFS.out] at hx ho hf
           rw [HN.out] at hx ho
           have c11 : w2.cell? ⟨w1.heap.size + 1, 11, none⟩ = some (.slice fA n fc) := hx.cell 11
           have HFV := hid (flatK_fds HN.out ho hf (by rw [← HFS.out]; exact put_wf k HR.out))
           have HCAP := hid (own_caps ho)
           clear hx ho hf)
        | (go_at_call 27
           (with_reducible refine (write_n _ fA fc n fs HN.out HFV.out HCAP.out.1 HCAP.out.2).mono ?_)
           rintro e w4 ⟨A4, c4, rfl, ho4, hb4⟩
           rw [HWL.out]
           have HO4 := hid ho4
           have r4 : w4.cell? ⟨w1.heap.size, 1, none⟩ = some (.string k.name) := (hb4.cell (p := ⟨w1.heap.size, 1, none⟩) (by have := HK2.out.size; simp at this; show w1.heap.size < _; omega)).trans r1
           have HB4 := hid hb4
           clear ho4 hb4))
      go_ret3
      rw [HE.out, HFS.out]
      refine ⟨A4, c4, by rw [HWL.out]; rfl, ?_, HB2.out.trans (HB4.out.mono HB2.out.size)⟩
      have h := own_mono HO4.out HB2.out.size
      first | exact h | (rw [HWL.out]; exact h)
    · have hne : (fl == 0) = false := by simpa using hfl
      have HE : Hid (encR r = (fl, ⟨#[]⟩, [])) := by show _ = _; rw [encR, HX.out]; simp [HFL.out, hfl]
      clear hfl
      go_enter Tryd.func18, Tryd.ntmps18
      go_wp2_with (first
        | (go_at_call 33
           refine (rowOf_any r.kind _ hk1 hk2).mono ?_
           rw [HX.out]
           rintro e w1 ⟨hb, rfl⟩
           have hx : Box w1 w.heap.size 28 #[.int .i64 r.kind, .string r.text, .string r.value, .string r.lang, .int .u32 r.cols, .int .u32 r.rows, .int .u32 r.width, .int .u32 r.height, .slice A ml c, .bool r.on, .int .u32 r.code] := (Box.new w 28 _).same (hb.block _ (by simp))
           have b0 : w1.cell? ⟨w.heap.size, 0, none⟩ = some (.int .i64 r.kind) := hx.cell 0
           have b0a : ∀ o, (w1.alloc o).cell? ⟨w.heap.size, 0, none⟩ = some (.int .i64 r.kind) := fun o => (box_al hx o).cell 0
           have b1 : w1.cell? ⟨w.heap.size, 1, none⟩ = some (.string r.text) := hx.cell 1
           have b1a : ∀ o, (w1.alloc o).cell? ⟨w.heap.size, 1, none⟩ = some (.string r.text) := fun o => (box_al hx o).cell 1
           have b2 : w1.cell? ⟨w.heap.size, 2, none⟩ = some (.string r.value) := hx.cell 2
           have b2a : ∀ o, (w1.alloc o).cell? ⟨w.heap.size, 2, none⟩ = some (.string r.value) := fun o => (box_al hx o).cell 2
           have b3 : w1.cell? ⟨w.heap.size, 3, none⟩ = some (.string r.lang) := hx.cell 3
           have b3a : ∀ o, (w1.alloc o).cell? ⟨w.heap.size, 3, none⟩ = some (.string r.lang) := fun o => (box_al hx o).cell 3
           have b4 : w1.cell? ⟨w.heap.size, 4, none⟩ = some (.int .u32 r.cols) := hx.cell 4
           have b4a : ∀ o, (w1.alloc o).cell? ⟨w.heap.size, 4, none⟩ = some (.int .u32 r.cols) := fun o => (box_al hx o).cell 4
           have b5 : w1.cell? ⟨w.heap.size, 5, none⟩ = some (.int .u32 r.rows) := hx.cell 5
           have b5a : ∀ o, (w1.alloc o).cell? ⟨w.heap.size, 5, none⟩ = some (.int .u32 r.rows) := fun o => (box_al hx o).cell 5
           have b6 : w1.cell? ⟨w.heap.size, 6, none⟩ = some (.int .u32 r.width) := hx.cell 6
           have b6a : ∀ o, (w1.alloc o).cell? ⟨w.heap.size, 6, none⟩ = some (.int .u32 r.width) := fun o => (box_al hx o).cell 6
           have b7 : w1.cell? ⟨w.heap.size, 7, none⟩ = some (.int .u32 r.height) := hx.cell 7
           have b7a : ∀ o, (w1.alloc o).cell? ⟨w.heap.size, 7, none⟩ = some (.int .u32 r.height) := fun o => (box_al hx o).cell 7
           have b8 : w1.cell? ⟨w.heap.size, 8, none⟩ = some (.slice A ml c) := hx.cell 8
           have b8a : ∀ o, (w1.alloc o).cell? ⟨w.heap.size, 8, none⟩ = some (.slice A ml c) := fun o => (box_al hx o).cell 8
           have b9 : w1.cell? ⟨w.heap.size, 9, none⟩ = some (.bool r.on) := hx.cell 9
           have b9a : ∀ o, (w1.alloc o).cell? ⟨w.heap.size, 9, none⟩ = some (.bool r.on) := fun o => (box_al hx o).cell 9
           have b10 : w1.cell? ⟨w.heap.size, 10, none⟩ = some (.int .u32 r.code) := hx.cell 10
           have b10a : ∀ o, (w1.alloc o).cell? ⟨w.heap.size, 10, none⟩ = some (.int .u32 r.code) := fun o => (box_al hx o).cell 10
           have HB1 : Hid (Below w.heap.size w w1) := hid ((bel1 w _).trans (hb.mono (by simp)))
           have HBA : Hid (Below w.heap.size w ((w1.alloc (.cells #[.int .i64 k.kind, .string k.name, .func (.func k.wfn) #[] #[], .func (.func k.rfn) #[] #[]] 60)).alloc (.cells #[.int .i64 r.kind, .string r.text, .string r.value, .string r.lang, .int .u32 r.cols, .int .u32 r.rows, .int .u32 r.width, .int .u32 r.height, .slice A ml c, .bool r.on, .int .u32 r.code, .slice none 0 0, .bool false, .bool false] 72))) := hid ((HB1.out.alloc HB1.out.size _).alloc (by have := HB1.out.size; simp; omega) _)
           have HRB : Hid (Box ((w1.alloc (.cells #[.int .i64 k.kind, .string k.name, .func (.func k.wfn) #[] #[], .func (.func k.rfn) #[] #[]] 60)).alloc (.cells #[.int .i64 r.kind, .string r.text, .string r.value, .string r.lang, .int .u32 r.cols, .int .u32 r.rows, .int .u32 r.width, .int .u32 r.height, .slice A ml c, .bool r.on, .int .u32 r.code, .slice none 0 0, .bool false, .bool false] 72)) w1.heap.size 60 #[.int .i64 k.kind, .string k.name, .func (.func k.wfn) #[] #[], .func (.func k.rfn) #[] #[]]) := hid (box_al (Box.new w1 60 _) _)
           have HW0 : Hid (WrS ((w1.alloc (.cells #[.int .i64 k.kind, .string k.name, .func (.func k.wfn) #[] #[], .func (.func k.rfn) #[] #[]] 60)).alloc (.cells #[.int .i64 r.kind, .string r.text, .string r.value, .string r.lang, .int .u32 r.cols, .int .u32 r.rows, .int .u32 r.width, .int .u32 r.height, .slice A ml c, .bool r.on, .int .u32 r.code, .slice none 0 0, .bool false, .bool false] 72)) w.heap.size (w1.heap.size + 1) r A c .zero) := hid (by
             have e : (w1.alloc (.cells #[.int .i64 k.kind, .string k.name, .func (.func k.wfn) #[] #[], .func (.func k.rfn) #[] #[]] 60)).heap.size = w1.heap.size + 1 := by simp
             have h := wr_new (w1.alloc (.cells #[.int .i64 k.kind, .string k.name, .func (.func k.wfn) #[] #[], .func (.func k.rfn) #[] #[]] 60)) w.heap.size r A c (by have := HB1.out.size; omega) ((HD.out.below HB1.out).below (bel1 w1 _))
             rw [e] at h
             have h2 := HML.out
             unfold Rq.wcells at h
             rw [h2] at h
             exact h)
           clear hx hb)
        | ((with_reducible refine (put_any_r k w.heap.size (w1.heap.size + 1) c r A .zero _ HR.out HW0.out (by simp [Ws.zero])).mono ?_)
           rintro e w2 ⟨rfl, hs2, hk2'⟩
           have HS2 := hid hs2
           have HB2 : Hid (Below w.heap.size w w2) := hid (HBA.out.trans (hk2'.below HBA.out.size))
           clear hs2 hk2')
        | (go_at_call 22
           ((with_reducible refine (fault_any_r w.heap.size (w1.heap.size + 1) c r A _ _ HS2.out).mono ?_)); rintro e w3 ⟨rfl, rfl⟩
           rw [HFL.out]))
      go_ret3
      rw [HE.out]
      exact encodeQ_err _ _ _ HB2.out
end Go.Proofs.YtdplngplljejhaaDoor
