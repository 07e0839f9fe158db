import Derived.Test.YtdplngplljejhaaDoorQF
import Derived.Deep.WholeRow
namespace Go.Proofs.YtdplngplljejhaaDoor
open Go.RowKit

namespace Rw
def wfn : Rw → Nat
  | pty => 47 | env => 49 | shell => 51 | exec => 53 | subsystem => 55 | change => 56 | xon => 58 | signal => 55 | status => 60 | ends => 62
def rfn : Rw → Nat
  | pty => 48 | env => 50 | shell => 52 | exec => 54 | subsystem => 54 | change => 57 | xon => 59 | signal => 54 | status => 61 | ends => 63
def cells (k : Rw) : Array Value := #[.int .i64 k.kind, .string k.name, .func (.func k.wfn) #[] #[], .func (.func k.rfn) #[] #[]]
end Rw
def rowsV : Array Value := #[.int .i64 1, .string ⟨#[112, 116, 121, 45, 114, 101, 113]⟩, .func (.func 47) #[] #[], .func (.func 48) #[] #[], .int .i64 2, .string ⟨#[101, 110, 118]⟩, .func (.func 49) #[] #[], .func (.func 50) #[] #[], .int .i64 3, .string ⟨#[115, 104, 101, 108, 108]⟩, .func (.func 51) #[] #[], .func (.func 52) #[] #[], .int .i64 4, .string ⟨#[101, 120, 101, 99]⟩, .func (.func 53) #[] #[], .func (.func 54) #[] #[], .int .i64 5, .string ⟨#[115, 117, 98, 115, 121, 115, 116, 101, 109]⟩, .func (.func 55) #[] #[], .func (.func 54) #[] #[], .int .i64 6, .string ⟨#[119, 105, 110, 100, 111, 119, 45, 99, 104, 97, 110, 103, 101]⟩, .func (.func 56) #[] #[], .func (.func 57) #[] #[], .int .i64 7, .string ⟨#[120, 111, 110, 45, 120, 111, 102, 102]⟩, .func (.func 58) #[] #[], .func (.func 59) #[] #[], .int .i64 8, .string ⟨#[115, 105, 103, 110, 97, 108]⟩, .func (.func 55) #[] #[], .func (.func 54) #[] #[], .int .i64 9, .string ⟨#[101, 120, 105, 116, 45, 115, 116, 97, 116, 117, 115]⟩, .func (.func 60) #[] #[], .func (.func 61) #[] #[], .int .i64 10, .string ⟨#[101, 120, 105, 116, 45, 115, 105, 103, 110, 97, 108]⟩, .func (.func 62) #[] #[], .func (.func 63) #[] #[]]
def rowsZ : Array Value := #[.int .i64 0, .string ⟨#[]⟩, .nilFunc, .nilFunc, .int .i64 0, .string ⟨#[]⟩, .nilFunc, .nilFunc, .int .i64 0, .string ⟨#[]⟩, .nilFunc, .nilFunc, .int .i64 0, .string ⟨#[]⟩, .nilFunc, .nilFunc, .int .i64 0, .string ⟨#[]⟩, .nilFunc, .nilFunc, .int .i64 0, .string ⟨#[]⟩, .nilFunc, .nilFunc, .int .i64 0, .string ⟨#[]⟩, .nilFunc, .nilFunc, .int .i64 0, .string ⟨#[]⟩, .nilFunc, .nilFunc, .int .i64 0, .string ⟨#[]⟩, .nilFunc, .nilFunc, .int .i64 0, .string ⟨#[]⟩, .nilFunc, .nilFunc]
theorem info110 : (Tryd.prog.info? 107).map (fun i => (i.zero, i.size)) = some (some (.agg rowsZ), 40) := by kernel_rfl
theorem wpList_build_at {P : Program} {ops : Array Oper} {rest : List Oper} {o : Oper} {a : Act} {w : World} {Q : Exit → Act → World → Prop} (hg : o.guard = none) (t : TypeId) (parts : Array (Nat × Operand)) (ho : o.op = .build t parts) (cells : Array Value)
    (hc : P.built t (parts.map fun (i, x) => (i, a.eval x)).toList = some cells) (h : wpList P ops Q rest (a.put o.dst (.agg cells)) w) : wpList P ops Q (o :: rest) a w := by
  refine wpList_build hg t parts ho (by rw [hc]; rfl) ?_
  rw [hc]
  exact h
theorem results_cell1 {P : Program} {fn : Func} {tmps : Array Value} {t : TypeId} {k : Nat} {w : World} {v : Value} {p : Addr} (hr : fn.results = #[.cell k t]) (ha : tmps.getD k undef = .pointer (some p)) (hl : (loadVar t p).run P w = .ok v w) :
    (results fn tmps).run P w = .ok v w := by
  unfold results
  rw [hr]
  simp only [Array.mapM_eq_mapM_toList, List.mapM_cons, List.mapM_nil, ha, asAddr]
  simp [hl]
set_option maxHeartbeats 1000000 in
set_option maxRecDepth 100000 in
theorem rows10_any (w : World) :
    Calls Tryd.prog 34 #[] w fun e w' => e = .returned (.agg rowsV) ∧ Below w.heap.size w w' := by
  obtain ⟨hz, hi⟩ := zero_of_info info110
  have HI := hid hi
  have HL := hid (run_loadVar_new (P := Tryd.prog) w 107 rowsV 10 60 (by kernel_rfl) hi)
  clear hi
  go_enter Tryd.func34, Tryd.ntmps34
  go_wp2_with (first
    | (refine wpList_build_at rfl 107 _ rfl rowsV ?hc ?_; case hc => kernel_rfl)
    | (refine wpList_store_row rfl 107 _ _ rfl w.heap.size rowsV rfl rfl 107 rowsZ (heap_alloc_last _ _) HI.out (by kernel_rfl) (by kernel_rfl) ?_
       rw [World.setRow_alloc_new]))
  refine bodyPost_ret (v := .agg rowsV) ?_ rfl ⟨rfl, (Below.refl _ _).alloc (Nat.le_refl _) _⟩
  exact results_cell1 (k := 0) (p := ⟨w.heap.size, 0, none⟩) Tryd.results34 rfl HL.out
end Go.Proofs.YtdplngplljejhaaDoor
