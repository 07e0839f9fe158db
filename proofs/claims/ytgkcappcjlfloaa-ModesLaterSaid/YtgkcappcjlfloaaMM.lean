import Derived.Test.YtgkcappcjlfloaaML
namespace Go.Proofs.Ytgkcappcjlfloaa
open Go.RowKit

/-- What the first so many bytes say. -/
def numN (bs : List UInt8) (j : Nat) : Nat := (bs.take j).foldl (fun n x => n * 256 + x.toNat) 0
theorem numN_step (bs : List UInt8) (j : Nat) (h : j < bs.length) : numN bs (j + 1) = numN bs j * 256 + bs[j].toNat := by
  unfold numN
  rw [take_snoc _ _ h, List.foldl_append]
  rfl
theorem numN_four (bs : List UInt8) (h : bs.length = 4) : numN bs 4 = num4 bs := by
  match bs, h with
  | [a, b, c, d], _ => simp [numN, num4]; omega
theorem numN_lt (bs : List UInt8) (j : Nat) (h : j ≤ 3) : numN bs j < 16777216 := by
  have : ∀ (l : List UInt8), l.length ≤ 3 → l.foldl (fun n x => n * 256 + x.toNat) 0 < 16777216 := by
    intro l hl
    match l, hl with
    | [], _ => simp
    | [a], _ => have := a.toNat_lt; simp; omega
    | [a, b], _ => have := a.toNat_lt; have := b.toNat_lt; simp; omega
    | [a, b, c], _ => have := a.toNat_lt; have := b.toNat_lt; have := c.toNat_lt; simp; omega
  exact this _ (by rw [List.length_take]; omega)
theorem or_one {x y : Nat} (hx : x < 256) (hy : y < 16777216) : bits .or .u32 ((y : Int) * 256 % 4294967296) ((x : Int) % 4294967296) = ((y * 256 + x : Nat) : Int) := by
  have w32 : ∀ n : Int, 0 ≤ n → n < 2 ^ 32 → IntKind.u32.wrap n = n := fun n h₀ h₁ => by rw [IntKind.wrap_u32']; omega
  rw [bits_join .u32 32 (by decide) w32 8 ((y : Int) * 256 % 4294967296) _ (by omega) (by omega) (by omega) (by omega) (by omega) (by omega)]
  omega
set_option maxRecDepth 100000 in
set_option maxHeartbeats 1000000 in
theorem number_any (w : World) (B c : Nat) (A : Option Addr) (bs : List UInt8) (hb : Lies w B A (bv bs)) (h : bs.length = 4) :
    Calls Try.prog 36 #[.slice A 4 c] w fun e w' => e = .returned (.int .u32 (num4 bs : Nat)) ∧ w' = w := by
  obtain ⟨bk, o, rfl, hbk, hcells⟩ := hb (by intro e; have := congrArg List.length e; simp [bv, h] at this)
  have HC := hid hcells
  clear hcells
  have hn := hid (numN_four bs h)
  go_enter Try.func36, Try.ntmps36
  go_wp2
  go_loopw [8, 3] (fun i n wr => ∃ j : Nat, j ≤ 4 ∧ i = .int .i64 (j : Int) ∧ n = .int .u32 ((numN bs j : Nat) : Int) ∧ wr = w) (fun i _ _ => (4 - intOf i).toNat)
  case atStart => exact ⟨0, by omega, rfl, rfl, rfl⟩
  case round =>
    obtain ⟨j, hj, rfl, rfl, rfl⟩ := hrel
    by_cases hlt : j < 4
    · have ck : wr.cell? ⟨bk, o + j, none⟩ = some (.int .u8 ((bs[j]'(by omega)).toNat : Int)) := HC.out j _ (by simp [bv, h, hlt])
      have hs := hid (numN_step bs j (by omega))
      have hl := hid (numN_lt bs j (by omega))
      have k1 : (0 : Int) ≤ (j : Int) ∧ (j : Int) < 4 := by omega
      have hx := hid ((bs[j]'(by omega)).toNat_lt)
      generalize (bs[j]'(by omega)).toNat = x at ck hs hx
      generalize numN bs j = y at hs hl ⊢
      go_wp2
      refine ⟨⟨j + 1, by omega, by go_num, by rw [or_one hx.out hl.out, hs.out], trivial⟩, by simp [intOf]; omega⟩
    · obtain rfl : j = 4 := by omega
      go_wp2
      go_ret
      rw [hn.out]
      exact ⟨rfl, rfl⟩
theorem results26_2 {fn : Func} {p q : Tmp} (h : fn.results = #[.cell p 26, .tmp q]) (tmps : Array Value) (w : World) (g : Nat) (t : Tm) (ht : t.c.length = 19)
    (hp : tmps.getD p undef = .pointer (some ⟨g, 0, none⟩)) (v : Value) (hq : tmps.getD q undef = v) (hb : Box w g 26 t.cs) : (results fn tmps).run Try.prog w = .ok (.tuple #[.agg t.cs, v]) w := by
  have hl := run_loadVar_row (P := Try.prog) w g 26 26 t.cs (0, 0) _ hb Try.underlying26 rfl (by rw [cs_size ht]; exact Try.size26)
  unfold results
  rw [h]
  simp only [Array.mapM_eq_mapM_toList, List.mapM_cons, List.mapM_nil, hp, hq, asAddr]
  simp [hl]
/-- What one mode says of a setting; none: the argument is outside. -/
def stepT (t : Tm) (op n : Nat) : Option Tm :=
  if op ≤ 18 then (if 255 < n then none else some { t with c := t.c.set op (UInt8.ofNat n) })
  else if op = 128 then some { t with i := n }
  else if op = 129 then some { t with o := n }
  else some (setT t op (decide (n ≠ 0)))
def wT (t : Tm) (op n : Nat) : Tm := (stepT t op n).getD Tm.zero
def wE (t : Tm) (op n : Nat) : Int := if (stepT t op n).isSome then 0 else 5
theorem step_ok {t t' : Tm} {op n : Nat} (h : t.Ok) (hn : n < 4294967296) (he : stepT t op n = some t') : t'.Ok := by
  unfold stepT at he
  split at he
  · split at he
    · cases he
    · injection he with he; subst he; exact ⟨by simp [h.len], h.f, h.i, h.o, h.m, h.s⟩
  · split at he
    · injection he with he; subst he; exact ⟨h.len, h.f, hn, h.o, h.m, h.s⟩
    · split at he
      · injection he with he; subst he; exact ⟨h.len, h.f, h.i, hn, h.m, h.s⟩
      · injection he with he; subst he; exact setT_ok h _ _
theorem wT_ok {t : Tm} (h : t.Ok) (op n : Nat) (hn : n < 4294967296) : (wT t op n).Ok := by
  unfold wT
  cases he : stepT t op n with
  | none => exact zero_ok
  | some t' => exact step_ok h hn he
theorem box_i {w : World} {g : Nat} {t : Tm} (ht : t.c.length = 19) (h : Box w g 26 t.cs) (n : Nat) : Box (w.setCell ⟨g, 20, none⟩ (.int .u32 (n : Int))) g 26 ({ t with i := n } : Tm).cs := by
  have h1 := h.store 20 (.int .u32 (n : Int))
  rwa [cs_seti ht] at h1
theorem box_o {w : World} {g : Nat} {t : Tm} (ht : t.c.length = 19) (h : Box w g 26 t.cs) (n : Nat) : Box (w.setCell ⟨g, 21, none⟩ (.int .u32 (n : Int))) g 26 ({ t with o := n } : Tm).cs := by
  have h1 := h.store 21 (.int .u32 (n : Int))
  rwa [cs_seto ht] at h1
end Go.Proofs.Ytgkcappcjlfloaa
