import Derived.Test.YtjncahcigbdbgabNB
namespace Go.Proofs.Ytjncahcigbdbgab
open Go.RowKit

/-! Lines: rows of bytes and a flag, as records of where the bytes lie. -/
structure Rc where
  A : Option Addr
  c : Nat
  bs : List UInt8
  e : Bool
def Rc.v (r : Rc) : List Value := [.slice r.A r.bs.length r.c, .bool r.e]
def Rc.ln (r : Rc) : List UInt8 × Bool := (r.bs, r.e)
def rcV (rs : List Rc) : List Value := (rs.map Rc.v).flatten
def lnR (rs : List Rc) : List (List UInt8 × Bool) := rs.map Rc.ln
theorem rcV_nil : rcV [] = [] := rfl
theorem rcV_append (a b : List Rc) : rcV (a ++ b) = rcV a ++ rcV b := by simp [rcV]
theorem rcV_one (r : Rc) : rcV [r] = r.v := by simp [rcV]
theorem rcV_len (rs : List Rc) : (rcV rs).length = rs.length * 2 := by
  induction rs with
  | nil => rfl
  | cons r rs ih => simp only [rcV, List.map_cons, List.flatten_cons, List.length_append, List.length_cons] at ih ⊢; rw [ih]; simp [Rc.v]; omega
theorem rcV_cell (rs : List Rc) : ∀ u ∈ rcV rs, u.oneCell' = true := by
  intro u hu
  simp only [rcV, List.mem_flatten, List.mem_map] at hu
  obtain ⟨_, ⟨r, _, rfl⟩, hu⟩ := hu
  simp only [Rc.v, List.mem_cons, List.not_mem_nil, or_false] at hu
  rcases hu with rfl | rfl <;> rfl
theorem rcV_at {rs : List Rc} : ∀ {k : Nat} {r : Rc}, rs[k]? = some r → (rcV rs)[k * 2]? = some (.slice r.A r.bs.length r.c) ∧ (rcV rs)[k * 2 + 1]? = some (.bool r.e) := by
  induction rs with
  | nil => intro k r h; simp at h
  | cons x rs ih =>
    intro k r h
    cases k with
    | zero =>
      simp at h
      subst h
      exact ⟨rfl, rfl⟩
    | succ k =>
      have h2 := ih (k := k) (r := r) (by simpa using h)
      have e : rcV (x :: rs) = .slice x.A x.bs.length x.c :: .bool x.e :: rcV rs := rfl
      rw [e, show (k + 1) * 2 = k * 2 + 1 + 1 by omega, show k * 2 + 1 + 1 + 1 = (k * 2 + 1) + 1 + 1 by omega]
      exact h2
theorem rcV_take {rs : List Rc} {k : Nat} {r : Rc} (h : rs[k]? = some r) : rs.take (k + 1) = rs.take k ++ [r] := by
  obtain ⟨hk, rfl⟩ := List.getElem?_eq_some_iff.1 h
  exact List.take_succ_eq_append_getElem hk
/-- Lines that lie in memory. -/
structure LnV (w : World) (B : Nat) (A : Option Addr) (c : Nat) (rs : List Rc) : Prop where
  len : rs.length ≤ c
  cap : c ≤ maxLen
  nil : A = none → c = 0
  lies : Lies w B A (rcV rs)
  text : ∀ r ∈ rs, SlB w B r.A r.c r.bs
theorem SlB.more {w : World} {B B' : Nat} {A : Option Addr} {c : Nat} {bs : List UInt8} (h : SlB w B A c bs) (hB : B ≤ B') : SlB w B' A c bs := ⟨h.1, h.2.1, h.2.2.1, h.2.2.2.more hB⟩
theorem LnV.below {w w' : World} {B : Nat} {A : Option Addr} {c : Nat} {rs : List Rc} (h : LnV w B A c rs) (hb : Below B w w') : LnV w' B A c rs := ⟨h.len, h.cap, h.nil, h.lies.below hb, fun r hr => (h.text r hr).below hb⟩
theorem LnV.more {w : World} {B B' : Nat} {A : Option Addr} {c : Nat} {rs : List Rc} (h : LnV w B A c rs) (hB : B ≤ B') : LnV w B' A c rs := ⟨h.len, h.cap, h.nil, h.lies.more hB, fun r hr => (h.text r hr).more hB⟩
theorem ln_up {u W : World} {A : Option Addr} {c : Nat} {rs : List Rc} (h : Hid (LnV u u.heap.size A c rs)) (hW : Below u.heap.size u W) : Hid (LnV W W.heap.size A c rs) := hid ((h.out.below hW).more hW.size)
/-- One of them. -/
theorem LnV.at {w : World} {B : Nat} {A : Option Addr} {c : Nat} {rs : List Rc} (h : LnV w B A c rs) {k : Nat} (hk : k < rs.length) : ∃ b o r, A = some ⟨b, o, none⟩ ∧ rs[k]? = some r ∧ w.cell? ⟨b, o + k * 2, none⟩ = some (.slice r.A r.bs.length r.c) ∧ w.cell? ⟨b, o + k * 2 + 1, none⟩ = some (.bool r.e) ∧ SlB w B r.A r.c r.bs := by
  obtain ⟨b, o, rfl, _, hc⟩ := h.lies (by
    intro e
    have := congrArg List.length e
    rw [rcV_len] at this
    have h0 : ([] : List Value).length = 0 := rfl
    omega)
  have hr : rs[k]? = some rs[k] := List.getElem?_eq_getElem hk
  obtain ⟨h1, h2⟩ := rcV_at hr
  exact ⟨b, o, rs[k], rfl, hr, hc _ _ h1, hc _ _ h2, h.text _ (List.getElem_mem hk)⟩
/-- Lines that a call has put together: the row is its own; the bytes lie somewhere. -/
structure LnO (w : World) (base E : Nat) (A : Option Addr) (n c : Nat) (rs : List Rc) : Prop where
  len : rs.length = n
  row : w.ownsRow base E 2 (.slice A n c) n (rcV rs)
  text : ∀ r ∈ rs, SlB w w.heap.size r.A r.c r.bs
theorem LnO.nil (w : World) (base E : Nat) : LnO w base E none 0 0 [] := ⟨rfl, World.ownsRow_nil _ _ _ _, fun r h => by cases h⟩
theorem LnO.up {w w' : World} {base E n c : Nat} {A : Option Addr} {rs : List Rc} (h : LnO w base E A n c rs) (hb : Below w.heap.size w w') : LnO w' base E A n c rs :=
  ⟨h.len, own_keep h.row hb, fun r hr => ((h.text r hr).below hb).more hb.size⟩
/-- It reads as lines. -/
theorem LnO.ln {w : World} {base E n c : Nat} {A : Option Addr} {rs : List Rc} (h : LnO w base E A n c rs) : LnV w w.heap.size A c rs := by
  have hc := own_caps h.row
  refine ⟨by rw [h.len]; exact hc.1, hc.2, ?_, Lies.own h.row, h.text⟩
  rintro rfl
  rcases h.row.2 with ⟨hv, _⟩ | ⟨g, cap, cur, hv, _⟩
  · injection hv
  · injection hv with h1
    cases h1
end Go.Proofs.Ytjncahcigbdbgab
