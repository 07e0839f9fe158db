import Derived.Test.YtdplngplljejhaaDoorWD
import Derived.StillTailTactics
namespace Go.Proofs.YtdplngplljejhaaDoor
open Go.RowKit

def kindB (k : Int) (p n : Nat) : Bool := decide (1 ≤ k) && decide (k ≤ 6) && (decide (k ≠ 6) || decide (p + 1 = n))

set_option maxHeartbeats 400000 in
set_option maxRecDepth 100000 in
theorem mayStand_any (k : Int) (p n : Nat) (hp : p < n) (hn : n ≤ maxLen) (w : World) :
    Calls Tryd.prog 35 #[.int .i64 k, .int .i64 p, .int .i64 n] w fun e w' => e = .returned (.bool (kindB k p n)) ∧ w = w' := by
  unfold maxLen at hn
  have h1 : (1 : Int) ≤ n := by omega
  go_enter Tryd.func35, Tryd.ntmps35
  go_wp2
  all_goals go_ret
  · refine ⟨ret_bool ?_, rfl⟩; simp [kindB]; omega
  · refine ⟨ret_bool ?_, rfl⟩
    simp only [kindB]
    by_cases h : p + 1 = n
    · have e : ((p : Int) == (n : Int) - 1) = true := by simp; omega
      rw [e]; simp [h]; omega
    · have e : ((p : Int) == (n : Int) - 1) = false := by simp; omega
      rw [e]; simp [h]; intros; assumption
  · refine ⟨ret_bool ?_, rfl⟩; simp [kindB]; omega
  · refine ⟨ret_bool ?_, rfl⟩; simp [kindB]; omega

theorem run_store_func (P : Program) (w : World) (a : Addr) (m : Mode) (f : Fn) (xs ys : Array Value) : (store a (.func f xs ys) m).run P w = stored P w a (.func f xs ys) m := run_store P w a _ m rfl
theorem run_store_nilFunc (P : Program) (w : World) (a : Addr) (m : Mode) : (store a .nilFunc m).run P w = stored P w a .nilFunc m := run_store P w a _ m rfl
def waysV : Array Value := #[.nilFunc, .func (.func 72) #[] #[], .func (.func 73) #[] #[], .func (.func 74) #[] #[], .func (.func 75) #[] #[], .func (.func 76) #[] #[], .func (.func 77) #[] #[]]

set_option maxHeartbeats 400000 in
set_option maxRecDepth 100000 in
theorem writers_any (w : World) :
    Calls Tryd.prog 44 #[] w fun e w' => e = .returned (.agg waysV) ∧ Below w.heap.size w w' := by
  have h1 := run_store_func Tryd.prog
  have h2 := run_store_nilFunc Tryd.prog
  go_enter Tryd.func44, Tryd.ntmps44
  go_wp2
  exact bodyPost_ret (v := .agg waysV) (by simp [results, Tryd.results44, go_sem, waysV]) rfl ⟨rfl, (Below.refl _ _).alloc (Nat.le_refl _) _⟩

/-- A slice of fields. -/
def FdsV (w : World) (B : Nat) (A : Option Addr) (l : List Fd) : Prop :=
  l ≠ [] → ∃ b o, A = some ⟨b, o, none⟩ ∧ b < B ∧ ∀ k (h : k < l.length), ∃ tA tc lA lc, FdV w B (.agg #[.int .i64 l[k].kind, .int .u32 l[k].n, .slice tA l[k].text.length tc, .slice lA l[k].list.length lc]) l[k] ∧
    w.cell? ⟨b, o + k * 4, none⟩ = some (.int .i64 l[k].kind) ∧ w.cell? ⟨b, o + k * 4 + 1, none⟩ = some (.int .u32 l[k].n) ∧
    w.cell? ⟨b, o + k * 4 + 2, none⟩ = some (.slice tA l[k].text.length tc) ∧ w.cell? ⟨b, o + k * 4 + 3, none⟩ = some (.slice lA l[k].list.length lc)

theorem FdsV.below {w w' : World} {B : Nat} {A : Option Addr} {l : List Fd} (h : FdsV w B A l) (hb : Below B w w') : FdsV w' B A l := fun hn => by
  obtain ⟨b, o, e, hlt, hk⟩ := h hn
  refine ⟨b, o, e, hlt, fun k hkl => ?_⟩
  obtain ⟨tA, tc, lA, lc, h0, h1, h2, h3, h4⟩ := hk k hkl
  exact ⟨tA, tc, lA, lc, h0.keep hb, (hb.cell (p := ⟨b, _, none⟩) hlt).trans h1, (hb.cell (p := ⟨b, _, none⟩) hlt).trans h2, (hb.cell (p := ⟨b, _, none⟩) hlt).trans h3, (hb.cell (p := ⟨b, _, none⟩) hlt).trans h4⟩

theorem region_tail {P : Program} {id : Nat} {Q : Exit → Act → World → Prop} {a : Act} {w : World} {l : List Oper} (n : Nat) (hm : P.follows .mixedOrders = true) (hB : Region.lexTailB .any l.toArray n = true)
    (h : wpStill P l.toArray w.drew (fun a' => wpList P l.toArray Q (l.drop n) a' w.drew) (l.take n) a) : (Code.region id l.toArray true).wp P Q a w := wp_region_still_tail n hm hB h

def kindsB : List Fd → Bool
  | [] => true
  | f :: r => decide (1 ≤ f.kind) && decide (f.kind ≤ 6) && (decide (f.kind ≠ 6) || r.isEmpty) && kindsB r

theorem kindsB_iff (l : List Fd) : kindsB l = true ↔ ∀ k (h : k < l.length), kindB l[k].kind k l.length = true := by
  induction l with
  | nil => simp [kindsB]
  | cons f r ih =>
    rw [kindsB, Bool.and_eq_true, ih]
    constructor
    · rintro ⟨h0, hr⟩ k hk
      cases k with
      | zero =>
        simp only [List.getElem_cons_zero, kindB, Bool.and_eq_true, Bool.or_eq_true, decide_eq_true_eq, List.isEmpty_iff] at h0 ⊢
        refine ⟨h0.1, h0.2.imp id fun h => ?_⟩
        subst h; simp
      | succ k =>
        have := hr k (by simpa using hk)
        simp only [List.getElem_cons_succ, kindB, List.length_cons, Bool.and_eq_true, Bool.or_eq_true, decide_eq_true_eq] at this ⊢
        exact ⟨this.1, this.2.imp id (by omega)⟩
    · intro h
      refine ⟨?_, fun k hk => ?_⟩
      · have := h 0 (by simp)
        simp only [List.getElem_cons_zero, kindB, Bool.and_eq_true, Bool.or_eq_true, decide_eq_true_eq, List.isEmpty_iff, List.length_cons] at this ⊢
        refine ⟨this.1, this.2.imp id fun h => ?_⟩
        exact List.eq_nil_of_length_eq_zero (by omega)
      · have := h (k + 1) (by simpa using hk)
        simp only [List.getElem_cons_succ, kindB, List.length_cons, Bool.and_eq_true, Bool.or_eq_true, decide_eq_true_eq] at this ⊢
        exact ⟨this.1, this.2.imp id (by omega)⟩

def fault (f : Fd) : Int :=
  if f.kind = 1 then (if 255 < f.n then 5 else 0) else if f.kind = 2 then (if 1 < f.n then 5 else 0) else if f.kind = 3 then 0
  else if f.kind = 4 then (if 32768 < f.text.length then 6 else 0) else if f.kind = 5 then namesE f.list else (if 33792 < f.text.length then 6 else 0)
def enc (f : Fd) : List UInt8 :=
  if f.kind = 1 then [UInt8.ofNat f.n] else if f.kind = 2 then [UInt8.ofNat f.n] else if f.kind = 3 then four f.n
  else if f.kind = 4 then four f.text.length ++ f.text else if f.kind = 5 then four (joined f.list).length ++ joined f.list else f.text
def wrF (acc : List UInt8) : List Fd → Int × List UInt8
  | [] => (0, acc)
  | f :: r => if fault f = 0 then (if 33792 < (acc ++ enc f).length then (6, []) else wrF (acc ++ enc f) r) else (fault f, [])
def writeF (l : List Fd) : Int × List UInt8 := if kindsB l = true then wrF [] l else (2, [])

theorem put1 (base g : Nat) (bs : List UInt8) (w : World) (v : Value) (f : Fd) (hf : f.kind = 1) (hv : FdV w base v f) (hs : WSt w base g bs) (hl : bs.length ≤ 100000) :
    Calls Tryd.prog 72 #[.pointer (some ⟨g, 0, none⟩), v] w (PutR base g bs (fault f) (enc f) w) := by
  have e1 : fault f = if 255 < f.n then 5 else 0 := by simp [fault, hf]
  have e2 : enc f = [UInt8.ofNat f.n] := by simp [enc, hf]
  rw [e1, e2]; exact putByte_any base g bs w v f hv hs (by omega)
theorem put2 (base g : Nat) (bs : List UInt8) (w : World) (v : Value) (f : Fd) (hf : f.kind = 2) (hv : FdV w base v f) (hs : WSt w base g bs) (hl : bs.length ≤ 100000) :
    Calls Tryd.prog 73 #[.pointer (some ⟨g, 0, none⟩), v] w (PutR base g bs (fault f) (enc f) w) := by
  have e1 : fault f = if 1 < f.n then 5 else 0 := by simp [fault, hf]
  have e2 : enc f = [UInt8.ofNat f.n] := by simp [enc, hf]
  rw [e1, e2]; exact putBool_any base g bs w v f hv hs (by omega)
theorem put3 (base g : Nat) (bs : List UInt8) (w : World) (v : Value) (f : Fd) (hf : f.kind = 3) (hv : FdV w base v f) (hs : WSt w base g bs) (hl : bs.length ≤ 100000) :
    Calls Tryd.prog 74 #[.pointer (some ⟨g, 0, none⟩), v] w (PutR base g bs (fault f) (enc f) w) := by
  have e1 : fault f = 0 := by simp [fault, hf]
  have e2 : enc f = four f.n := by simp [enc, hf]
  rw [e1, e2]; exact putUint32_any base g bs w v f hv hs (by omega)
theorem put4 (base g : Nat) (bs : List UInt8) (w : World) (v : Value) (f : Fd) (hf : f.kind = 4) (hv : FdV w base v f) (hs : WSt w base g bs) (hl : bs.length ≤ 100000) :
    Calls Tryd.prog 75 #[.pointer (some ⟨g, 0, none⟩), v] w (PutR base g bs (fault f) (enc f) w) := by
  have e1 : fault f = if 32768 < f.text.length then 6 else 0 := by simp [fault, hf]
  have e2 : enc f = four f.text.length ++ f.text := by simp [enc, hf]
  rw [e1, e2]; exact putString_any base g bs w v f hv hs hl
theorem put5 (base g : Nat) (bs : List UInt8) (w : World) (v : Value) (f : Fd) (hf : f.kind = 5) (hv : FdV w base v f) (hs : WSt w base g bs) (hl : bs.length ≤ 100000) :
    Calls Tryd.prog 76 #[.pointer (some ⟨g, 0, none⟩), v] w (PutR base g bs (fault f) (enc f) w) := by
  have e1 : fault f = namesE f.list := by simp [fault, hf]
  have e2 : enc f = four (joined f.list).length ++ joined f.list := by simp [enc, hf]
  rw [e1, e2]; exact putNames_any base g bs w v f hv hs hl
theorem put6 (base g : Nat) (bs : List UInt8) (w : World) (v : Value) (f : Fd) (hf : f.kind = 6) (hv : FdV w base v f) (hs : WSt w base g bs) (hl : bs.length ≤ 100000) :
    Calls Tryd.prog 77 #[.pointer (some ⟨g, 0, none⟩), v] w (PutR base g bs (fault f) (enc f) w) := by
  have e1 : fault f = if 33792 < f.text.length then 6 else 0 := by simp [fault, hf]
  have e2 : enc f = f.text := by simp [enc, hf]
  rw [e1, e2]; exact putRest_any base g bs w v f hv hs (by omega)

def WriteR (w : World) (x : Int × List UInt8) (e : Ending) (w' : World) : Prop :=
  ∃ A c, e = .returned (.tuple #[.slice A x.2.length c, .int .i64 x.1]) ∧ w'.ownsRow w.heap.size 5 1 (.slice A x.2.length c) x.2.length (bv x.2) ∧ Below w.heap.size w w'

theorem writeR_err (w w' : World) (er : Int) (h : Below w.heap.size w w') : WriteR w (er, []) (.returned (.tuple #[.slice none 0 0, .int .i64 er])) w' :=
  ⟨none, 0, rfl, World.ownsRow_nil _ _ _ _, h⟩

set_option maxHeartbeats 4000000 in
set_option maxRecDepth 100000 in
theorem write_any (w : World) (A : Option Addr) (c : Nat) (l : List Fd) (hl : FdsV w w.heap.size A l) (hc : l.length ≤ c) (hc2 : c ≤ maxLen) :
    Calls Tryd.prog 27 #[.slice A l.length c] w (WriteR w (writeF l)) := by
  unfold maxLen at hc2
  have h1 := run_store_func Tryd.prog
  have h2 := run_store_nilFunc Tryd.prog
  have HL := hid hl; clear hl
  go_enter Tryd.func27, Tryd.ntmps27
  go_wp2
  go_loopw [13] (fun i wr => ∃ k : Nat, k ≤ l.length ∧ i = .int .i64 k ∧ Below w.heap.size w wr ∧ Hid (∀ j (h : j < l.length), j < k → kindB l[j].kind j l.length = true)) (fun i _ => l.length - (intOf i).toNat)
  case atStart => exact ⟨0, Nat.zero_le _, rfl, Below.refl _ _, fun j _ h => absurd h (by omega)⟩
  case round =>
    obtain ⟨k, hk, rfl, hb, HP⟩ := hrel
    by_cases hlt : k < l.length
    · obtain ⟨b, o, rfl, hbw, hcells⟩ := HL.out (by intro e; rw [e] at hlt; simp at hlt)
      obtain ⟨tA, tc, lA, lc, hfd, e0, e1, e2, e3⟩ := hcells k hlt
      have hfd' := hid (hfd.keep hb)
      have c0 : wr.cell? ⟨b, o + k * 4, none⟩ = some (.int .i64 l[k].kind) := (hb.cell (p := ⟨b, _, none⟩) hbw).trans e0
      have c1 : wr.cell? ⟨b, o + k * 4 + 1, none⟩ = some (.int .u32 l[k].n) := (hb.cell (p := ⟨b, _, none⟩) hbw).trans e1
      have c2 : wr.cell? ⟨b, o + k * 4 + 2, none⟩ = some (.slice tA l[k].text.length tc) := (hb.cell (p := ⟨b, _, none⟩) hbw).trans e2
      have c3 : wr.cell? ⟨b, o + k * 4 + 3, none⟩ = some (.slice lA l[k].list.length lc) := (hb.cell (p := ⟨b, _, none⟩) hbw).trans e3
      clear e0 e1 e2 e3 hcells hfd
      by_cases hg : kindB l[k].kind k l.length = true
      · have HG := hid hg; clear hg
        go_wp2_with (go_at_call 35; refine (mayStand_any _ k l.length hlt (by unfold maxLen; omega) _).mono ?_; rintro e w' ⟨he, rfl⟩; rw [HG.out] at he; subst he)
        go_roundw
        case rel => exact ⟨k + 1, by omega, by go_num, hb.alloc hb.size _, fun j hj hjk => by
          by_cases e : j = k
          · subst e; exact HG.out
          · exact HP.out j hj (by omega)⟩
        case measure => simp [intOf]; omega
      · have hgf : kindB l[k].kind k l.length = false := by simpa using hg
        have HE : Hid (writeF l = (2, [])) := by
          show _ = _
          have : ¬ kindsB l = true := fun h => hg ((kindsB_iff l).1 h k hlt)
          simp [writeF, this]
        have HG := hid hgf; clear hg hgf
        go_wp2_with (go_at_call 35; refine (mayStand_any _ k l.length hlt (by unfold maxLen; omega) _).mono ?_; rintro e w' ⟨he, rfl⟩; rw [HG.out] at he; subst he)
        go_ret2
        rw [HE.out]
        exact writeR_err _ _ _ (hb.alloc hb.size _)
    · have hkl : kindsB l = true := (kindsB_iff l).2 fun j hj => HP.out j hj (by omega)
      have HK := hid hkl; clear hkl
      go_wp2_with (go_at_call 44; refine (writers_any _).mono ?_; rintro e w2 ⟨rfl, hb2⟩; unfold waysV)
      have hbase : w.heap.size ≤ wr.heap.size := hb.size
      have hbx : Box w2 wr.heap.size 126 #[.slice none 0 0] := (Box.new wr 126 _).same (hb2.block _ (by simp))
      have hbel : Below w.heap.size w w2 := (hb.alloc hbase _).trans (hb2.mono (by simp; omega))
      have hw2 : w.heap.size ≤ w2.heap.size := hbel.size
      generalize hW3 : w2.alloc _ = w3
      have hbx3 : Box w3 wr.heap.size 126 #[.slice none 0 0] := by subst hW3; exact hbx.same (Below.heap_alloc _ _ _ hbx.lt)
      have hwy3 : Box w3 w2.heap.size 128 waysV := by subst hW3; exact Box.new w2 128 _
      have hbel3 : Below w.heap.size w w3 := by subst hW3; exact hbel.alloc hw2 _
      clear hW3 hbx hbel hb2 HP hb hlt
      have hst3 : WSt w3 w.heap.size wr.heap.size [] := ⟨hbase, none, 0, hbx3, World.ownsRow_nil _ _ _ _⟩
      clear hbx3
      generalize wr.heap.size = g at hst3 hbase
      generalize w2.heap.size = gw at hwy3 hw2
      go_loopw [29] (fun i wr => ∃ (k : Nat) (bs : List UInt8), k ≤ l.length ∧ i = .int .i64 k ∧ Below w.heap.size w wr ∧ WSt wr w.heap.size g bs ∧ Box wr gw 128 waysV ∧ bs.length ≤ 33792 ∧ Hid (wrF [] l = wrF bs (l.drop k))) (fun i _ => l.length - (intOf i).toNat)
      case atStart => exact ⟨0, [], Nat.zero_le _, rfl, hbel3, hst3, hwy3, by simp, rfl⟩
      case round =>
        clear hst3 hwy3 hbel3
        obtain ⟨k, bs, hk, rfl, hb, hst, hwy, hbl, HP⟩ := hrel
        by_cases hlt : k < l.length
        · obtain ⟨b, o, rfl, hbw, hcells⟩ := HL.out (by intro e; rw [e] at hlt; simp at hlt)
          obtain ⟨tA, tc, lA, lc, hfd, e0, e1, e2, e3⟩ := hcells k hlt
          have hkk := (kindsB_iff l).1 HK.out k hlt
          have hdrop : l.drop k = l[k] :: l.drop (k + 1) := List.drop_eq_getElem_cons hlt
          have HD : Hid (wrF [] l = wrF bs (l[k] :: l.drop (k + 1))) := by rw [← hdrop]; exact HP
          have hfd' := hfd.keep hb
          have c0 := (hb.cell (p := ⟨b, _, none⟩) hbw).trans e0
          have c1 := (hb.cell (p := ⟨b, _, none⟩) hbw).trans e1
          have c2 := (hb.cell (p := ⟨b, _, none⟩) hbw).trans e2
          have c3 := (hb.cell (p := ⟨b, _, none⟩) hbw).trans e3
          clear e0 e1 e2 e3 hcells hfd hdrop
          generalize l[k] = f at *
          simp only [kindB, Bool.and_eq_true, Bool.or_eq_true, decide_eq_true_eq] at hkk
          obtain ⟨kd, nn, tx, ls⟩ := f
          simp only at c0 c1 c2 c3 hkk hfd'
          have hkd : kd = 1 ∨ kd = 2 ∨ kd = 3 ∨ kd = 4 ∨ kd = 5 ∨ kd = 6 := by omega
          clear hkk
          have hL1 := hst.lt
          have k0 : ∀ o, Kept w.heap.size [126, 5] wr (wr.alloc o) := fun o => (Kept.refl _ _ _).alloc o
          have cw1 : wr.cell? ⟨gw, 1, none⟩ = some (.func (.func 72) #[] #[]) := hwy.cell 1
          have cw2 : wr.cell? ⟨gw, 2, none⟩ = some (.func (.func 73) #[] #[]) := hwy.cell 2
          have cw3 : wr.cell? ⟨gw, 3, none⟩ = some (.func (.func 74) #[] #[]) := hwy.cell 3
          have cw4 : wr.cell? ⟨gw, 4, none⟩ = some (.func (.func 75) #[] #[]) := hwy.cell 4
          have cw5 : wr.cell? ⟨gw, 5, none⟩ = some (.func (.func 76) #[] #[]) := hwy.cell 5
          have cw6 : wr.cell? ⟨gw, 6, none⟩ = some (.func (.func 77) #[] #[]) := hwy.cell 6
          have hgw := hwy.lt
          have hs0 : ∀ o, WSt (wr.alloc o).drew w.heap.size g bs := fun o => hst.kept (B := 0) (T := []) (((Kept.refl _ _ _).alloc o).drew) (by simp) (by simp)
          have hf0 : ∀ o v, FdV wr w.heap.size v ⟨kd, nn, tx, ls⟩ → FdV (wr.alloc o).drew w.heap.size v ⟨kd, nn, tx, ls⟩ := fun o v h => h.keep (((Below.refl _ _).alloc hL1 o).drew)
          have hw0 : ∀ o, Below w.heap.size w (wr.alloc o).drew := fun o => (hb.alloc hL1 o).drew
          have hy0 : ∀ o, Box (wr.alloc o).drew gw 128 waysV := fun o => (hwy.same (Below.heap_alloc _ _ _ hgw) : Box (wr.alloc o) gw 128 waysV)
          have HS0 := hid hs0
          have HF0 := hid hf0
          have HW0 := hid hw0
          have HY0 := hid hy0
          have HFD := hid hfd'
          clear hs0 hf0 hw0 hy0 hfd' hst hwy hb
          by_cases her : fault ⟨kd, nn, tx, ls⟩ = 0
          · have HER := hid her
            obtain ⟨bs', HB⟩ : ∃ bs', Hid (bs ++ enc ⟨kd, nn, tx, ls⟩ = bs') := ⟨_, rfl⟩
            by_cases hov : 33792 < bs'.length
            · have HE : Hid (writeF l = (6, [])) := by
                show _ = _
                rw [writeF, if_pos HK.out, HD.out, wrF, if_pos her, HB.out, if_pos hov]
              clear her
              rcases hkd with rfl | rfl | rfl | rfl | rfl | rfl
              all_goals
                go_wp2
                refine region_tail 5 (by kernel_rfl) (by kernel_rfl) ?_
                simp only [List.take_succ_cons, List.take_zero, List.drop_succ_cons, List.drop_zero]
                repeat still_step
                refine wpStill_nil ?_
                go_wp2_with (first
                | (go_at_call 72
                   refine (put1 w.heap.size g bs _ _ _ rfl (HF0.out _ _ HFD.out) (HS0.out _) (by omega)).mono ?_
                   rintro e w4 ⟨he, hk4, hs4⟩
                   rw [HER.out] at he
                   subst he
                   have hs5 := hs4 HER.out
                   rw [HB.out] at hs5
                   obtain ⟨_, A4, c4, hx4, ho4⟩ := hs5
                   have hcell4 : w4.cell? ⟨g, 0, none⟩ = some (.slice A4 bs'.length c4) := hx4.cell 0
                   have HK4 := hid ((HW0.out _).trans (hk4.below (HW0.out _).size))
                   have HY4 := hid (hk4.box (HY0.out _) (by decide))
                   have HO4 := hid ho4
                   have HX4 := hid hx4
                   clear hk4 hs4 ho4 hx4)
                | (go_at_call 73
                   refine (put2 w.heap.size g bs _ _ _ rfl (HF0.out _ _ HFD.out) (HS0.out _) (by omega)).mono ?_
                   rintro e w4 ⟨he, hk4, hs4⟩
                   rw [HER.out] at he
                   subst he
                   have hs5 := hs4 HER.out
                   rw [HB.out] at hs5
                   obtain ⟨_, A4, c4, hx4, ho4⟩ := hs5
                   have hcell4 : w4.cell? ⟨g, 0, none⟩ = some (.slice A4 bs'.length c4) := hx4.cell 0
                   have HK4 := hid ((HW0.out _).trans (hk4.below (HW0.out _).size))
                   have HY4 := hid (hk4.box (HY0.out _) (by decide))
                   have HO4 := hid ho4
                   have HX4 := hid hx4
                   clear hk4 hs4 ho4 hx4)
                | (go_at_call 74
                   refine (put3 w.heap.size g bs _ _ _ rfl (HF0.out _ _ HFD.out) (HS0.out _) (by omega)).mono ?_
                   rintro e w4 ⟨he, hk4, hs4⟩
                   rw [HER.out] at he
                   subst he
                   have hs5 := hs4 HER.out
                   rw [HB.out] at hs5
                   obtain ⟨_, A4, c4, hx4, ho4⟩ := hs5
                   have hcell4 : w4.cell? ⟨g, 0, none⟩ = some (.slice A4 bs'.length c4) := hx4.cell 0
                   have HK4 := hid ((HW0.out _).trans (hk4.below (HW0.out _).size))
                   have HY4 := hid (hk4.box (HY0.out _) (by decide))
                   have HO4 := hid ho4
                   have HX4 := hid hx4
                   clear hk4 hs4 ho4 hx4)
                | (go_at_call 75
                   refine (put4 w.heap.size g bs _ _ _ rfl (HF0.out _ _ HFD.out) (HS0.out _) (by omega)).mono ?_
                   rintro e w4 ⟨he, hk4, hs4⟩
                   rw [HER.out] at he
                   subst he
                   have hs5 := hs4 HER.out
                   rw [HB.out] at hs5
                   obtain ⟨_, A4, c4, hx4, ho4⟩ := hs5
                   have hcell4 : w4.cell? ⟨g, 0, none⟩ = some (.slice A4 bs'.length c4) := hx4.cell 0
                   have HK4 := hid ((HW0.out _).trans (hk4.below (HW0.out _).size))
                   have HY4 := hid (hk4.box (HY0.out _) (by decide))
                   have HO4 := hid ho4
                   have HX4 := hid hx4
                   clear hk4 hs4 ho4 hx4)
                | (go_at_call 76
                   refine (put5 w.heap.size g bs _ _ _ rfl (HF0.out _ _ HFD.out) (HS0.out _) (by omega)).mono ?_
                   rintro e w4 ⟨he, hk4, hs4⟩
                   rw [HER.out] at he
                   subst he
                   have hs5 := hs4 HER.out
                   rw [HB.out] at hs5
                   obtain ⟨_, A4, c4, hx4, ho4⟩ := hs5
                   have hcell4 : w4.cell? ⟨g, 0, none⟩ = some (.slice A4 bs'.length c4) := hx4.cell 0
                   have HK4 := hid ((HW0.out _).trans (hk4.below (HW0.out _).size))
                   have HY4 := hid (hk4.box (HY0.out _) (by decide))
                   have HO4 := hid ho4
                   have HX4 := hid hx4
                   clear hk4 hs4 ho4 hx4)
                | (go_at_call 77
                   refine (put6 w.heap.size g bs _ _ _ rfl (HF0.out _ _ HFD.out) (HS0.out _) (by omega)).mono ?_
                   rintro e w4 ⟨he, hk4, hs4⟩
                   rw [HER.out] at he
                   subst he
                   have hs5 := hs4 HER.out
                   rw [HB.out] at hs5
                   obtain ⟨_, A4, c4, hx4, ho4⟩ := hs5
                   have hcell4 : w4.cell? ⟨g, 0, none⟩ = some (.slice A4 bs'.length c4) := hx4.cell 0
                   have HK4 := hid ((HW0.out _).trans (hk4.below (HW0.out _).size))
                   have HY4 := hid (hk4.box (HY0.out _) (by decide))
                   have HO4 := hid ho4
                   have HX4 := hid hx4
                   clear hk4 hs4 ho4 hx4))
                go_ret2
                rw [HE.out]
                exact writeR_err _ _ _ HK4.out
            · have HE : Hid (wrF [] l = wrF bs' (l.drop (k + 1))) := by
                show _ = _
                rw [HD.out, wrF, if_pos her, HB.out, if_neg hov]
              clear her
              rcases hkd with rfl | rfl | rfl | rfl | rfl | rfl
              all_goals
                go_wp2
                refine region_tail 5 (by kernel_rfl) (by kernel_rfl) ?_
                simp only [List.take_succ_cons, List.take_zero, List.drop_succ_cons, List.drop_zero]
                repeat still_step
                refine wpStill_nil ?_
                go_wp2_with (first
                | (go_at_call 72
                   refine (put1 w.heap.size g bs _ _ _ rfl (HF0.out _ _ HFD.out) (HS0.out _) (by omega)).mono ?_
                   rintro e w4 ⟨he, hk4, hs4⟩
                   rw [HER.out] at he
                   subst he
                   have hs5 := hs4 HER.out
                   rw [HB.out] at hs5
                   obtain ⟨_, A4, c4, hx4, ho4⟩ := hs5
                   have hcell4 : w4.cell? ⟨g, 0, none⟩ = some (.slice A4 bs'.length c4) := hx4.cell 0
                   have HK4 := hid ((HW0.out _).trans (hk4.below (HW0.out _).size))
                   have HY4 := hid (hk4.box (HY0.out _) (by decide))
                   have HO4 := hid ho4
                   have HX4 := hid hx4
                   clear hk4 hs4 ho4 hx4)
                | (go_at_call 73
                   refine (put2 w.heap.size g bs _ _ _ rfl (HF0.out _ _ HFD.out) (HS0.out _) (by omega)).mono ?_
                   rintro e w4 ⟨he, hk4, hs4⟩
                   rw [HER.out] at he
                   subst he
                   have hs5 := hs4 HER.out
                   rw [HB.out] at hs5
                   obtain ⟨_, A4, c4, hx4, ho4⟩ := hs5
                   have hcell4 : w4.cell? ⟨g, 0, none⟩ = some (.slice A4 bs'.length c4) := hx4.cell 0
                   have HK4 := hid ((HW0.out _).trans (hk4.below (HW0.out _).size))
                   have HY4 := hid (hk4.box (HY0.out _) (by decide))
                   have HO4 := hid ho4
                   have HX4 := hid hx4
                   clear hk4 hs4 ho4 hx4)
                | (go_at_call 74
                   refine (put3 w.heap.size g bs _ _ _ rfl (HF0.out _ _ HFD.out) (HS0.out _) (by omega)).mono ?_
                   rintro e w4 ⟨he, hk4, hs4⟩
                   rw [HER.out] at he
                   subst he
                   have hs5 := hs4 HER.out
                   rw [HB.out] at hs5
                   obtain ⟨_, A4, c4, hx4, ho4⟩ := hs5
                   have hcell4 : w4.cell? ⟨g, 0, none⟩ = some (.slice A4 bs'.length c4) := hx4.cell 0
                   have HK4 := hid ((HW0.out _).trans (hk4.below (HW0.out _).size))
                   have HY4 := hid (hk4.box (HY0.out _) (by decide))
                   have HO4 := hid ho4
                   have HX4 := hid hx4
                   clear hk4 hs4 ho4 hx4)
                | (go_at_call 75
                   refine (put4 w.heap.size g bs _ _ _ rfl (HF0.out _ _ HFD.out) (HS0.out _) (by omega)).mono ?_
                   rintro e w4 ⟨he, hk4, hs4⟩
                   rw [HER.out] at he
                   subst he
                   have hs5 := hs4 HER.out
                   rw [HB.out] at hs5
                   obtain ⟨_, A4, c4, hx4, ho4⟩ := hs5
                   have hcell4 : w4.cell? ⟨g, 0, none⟩ = some (.slice A4 bs'.length c4) := hx4.cell 0
                   have HK4 := hid ((HW0.out _).trans (hk4.below (HW0.out _).size))
                   have HY4 := hid (hk4.box (HY0.out _) (by decide))
                   have HO4 := hid ho4
                   have HX4 := hid hx4
                   clear hk4 hs4 ho4 hx4)
                | (go_at_call 76
                   refine (put5 w.heap.size g bs _ _ _ rfl (HF0.out _ _ HFD.out) (HS0.out _) (by omega)).mono ?_
                   rintro e w4 ⟨he, hk4, hs4⟩
                   rw [HER.out] at he
                   subst he
                   have hs5 := hs4 HER.out
                   rw [HB.out] at hs5
                   obtain ⟨_, A4, c4, hx4, ho4⟩ := hs5
                   have hcell4 : w4.cell? ⟨g, 0, none⟩ = some (.slice A4 bs'.length c4) := hx4.cell 0
                   have HK4 := hid ((HW0.out _).trans (hk4.below (HW0.out _).size))
                   have HY4 := hid (hk4.box (HY0.out _) (by decide))
                   have HO4 := hid ho4
                   have HX4 := hid hx4
                   clear hk4 hs4 ho4 hx4)
                | (go_at_call 77
                   refine (put6 w.heap.size g bs _ _ _ rfl (HF0.out _ _ HFD.out) (HS0.out _) (by omega)).mono ?_
                   rintro e w4 ⟨he, hk4, hs4⟩
                   rw [HER.out] at he
                   subst he
                   have hs5 := hs4 HER.out
                   rw [HB.out] at hs5
                   obtain ⟨_, A4, c4, hx4, ho4⟩ := hs5
                   have hcell4 : w4.cell? ⟨g, 0, none⟩ = some (.slice A4 bs'.length c4) := hx4.cell 0
                   have HK4 := hid ((HW0.out _).trans (hk4.below (HW0.out _).size))
                   have HY4 := hid (hk4.box (HY0.out _) (by decide))
                   have HO4 := hid ho4
                   have HX4 := hid hx4
                   clear hk4 hs4 ho4 hx4))
                go_roundw
                case rel => exact ⟨k + 1, bs', by omega, by go_num, HK4.out, ⟨hbase, A4, c4, HX4.out, HO4.out⟩, HY4.out, by omega, HE.out⟩
                case measure => simp [intOf]; omega
          · have HE : Hid (writeF l = (fault ⟨kd, nn, tx, ls⟩, [])) := by
              show _ = _
              rw [writeF, if_pos HK.out, HD.out, wrF, if_neg her]
            obtain ⟨er, HER⟩ : ∃ er, Hid (fault ⟨kd, nn, tx, ls⟩ = er) := ⟨_, rfl⟩
            rw [HER.out] at her HE
            have hz : (er == 0) = false := by simpa using her
            clear her
            rcases hkd with rfl | rfl | rfl | rfl | rfl | rfl
            all_goals
              go_wp2
              refine region_tail 5 (by kernel_rfl) (by kernel_rfl) ?_
              simp only [List.take_succ_cons, List.take_zero, List.drop_succ_cons, List.drop_zero]
              repeat still_step
              refine wpStill_nil ?_
              go_wp2_with (first
              | (go_at_call 72
                 refine (put1 w.heap.size g bs _ _ _ rfl (HF0.out _ _ HFD.out) (HS0.out _) (by omega)).mono ?_
                 rintro e w4 ⟨he, hk4, hs4⟩
                 rw [HER.out] at he
                 subst he
                 have HK4 := hid ((HW0.out _).trans (hk4.below (HW0.out _).size))
                 clear hk4 hs4)
              | (go_at_call 73
                 refine (put2 w.heap.size g bs _ _ _ rfl (HF0.out _ _ HFD.out) (HS0.out _) (by omega)).mono ?_
                 rintro e w4 ⟨he, hk4, hs4⟩
                 rw [HER.out] at he
                 subst he
                 have HK4 := hid ((HW0.out _).trans (hk4.below (HW0.out _).size))
                 clear hk4 hs4)
              | (go_at_call 74
                 refine (put3 w.heap.size g bs _ _ _ rfl (HF0.out _ _ HFD.out) (HS0.out _) (by omega)).mono ?_
                 rintro e w4 ⟨he, hk4, hs4⟩
                 rw [HER.out] at he
                 subst he
                 have HK4 := hid ((HW0.out _).trans (hk4.below (HW0.out _).size))
                 clear hk4 hs4)
              | (go_at_call 75
                 refine (put4 w.heap.size g bs _ _ _ rfl (HF0.out _ _ HFD.out) (HS0.out _) (by omega)).mono ?_
                 rintro e w4 ⟨he, hk4, hs4⟩
                 rw [HER.out] at he
                 subst he
                 have HK4 := hid ((HW0.out _).trans (hk4.below (HW0.out _).size))
                 clear hk4 hs4)
              | (go_at_call 76
                 refine (put5 w.heap.size g bs _ _ _ rfl (HF0.out _ _ HFD.out) (HS0.out _) (by omega)).mono ?_
                 rintro e w4 ⟨he, hk4, hs4⟩
                 rw [HER.out] at he
                 subst he
                 have HK4 := hid ((HW0.out _).trans (hk4.below (HW0.out _).size))
                 clear hk4 hs4)
              | (go_at_call 77
                 refine (put6 w.heap.size g bs _ _ _ rfl (HF0.out _ _ HFD.out) (HS0.out _) (by omega)).mono ?_
                 rintro e w4 ⟨he, hk4, hs4⟩
                 rw [HER.out] at he
                 subst he
                 have HK4 := hid ((HW0.out _).trans (hk4.below (HW0.out _).size))
                 clear hk4 hs4))
              go_ret2
              rw [HE.out]
              exact writeR_err _ _ _ HK4.out
        · have hF : writeF l = (0, bs) := by
            rw [writeF, if_pos HK.out, HP.out, List.drop_of_length_le (by omega), wrF]
          have HF := hid hF
          clear hF
          obtain ⟨_, A4, c4, hx4, ho4⟩ := hst
          have hcell4 : wr.cell? ⟨g, 0, none⟩ = some (.slice A4 bs.length c4) := hx4.cell 0
          have HO4 := hid ho4
          clear ho4 hx4
          go_wp2
          go_ret2
          rw [HF.out]
          exact ⟨A4, c4, rfl, HO4.out, hb⟩
end Go.Proofs.YtdplngplljejhaaDoor
