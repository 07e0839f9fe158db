import Derived.Test.YtdplngplljejhaaDoorWH
namespace Go.Proofs.YtdplngplljejhaaDoor
open Go.RowKit

def readsV : Array Value := #[.nilFunc, .func (.func 64) #[] #[], .func (.func 65) #[] #[], .func (.func 66) #[] #[], .func (.func 67) #[] #[], .func (.func 68) #[] #[], .func (.func 69) #[] #[]]

set_option maxHeartbeats 400000 in
set_option maxRecDepth 100000 in
theorem readers_any (w : World) :
    Calls Tryd.prog 36 #[] w fun e w' => e = .returned (.agg readsV) ∧ Below w.heap.size w w' := by
  have h1 := run_store_func Tryd.prog
  have h2 := run_store_nilFunc Tryd.prog
  go_enter Tryd.func36, Tryd.ntmps36
  go_wp2
  exact bodyPost_ret (v := .agg readsV) (by simp [results, Tryd.results36, go_sem, readsV]) rfl ⟨rfl, (Below.refl _ _).alloc (Nat.le_refl _) _⟩

def getF (k : Int) (left : List UInt8) : Int × Fd × List UInt8 :=
  if k = 1 then byteF left else if k = 2 then boolF left else if k = 3 then u32F left else if k = 4 then strF left else if k = 5 then namesF left else restF left

def kfd (k : Int) : Fd := ⟨k, 0, [], []⟩
def rdF (acc : List Fd) : List Int → List UInt8 → Int × List Fd
  | [], left => if left = [] then (0, acc) else (4, [])
  | k :: r, left => if (getF k left).1 = 0 then rdF (acc ++ [{ (getF k left).2.1 with kind := k }]) r (getF k left).2.2 else ((getF k left).1, [])
def readF (ks : List Int) (left : List UInt8) : Int × List Fd := if kindsB (ks.map kfd) = true then rdF [] ks left else (2, [])

/-- The cells of fields in memory of the call's own, with what they hold. -/
def FlatF (w : World) (base : Nat) : List Fd → List Value → Prop
  | [], cs => cs = []
  | f :: fs, cs => ∃ tA tc lA lc r, cs = .int .i64 f.kind :: .int .u32 f.n :: .slice tA f.text.length tc :: .slice lA f.list.length lc :: r ∧
      w.ownsRow base 5 1 (.slice tA f.text.length tc) f.text.length (bv f.text) ∧ w.ownsRow base 9 1 (.slice lA f.list.length lc) f.list.length (sv f.list) ∧ FlatF w base fs r
theorem FlatF.kept {w w' : World} {base B : Nat} {T : List TypeId} (k : Kept B T w w') (h5 : 5 ∉ T) (h9 : 9 ∉ T) : ∀ (fs : List Fd) (cs : List Value), FlatF w base fs cs → FlatF w' base fs cs
  | [], _, h => h
  | _ :: fs, _, ⟨tA, tc, lA, lc, r, e, h1, h2, h3⟩ => ⟨tA, tc, lA, lc, r, e, k.own h1 h5, k.own h2 h9, FlatF.kept k h5 h9 fs r h3⟩
theorem FlatF.snoc {w : World} {base : Nat} {f : Fd} {tA lA : Option Addr} {tc lc : Nat} (h1 : w.ownsRow base 5 1 (.slice tA f.text.length tc) f.text.length (bv f.text)) (h2 : w.ownsRow base 9 1 (.slice lA f.list.length lc) f.list.length (sv f.list)) :
    ∀ (fs : List Fd) (cs : List Value), FlatF w base fs cs → FlatF w base (fs ++ [f]) (cs ++ [.int .i64 f.kind, .int .u32 f.n, .slice tA f.text.length tc, .slice lA f.list.length lc])
  | [], _, h => by
    have h : _ = [] := h
    subst h
    exact ⟨tA, tc, lA, lc, [], rfl, h1, h2, rfl⟩
  | _ :: fs, _, ⟨tA', tc', lA', lc', r, e, g1, g2, g3⟩ => ⟨tA', tc', lA', lc', _, by rw [e]; rfl, g1, g2, FlatF.snoc h1 h2 fs r g3⟩
theorem FlatF.length {w : World} {base : Nat} : ∀ (fs : List Fd) (cs : List Value), FlatF w base fs cs → cs.length = fs.length * 4
  | [], _, h => by
    have h : _ = [] := h
    subst h; rfl
  | _ :: fs, _, ⟨tA', tc', lA', lc', r, e, g1, g2, g3⟩ => by
    have := FlatF.length fs r g3
    subst e
    simp only [List.length_cons, this]
    omega

theorem gk1 (B g : Nat) (left : List UInt8) (w : World) (hs : RSt w B g left) (hB : B ≤ w.heap.size) (hB0 : 0 < B) (m : Int) (hm : w.cell? ⟨0, 0, none⟩ = some (.int .i64 m)) :
    Calls Tryd.prog 64 #[.pointer (some ⟨g, 0, none⟩)] w (GetR B g (getF 1 left) w) := by
  have _ := hB0
  have _ := hm
  have e : getF 1 left = byteF left := by simp [getF]
  rw [e]; exact getByte_any B g left w hs hB
theorem gk2 (B g : Nat) (left : List UInt8) (w : World) (hs : RSt w B g left) (hB : B ≤ w.heap.size) (hB0 : 0 < B) (m : Int) (hm : w.cell? ⟨0, 0, none⟩ = some (.int .i64 m)) :
    Calls Tryd.prog 65 #[.pointer (some ⟨g, 0, none⟩)] w (GetR B g (getF 2 left) w) := by
  have _ := hB0
  have _ := hm
  have e : getF 2 left = boolF left := by simp [getF]
  rw [e]; exact getBool_any B g left w hs hB
theorem gk3 (B g : Nat) (left : List UInt8) (w : World) (hs : RSt w B g left) (hB : B ≤ w.heap.size) (hB0 : 0 < B) (m : Int) (hm : w.cell? ⟨0, 0, none⟩ = some (.int .i64 m)) :
    Calls Tryd.prog 66 #[.pointer (some ⟨g, 0, none⟩)] w (GetR B g (getF 3 left) w) := by
  have _ := hB0
  have _ := hm
  have e : getF 3 left = u32F left := by simp [getF]
  rw [e]; exact getUint32_any B g left w hs hB
theorem gk4 (B g : Nat) (left : List UInt8) (w : World) (hs : RSt w B g left) (hB : B ≤ w.heap.size) (hB0 : 0 < B) (m : Int) (hm : w.cell? ⟨0, 0, none⟩ = some (.int .i64 m)) :
    Calls Tryd.prog 67 #[.pointer (some ⟨g, 0, none⟩)] w (GetR B g (getF 4 left) w) := by
  have _ := hB0
  have _ := hm
  have e : getF 4 left = strF left := by simp [getF]
  rw [e]; exact getString_any B g left w hs hB
theorem gk5 (B g : Nat) (left : List UInt8) (w : World) (hs : RSt w B g left) (hB : B ≤ w.heap.size) (hB0 : 0 < B) (m : Int) (hm : w.cell? ⟨0, 0, none⟩ = some (.int .i64 m)) :
    Calls Tryd.prog 68 #[.pointer (some ⟨g, 0, none⟩)] w (GetR B g (getF 5 left) w) := by
  have _ := hB0
  have _ := hm
  have e : getF 5 left = namesF left := by simp [getF]
  rw [e]; exact getNames_any B g left w hs hB hB0 m hm
theorem gk6 (B g : Nat) (left : List UInt8) (w : World) (hs : RSt w B g left) (hB : B ≤ w.heap.size) (hB0 : 0 < B) (m : Int) (hm : w.cell? ⟨0, 0, none⟩ = some (.int .i64 m)) :
    Calls Tryd.prog 69 #[.pointer (some ⟨g, 0, none⟩)] w (GetR B g (getF 6 left) w) := by
  have _ := hB0
  have _ := hm
  have e : getF 6 left = restF left := by simp [getF]
  rw [e]; exact getRest_any B g left w hs hB

def ReadR (w : World) (x : Int × List Fd) (e : Ending) (w' : World) : Prop :=
  ∃ A c cs, e = .returned (.tuple #[.slice A x.2.length c, .int .i64 x.1]) ∧ w'.ownsRow w.heap.size 80 4 (.slice A x.2.length c) x.2.length cs ∧ FlatF w' w.heap.size x.2 cs ∧ Below w.heap.size w w'
theorem readR_err (w w' : World) (er : Int) (h : Below w.heap.size w w') : ReadR w (er, []) (.returned (.tuple #[.slice none 0 0, .int .i64 er])) w' :=
  ⟨none, 0, [], rfl, World.ownsRow_nil _ _ _ _, rfl, h⟩

theorem lies5 (w : World) (o1 : Obj) (cs : Array Value) : Lies ((w.alloc o1).alloc (.cells cs 80)) (w.heap.size + 2) (some ⟨w.heap.size + 1, 0, none⟩) cs.toList := by
  have h := lies_lit (w.alloc o1) cs 80
  simpa using h
theorem one4 (k : Int) (n : Nat) (tA lA : Option Addr) (a b tc lc : Nat) : ∀ u ∈ (#[Value.int .i64 k, .int .u32 n, .slice tA a tc, .slice lA b lc] : Array Value).toList, u.oneCell' = true := by
  intro u hu
  simp only [List.mem_cons, List.mem_nil_iff, or_false] at hu
  rcases hu with rfl | rfl | rfl | rfl <;> rfl

theorem read_fin {w w4 w6 : World} {g gw : Nat} {fs : List Fd} {cs : List Value} {f : Fd} {kd : Int} {rest : List UInt8} {A' A6 tA lA : Option Addr} {c' c6 tc lc : Nat} {o1 o2 : Obj}
    (hbel : Below w.heap.size w w4) (hro : w4.ownsRow w.heap.size 80 4 (.slice A' fs.length c') fs.length cs) (hfl : FlatF w4 w.heap.size fs cs) (hwy : Box w4 gw 113 readsV)
    (ho1 : w4.ownsRow w.heap.size 5 1 (.slice tA f.text.length tc) f.text.length (bv f.text)) (ho2 : w4.ownsRow w.heap.size 9 1 (.slice lA f.list.length lc) f.list.length (sv f.list)) (hrs : RSt w4 w.heap.size g rest)
    (ho6 : w6.ownsRow w.heap.size 80 4 (.slice A6 (fs.length + 1) c6) (fs.length + 1) (cs ++ (#[Value.int .i64 kd, .int .u32 f.n, .slice tA f.text.length tc, .slice lA f.list.length lc] : Array Value).toList))
    (hg6 : ((w4.alloc o1).alloc o2).grownBy w6 (Value.slice A' fs.length c').ownBlock) :
    w6.ownsRow w.heap.size 80 4 (.slice A6 (fs ++ [{ f with kind := kd }]).length c6) (fs ++ [{ f with kind := kd }]).length (cs ++ (#[Value.int .i64 kd, .int .u32 f.n, .slice tA f.text.length tc, .slice lA f.list.length lc] : Array Value).toList) ∧
    FlatF w6 w.heap.size (fs ++ [{ f with kind := kd }]) (cs ++ (#[Value.int .i64 kd, .int .u32 f.n, .slice tA f.text.length tc, .slice lA f.list.length lc] : Array Value).toList) ∧
    RSt w6 w.heap.size g rest ∧ Box w6 gw 113 readsV ∧ Below w.heap.size w w6 := by
  have k5 : Kept w.heap.size [80] w4 ((w4.alloc o1).alloc o2) := ((Kept.refl _ _ _).alloc _).alloc _
  have hro5 : ((w4.alloc o1).alloc o2).ownsRow w.heap.size 80 4 (.slice A' fs.length c') fs.length cs := (hro.alloc _).alloc _
  have k6 : Kept w.heap.size [80] w4 w6 := k5.grown hg6 (fun k hk => by obtain ⟨a, cs, b⟩ := own_box hro5 k hk; exact ⟨a, 80, cs, by simp, b⟩)
  have hb6 := k6.below hbel.size
  refine ⟨?_, FlatF.snoc (f := { f with kind := kd }) (k6.own ho1 (by decide)) (k6.own ho2 (by decide)) fs cs (FlatF.kept k6 (by decide) (by decide) _ _ hfl), hrs.kept k6 (by decide) hb6, k6.box hwy (by decide), hbel.trans hb6⟩
  simpa using ho6

theorem Tryd.info37 : (Tryd.prog.info? 80).map (fun i => (i.zero, i.size, i.bytes)) = some (some (.agg #[.int .i64 0, .int .u32 0, .slice none 0 0, .slice none 0 0]), 4, 64) := by kernel_rfl

set_option maxHeartbeats 4000000 in
set_option maxRecDepth 100000 in
theorem read_any (w : World) (kA : Option Addr) (kc : Nat) (ks : List Int) (A : Option Addr) (c : Nat) (bs : List UInt8) (m : Int)
    (hk : Lies w w.heap.size kA (ks.map (Value.int .i64))) (hkl : ks.length ≤ 1000) (hb : SlB w w.heap.size A c bs) (hm : w.cell? ⟨0, 0, none⟩ = some (.int .i64 m)) :
    Calls Tryd.prog 20 #[.slice kA ks.length kc, .slice A bs.length c] w (ReadR w (readF ks bs)) := by
  have h1 := run_store_func Tryd.prog
  have h2 := run_store_nilFunc Tryd.prog
  have HK := hid hk
  have HB := hid hb
  have HM := hid hm
  clear hk hb hm
  go_enter Tryd.func20, Tryd.ntmps20
  go_wp2
  go_loop [17] (fun i => ∃ k : Nat, k ≤ ks.length ∧ i = .int .i64 k ∧ Hid (∀ j (h : j < ks.length), j < k → kindB ks[j] j ks.length = true)) (fun i => ks.length - (intOf i).toNat)
  case atStart => exact ⟨0, Nat.zero_le _, rfl, fun j _ h => absurd h (by omega)⟩
  case round =>
    obtain ⟨k, hk, rfl, HP⟩ := hrel
    by_cases hlt : k < ks.length
    · obtain ⟨b, o, rfl, hbw, hcells⟩ := HK.out (by intro e; have := congrArg List.length e; simp at this; subst this; simp at hlt)
      have c0 : w.cell? ⟨b, o + k, none⟩ = some (.int .i64 ks[k]) := hcells k _ (by simp [hlt])
      clear hcells
      by_cases hg : kindB ks[k] k ks.length = true
      · have HG := hid hg; clear hg
        go_wp2_with (go_at_call 35; refine (mayStand_any _ k ks.length hlt (by unfold maxLen; omega) _).mono ?_; rintro e w' ⟨he, rfl⟩; rw [HG.out] at he; subst he)
        go_round
        case rel => exact ⟨k + 1, by omega, by go_num, fun j hj hjk => by
          by_cases e : j = k
          · subst e; exact HG.out
          · exact HP.out j hj (by omega)⟩
        case measure => simp [intOf]; omega
      · have hgf : kindB ks[k] k ks.length = false := by simpa using hg
        have HE : Hid (readF ks bs = (2, [])) := by
          show _ = _
          have : ¬ kindsB (ks.map kfd) = true := fun h => hg (by
            have := (kindsB_iff _).1 h k (by simpa using hlt)
            simpa [kfd] using this)
          simp [readF, this]
        have HG := hid hgf; clear hg hgf
        go_wp2_with (go_at_call 35; refine (mayStand_any _ k ks.length hlt (by unfold maxLen; omega) _).mono ?_; rintro e w' ⟨he, rfl⟩; rw [HG.out] at he; subst he)
        go_ret2
        rw [HE.out]
        exact readR_err _ _ _ (Below.refl _ _)
    · have hkl : kindsB (ks.map kfd) = true := (kindsB_iff _).2 fun j hj => by
        have := HP.out j (by simpa using hj) (by simp at hj; omega)
        simpa [kfd] using this
      have HKB := hid hkl; clear hkl
      go_wp2_with (go_at_call 36; refine (readers_any _).mono ?_; rintro e w2 ⟨rfl, hb2⟩; unfold readsV)
      have hpos : 0 < w.heap.size := by
        have := World.block_lt_of_cell? w _ HM.out
        exact this
      have hbx : Box w2 w.heap.size 111 #[.slice A bs.length c] := (Box.new w 111 _).same (hb2.block _ (by simp))
      have hbel : Below w.heap.size w w2 := ((Below.refl _ _).alloc (Nat.le_refl _) _).trans (hb2.mono (by simp))
      have hw2 : w.heap.size ≤ w2.heap.size := hbel.size
      generalize hW3 : w2.alloc _ = w3
      have hbx3 : Box w3 w.heap.size 111 #[.slice A bs.length c] := by subst hW3; exact hbx.same (Below.heap_alloc _ _ _ hbx.lt)
      have hwy3 : Box w3 w2.heap.size 113 readsV := by subst hW3; exact Box.new w2 113 _
      have hbel3 : Below w.heap.size w w3 := by subst hW3; exact hbel.alloc hw2 _
      clear hW3 hbx hbel hb2 HP
      have hrs3 : RSt w3 w.heap.size w.heap.size bs := ⟨Nat.le_refl _, A, c, hbx3, HB.out.below hbel3⟩
      clear hbx3
      obtain ⟨g, HG⟩ : ∃ g, Hid (w.heap.size = g) := ⟨_, rfl⟩
      have hrs3' : RSt w3 w.heap.size g bs := by have e := HG.out; rw [← e]; exact hrs3
      have hgg : (⟨w.heap.size, 0, none⟩ : Addr) = ⟨g, 0, none⟩ := by rw [HG.out]
      rw [hgg]
      clear hgg hrs3
      generalize w2.heap.size = gw at hwy3 hw2
      go_loopw [34, 10] (fun i v wr => ∃ (k : Nat) (fs : List Fd) (A' : Option Addr) (c' : Nat) (cs : List Value) (left : List UInt8), k ≤ ks.length ∧ i = .int .i64 k ∧ v = .slice A' fs.length c' ∧ wr.ownsRow w.heap.size 80 4 (.slice A' fs.length c') fs.length cs ∧ FlatF wr w.heap.size fs cs ∧ RSt wr w.heap.size g left ∧ Box wr gw 113 readsV ∧ Below w.heap.size w wr ∧ fs.length ≤ k ∧ Hid (rdF [] ks bs = rdF fs (ks.drop k) left)) (fun i _ _ => ks.length - (intOf i).toNat)
      case atStart => exact ⟨0, [], none, 0, [], bs, Nat.zero_le _, rfl, rfl, World.ownsRow_nil _ _ _ _, rfl, hrs3', hwy3, hbel3, Nat.le_refl _, rfl⟩
      case round =>
        clear hrs3' hwy3 hbel3
        obtain ⟨k, fs, A', c', cs, left, hk, rfl, rfl, hro, hfl, hrs, hwy, hbw, hfk, HP⟩ := hrel
        have HRO := hid hro
        have HFL := hid hfl
        have HRS := hid hrs
        have HWY := hid hwy
        have HBW := hid hbw
        have HMM : Hid (wr.cell? ⟨0, 0, none⟩ = some (.int .i64 m)) := (hbw.cell (p := ⟨0, 0, none⟩) hpos).trans HM.out
        by_cases hlt : k < ks.length
        · obtain ⟨b, o, rfl, hbk, hcells⟩ := HK.out (by intro e; have := congrArg List.length e; simp at this; subst this; simp at hlt)
          have c0 : wr.cell? ⟨b, o + k, none⟩ = some (.int .i64 ks[k]) := (hbw.cell (p := ⟨b, _, none⟩) hbk).trans (hcells k _ (by simp [hlt]))
          have hkk := (kindsB_iff _).1 HKB.out k (by simpa using hlt)
          have hdrop : ks.drop k = ks[k] :: ks.drop (k + 1) := List.drop_eq_getElem_cons hlt
          have HD : Hid (rdF [] ks bs = rdF fs (ks[k] :: ks.drop (k + 1)) left) := by rw [← hdrop]; exact HP
          clear hcells hdrop hro hfl hrs hbw
          simp only [List.getElem_map, kfd] at hkk
          generalize ks[k] = kd at *
          simp only [kindB, Bool.and_eq_true, Bool.or_eq_true, decide_eq_true_eq] at hkk
          have hkd : kd = 1 ∨ kd = 2 ∨ kd = 3 ∨ kd = 4 ∨ kd = 5 ∨ kd = 6 := by omega
          clear hkk
          have cw1 : wr.cell? ⟨gw, 1, none⟩ = some (.func (.func 64) #[] #[]) := hwy.cell 1
          have cw2 : wr.cell? ⟨gw, 2, none⟩ = some (.func (.func 65) #[] #[]) := hwy.cell 2
          have cw3 : wr.cell? ⟨gw, 3, none⟩ = some (.func (.func 66) #[] #[]) := hwy.cell 3
          have cw4 : wr.cell? ⟨gw, 4, none⟩ = some (.func (.func 67) #[] #[]) := hwy.cell 4
          have cw5 : wr.cell? ⟨gw, 5, none⟩ = some (.func (.func 68) #[] #[]) := hwy.cell 5
          have cw6 : wr.cell? ⟨gw, 6, none⟩ = some (.func (.func 69) #[] #[]) := hwy.cell 6
          clear hwy
          obtain ⟨⟨er, f, rest⟩, HX⟩ : ∃ x, Hid (getF kd left = x) := ⟨_, rfl⟩
          by_cases her : er = 0
          · subst her
            have HR : Hid (rdF [] ks bs = rdF (fs ++ [{ f with kind := kd }]) (ks.drop (k + 1)) rest) := by
              show _ = _
              rw [HD.out, rdF, HX.out, if_pos rfl]
            obtain ⟨i0, hi0, hz0, hz1, hz2⟩ := info_parts Tryd.info37
            rcases hkd with rfl | rfl | rfl | rfl | rfl | rfl
            all_goals
              go_wp2_with (first
                | (go_at_call 64
                   refine (gk1 w.heap.size g left _ HRS.out (Below.size HBW.out) hpos m HMM.out).mono ?_
                   rw [HX.out]
                   rintro e w4 ⟨_, hgr⟩
                   obtain ⟨tA, tc, lA, lc, rfl, ho1, ho2, hr4, hk4⟩ := hgr rfl
                   have HBEL := hid (HBW.out.trans (hk4.below (Below.size HBW.out)))
                   have HRO4 := hid (hk4.own HRO.out (by decide))
                   have HFL4 := hid (FlatF.kept hk4 (by decide) (by decide) _ _ HFL.out)
                   have HWY4 := hid (hk4.box HWY.out (by decide))
                   have HO1 := hid (own_mono ho1 (Below.size HBW.out))
                   have HO2 := hid (own_mono ho2 (Below.size HBW.out))
                   have HRS4 := hid hr4
                   clear hgr hk4 ho1 ho2 hr4)
                | (go_at_call 65
                   refine (gk2 w.heap.size g left _ HRS.out (Below.size HBW.out) hpos m HMM.out).mono ?_
                   rw [HX.out]
                   rintro e w4 ⟨_, hgr⟩
                   obtain ⟨tA, tc, lA, lc, rfl, ho1, ho2, hr4, hk4⟩ := hgr rfl
                   have HBEL := hid (HBW.out.trans (hk4.below (Below.size HBW.out)))
                   have HRO4 := hid (hk4.own HRO.out (by decide))
                   have HFL4 := hid (FlatF.kept hk4 (by decide) (by decide) _ _ HFL.out)
                   have HWY4 := hid (hk4.box HWY.out (by decide))
                   have HO1 := hid (own_mono ho1 (Below.size HBW.out))
                   have HO2 := hid (own_mono ho2 (Below.size HBW.out))
                   have HRS4 := hid hr4
                   clear hgr hk4 ho1 ho2 hr4)
                | (go_at_call 66
                   refine (gk3 w.heap.size g left _ HRS.out (Below.size HBW.out) hpos m HMM.out).mono ?_
                   rw [HX.out]
                   rintro e w4 ⟨_, hgr⟩
                   obtain ⟨tA, tc, lA, lc, rfl, ho1, ho2, hr4, hk4⟩ := hgr rfl
                   have HBEL := hid (HBW.out.trans (hk4.below (Below.size HBW.out)))
                   have HRO4 := hid (hk4.own HRO.out (by decide))
                   have HFL4 := hid (FlatF.kept hk4 (by decide) (by decide) _ _ HFL.out)
                   have HWY4 := hid (hk4.box HWY.out (by decide))
                   have HO1 := hid (own_mono ho1 (Below.size HBW.out))
                   have HO2 := hid (own_mono ho2 (Below.size HBW.out))
                   have HRS4 := hid hr4
                   clear hgr hk4 ho1 ho2 hr4)
                | (go_at_call 67
                   refine (gk4 w.heap.size g left _ HRS.out (Below.size HBW.out) hpos m HMM.out).mono ?_
                   rw [HX.out]
                   rintro e w4 ⟨_, hgr⟩
                   obtain ⟨tA, tc, lA, lc, rfl, ho1, ho2, hr4, hk4⟩ := hgr rfl
                   have HBEL := hid (HBW.out.trans (hk4.below (Below.size HBW.out)))
                   have HRO4 := hid (hk4.own HRO.out (by decide))
                   have HFL4 := hid (FlatF.kept hk4 (by decide) (by decide) _ _ HFL.out)
                   have HWY4 := hid (hk4.box HWY.out (by decide))
                   have HO1 := hid (own_mono ho1 (Below.size HBW.out))
                   have HO2 := hid (own_mono ho2 (Below.size HBW.out))
                   have HRS4 := hid hr4
                   clear hgr hk4 ho1 ho2 hr4)
                | (go_at_call 68
                   refine (gk5 w.heap.size g left _ HRS.out (Below.size HBW.out) hpos m HMM.out).mono ?_
                   rw [HX.out]
                   rintro e w4 ⟨_, hgr⟩
                   obtain ⟨tA, tc, lA, lc, rfl, ho1, ho2, hr4, hk4⟩ := hgr rfl
                   have HBEL := hid (HBW.out.trans (hk4.below (Below.size HBW.out)))
                   have HRO4 := hid (hk4.own HRO.out (by decide))
                   have HFL4 := hid (FlatF.kept hk4 (by decide) (by decide) _ _ HFL.out)
                   have HWY4 := hid (hk4.box HWY.out (by decide))
                   have HO1 := hid (own_mono ho1 (Below.size HBW.out))
                   have HO2 := hid (own_mono ho2 (Below.size HBW.out))
                   have HRS4 := hid hr4
                   clear hgr hk4 ho1 ho2 hr4)
                | (go_at_call 69
                   refine (gk6 w.heap.size g left _ HRS.out (Below.size HBW.out) hpos m HMM.out).mono ?_
                   rw [HX.out]
                   rintro e w4 ⟨_, hgr⟩
                   obtain ⟨tA, tc, lA, lc, rfl, ho1, ho2, hr4, hk4⟩ := hgr rfl
                   have HBEL := hid (HBW.out.trans (hk4.below (Below.size HBW.out)))
                   have HRO4 := hid (hk4.own HRO.out (by decide))
                   have HFL4 := hid (FlatF.kept hk4 (by decide) (by decide) _ _ HFL.out)
                   have HWY4 := hid (hk4.box HWY.out (by decide))
                   have HO1 := hid (own_mono ho1 (Below.size HBW.out))
                   have HO2 := hid (own_mono ho2 (Below.size HBW.out))
                   have HRS4 := hid hr4
                   clear hgr hk4 ho1 ho2 hr4)
                | (at_builtin
                   refine wpList_app _ rfl (.tmp 50) (.tmp 52) 63 rfl w.heap.size 80 i0 _ 4 64 Tryd.underlying63 hi0 hz0 hz1 hz2 rfl ?g1 A' fs.length c' cs rfl ((HRO4.out.alloc _).alloc _) _ _ 1 1 _ rfl ?g2 (lies5 _ _ _) (one4 _ _ _ _ _ _ _ _) ?g3 ?g4 ?g5 ?_
                   case g1 => omega
                   case g2 => rfl
                   case g3 => unfold maxLen; omega
                   case g4 => omega
                   case g5 => have := HBEL.out.size; simp; omega
                   intro A6 c6 w6 ho6 hg6
                   have HFIN := hid (read_fin HBEL.out HRO4.out HFL4.out HWY4.out HO1.out HO2.out HRS4.out ho6 hg6)
                   clear ho6 hg6))
              go_roundw
              case rel =>
                obtain ⟨q1, q2, q3, q4, q5⟩ := HFIN.out
                exact ⟨k + 1, _, A6, c6, _, rest, by omega, by go_num, by simp, q1, q2, q3, q4, q5, by simp; omega, HR.out⟩
              case measure => simp [intOf]; omega
          · have HR : Hid (readF ks bs = (er, [])) := by
              show _ = _
              rw [readF, if_pos HKB.out, HD.out, rdF, HX.out, if_neg her]
            have hz : (er == 0) = false := by simpa using her
            have HER := hid her
            clear her
            rcases hkd with rfl | rfl | rfl | rfl | rfl | rfl
            all_goals
              go_wp2_with (first
                | (go_at_call 64
                   refine (gk1 w.heap.size g left _ HRS.out (Below.size HBW.out) hpos m HMM.out).mono ?_
                   rw [HX.out]
                   rintro e w4 ⟨hgr, _⟩
                   obtain ⟨rfl, hk4⟩ := hgr HER.out
                   have HBEL := hid (HBW.out.trans (hk4.below (Below.size HBW.out)))
                   unfold Z
                   clear hgr hk4)
                | (go_at_call 65
                   refine (gk2 w.heap.size g left _ HRS.out (Below.size HBW.out) hpos m HMM.out).mono ?_
                   rw [HX.out]
                   rintro e w4 ⟨hgr, _⟩
                   obtain ⟨rfl, hk4⟩ := hgr HER.out
                   have HBEL := hid (HBW.out.trans (hk4.below (Below.size HBW.out)))
                   unfold Z
                   clear hgr hk4)
                | (go_at_call 66
                   refine (gk3 w.heap.size g left _ HRS.out (Below.size HBW.out) hpos m HMM.out).mono ?_
                   rw [HX.out]
                   rintro e w4 ⟨hgr, _⟩
                   obtain ⟨rfl, hk4⟩ := hgr HER.out
                   have HBEL := hid (HBW.out.trans (hk4.below (Below.size HBW.out)))
                   unfold Z
                   clear hgr hk4)
                | (go_at_call 67
                   refine (gk4 w.heap.size g left _ HRS.out (Below.size HBW.out) hpos m HMM.out).mono ?_
                   rw [HX.out]
                   rintro e w4 ⟨hgr, _⟩
                   obtain ⟨rfl, hk4⟩ := hgr HER.out
                   have HBEL := hid (HBW.out.trans (hk4.below (Below.size HBW.out)))
                   unfold Z
                   clear hgr hk4)
                | (go_at_call 68
                   refine (gk5 w.heap.size g left _ HRS.out (Below.size HBW.out) hpos m HMM.out).mono ?_
                   rw [HX.out]
                   rintro e w4 ⟨hgr, _⟩
                   obtain ⟨rfl, hk4⟩ := hgr HER.out
                   have HBEL := hid (HBW.out.trans (hk4.below (Below.size HBW.out)))
                   unfold Z
                   clear hgr hk4)
                | (go_at_call 69
                   refine (gk6 w.heap.size g left _ HRS.out (Below.size HBW.out) hpos m HMM.out).mono ?_
                   rw [HX.out]
                   rintro e w4 ⟨hgr, _⟩
                   obtain ⟨rfl, hk4⟩ := hgr HER.out
                   have HBEL := hid (HBW.out.trans (hk4.below (Below.size HBW.out)))
                   unfold Z
                   clear hgr hk4))
              go_ret2
              rw [HR.out]
              exact readR_err _ _ _ (HBEL.out.alloc HBEL.out.size _)
        · have hdl : ks.drop k = [] := List.drop_of_length_le (by omega)
          obtain ⟨_, A4, c4, hx4, _⟩ := hrs
          have hcell4 : wr.cell? ⟨g, 0, none⟩ = some (.slice A4 left.length c4) := hx4.cell 0
          clear hx4 hro hfl hwy
          by_cases hl0 : left = []
          · subst hl0
            have hE : readF ks bs = (0, fs) := by rw [readF, if_pos HKB.out, HP.out, hdl, rdF, if_pos rfl]
            have HE := hid hE
            have hcell5 : wr.cell? ⟨g, 0, none⟩ = some (.slice A4 0 c4) := hcell4
            clear hdl hE hcell4
            go_wp2
            go_ret2
            rw [HE.out]
            exact ⟨A', c', cs, rfl, HRO.out, HFL.out, hbw⟩
          · have hE : readF ks bs = (4, []) := by rw [readF, if_pos HKB.out, HP.out, hdl, rdF, if_neg hl0]
            have HE := hid hE
            have hlen : 0 < left.length := by
              rcases Nat.eq_zero_or_pos left.length with h | h
              · exact absurd (List.eq_nil_of_length_eq_zero h) hl0
              · exact h
            clear hdl hE hl0
            go_wp2
            go_ret2
            rw [HE.out]
            exact readR_err _ _ _ hbw
end Go.Proofs.YtdplngplljejhaaDoor
