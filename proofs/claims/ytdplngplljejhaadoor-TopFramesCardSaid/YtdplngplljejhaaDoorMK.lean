import Derived.Test.YtdplngplljejhaaDoorMH
namespace Go.Proofs.YtdplngplljejhaaDoor
open Go.RowKit

namespace Pl
/-- One field of m put into x. -/
def mv (m x : Mg) : Pl → Mg
  | code => { x with code := m.code }
  | text => { x with data := m.data }
  | lang => { x with lang := m.lang }
  | name => { x with name := m.name }
  | want => { x with want := m.want }
  | rest => { x with data := m.data }
  | sender => { x with sender := m.sender }
  | window => { x with window := m.window }
  | packet => { x with packet := m.packet }
  | chan => { x with chan := m.chan }
end Pl
def mvs (m : Mg) : List Pl → Mg → Mg
  | [], x => x
  | p :: ps, x => mvs m ps (p.mv m x)
/-- A message with the fields of its kind alone. -/
def ownM (m : Mg) : Mg := match look m.kind tab with
  | none => { zeroM with kind := m.kind }
  | some ps => mvs m ps { zeroM with kind := m.kind }

set_option maxHeartbeats 1000000 in
set_option maxRecDepth 100000 in
theorem same_m (m : Mg) (A A2 : Option Addr) (c c2 B B2 : Nat) (w : World) (hx : Lies w B A (bv m.data)) (hy : Lies w B2 A2 (bv m.data)) (hB : B ≤ w.heap.size) (hB2 : B2 ≤ w.heap.size) (hl : m.data.length ≤ maxLen) :
    Calls Tryd.prog 17 #[.agg (m.cells A c), .agg (m.cells A2 c2)] w fun e w' => e = .returned (.bool true) ∧ Below w.heap.size w w' := by
  have HX := hid hx
  have HY := hid hy
  clear hx hy
  unfold Mg.cells
  go_enter Tryd.func17, Tryd.ntmps17
  go_wp2_with (
    go_at_call 9
    refine (bytes_any _ B B2 A A2 c c2 m.data m.data (HX.out.below ((bel2 w _ _).mono hB)) (HY.out.below ((bel2 w _ _).mono hB2)) hl hl).mono ?_
    rintro e w2 ⟨rfl, n, rfl⟩
    rw [decide_eq_true rfl])
  go_ret
  exact ⟨rfl, bel_drewN (bel2 w _ _) n⟩

def greatB (m : Mg) : Bool := decide (100000 < m.data.length) || decide (10000 < m.name.size) || decide (10000 < m.lang.size)
set_option maxHeartbeats 1000000 in
set_option maxRecDepth 100000 in
theorem great_m (m : Mg) (A : Option Addr) (c : Nat) (w : World) (hl : m.data.length ≤ maxLen) (hn : m.name.size ≤ maxLen) (hg : m.lang.size ≤ maxLen) :
    Calls Tryd.prog 11 #[.agg (m.cells A c)] w fun e w' => e = .returned (.bool (greatB m)) ∧ Below w.heap.size w w' := by
  unfold maxLen at hl hn hg
  have HE : Hid (greatB m = (decide (100000 < m.data.length) || decide (10000 < m.name.size) || decide (10000 < m.lang.size))) := hid rfl
  unfold Mg.cells
  by_cases h1 : 100000 < m.data.length
  · have d1 : (100000 : Int) < m.data.length := by omega
    have HR : Hid (greatB m = true) := by show _ = _; rw [HE.out, decide_eq_true h1]; simp
    clear h1
    go_enter Tryd.func11, Tryd.ntmps11
    go_wp2
    go_ret
    exact ⟨ret_bool HR.out.symm, bel1 w _⟩
  · have d1 : decide ((100000 : Int) < m.data.length) = false := by simp; omega
    by_cases h2 : 10000 < m.name.size
    · have d2 : (10000 : Int) < m.name.size := by omega
      have HR : Hid (greatB m = true) := by show _ = _; rw [HE.out, decide_eq_true h2]; simp
      clear h1 h2
      go_enter Tryd.func11, Tryd.ntmps11
      go_wp2
      go_ret
      exact ⟨ret_bool HR.out.symm, bel1 w _⟩
    · have d2 : decide ((10000 : Int) < m.name.size) = false := by simp; omega
      by_cases h3 : 10000 < m.lang.size
      · have d3 : (10000 : Int) < m.lang.size := by omega
        have HR : Hid (greatB m = true) := by show _ = _; rw [HE.out, decide_eq_true h3]; simp
        clear h1 h2 h3
        go_enter Tryd.func11, Tryd.ntmps11
        go_wp2
        go_ret
        exact ⟨ret_bool HR.out.symm, bel1 w _⟩
      · have d3 : decide ((10000 : Int) < m.lang.size) = false := by simp; omega
        have HR : Hid (greatB m = false) := by show _ = _; rw [HE.out, decide_eq_false h1, decide_eq_false h2, decide_eq_false h3]; rfl
        clear h1 h2 h3
        go_enter Tryd.func11, Tryd.ntmps11
        go_wp2
        go_ret
        exact ⟨ret_bool HR.out.symm, bel1 w _⟩

theorem str_back_eq (s : ByteArray) : (⟨s.data.toList.toArray⟩ : ByteArray) = s := by cases s; simp
theorem ownF_fld (m : Mg) (p : Pl) : ownF (p.fld m) = p.fld m := by cases p <;> simp [ownF, Pl.fld]
theorem put_fld (m x : Mg) (p : Pl) : p.put (p.fld m) x = p.mv m x := by
  cases p
  all_goals first | rfl | (simp only [Pl.put, Pl.fld, Pl.mv]; done) | skip
  show ({ x with want := !decide (((if m.want then 1 else 0 : Nat) : Int) = 0) } : Mg) = { x with want := m.want }
  cases m.want <;> rfl
theorem ok_mv (m x : Mg) (p : Pl) : Pl.ok (p.mv m x) p = p.ok m := by cases p <;> rfl
theorem putsF_fld (m : Mg) : ∀ (ps : List Pl) (x : Mg), ps.all (Pl.ok m) = true → putsF ps (ps.map (Pl.fld m)) x = (0, mvs m ps x)
  | [], _, _ => rfl
  | p :: ps, x, h => by
    rw [List.all_cons, Bool.and_eq_true] at h
    rw [List.map_cons, putsF, put_fld, ok_mv, if_pos h.1]
    exact putsF_fld m ps _ h.2
theorem enc_kfm (m : Mg) : enc (kfm m) = [UInt8.ofNat m.kind.toNat] := by simp [enc, kfm]
theorem ofNat_kind {k : Int} (h : 1 ≤ k ∧ k ≤ 100) : ((UInt8.ofNat k.toNat).toNat : Int) = k := by
  rw [UInt8.toNat_ofNat']; omega

theorem encF_err (m : Mg) (h : (encF m).1 ≠ 0) : (encF m).2 = [] := by
  unfold encF at h ⊢
  split
  · rfl
  · rename_i ps hps
    rw [hps] at h
    simp only at h
    split
    · rename_i ha
      rw [if_pos ha] at h
      exact writeF_err _ h
    · rfl
theorem encF_some {m : Mg} (h : (encF m).1 = 0) : ∃ ps, look m.kind tab = some ps ∧ ps.all (Pl.ok m) = true ∧ encF m = (0, encs (kfm m :: ps.map (Pl.fld m))) ∧ okW (kfm m :: ps.map (Pl.fld m)) := by
  unfold encF at h ⊢
  cases hl : look m.kind tab with
  | none => rw [hl] at h; simp at h
  | some ps =>
    rw [hl] at h
    simp only at h ⊢
    by_cases ha : ps.all (Pl.ok m) = true
    · rw [if_pos ha] at h ⊢
      have hok := writeF_zero h
      exact ⟨ps, rfl, ha, writeF_ok hok, hok⟩
    · rw [if_neg ha] at h
      simp at h
theorem kinds_fld (m : Mg) (ps : List Pl) : (kfm m :: ps.map (Pl.fld m)).map Fd.kind = 1 :: ps.map Pl.kind := by
  simp only [List.map_cons, List.map_map]
  congr 1
  apply List.map_congr_left
  intro p _
  exact fld_kind m p
/-- What is encoded is decoded, with the fields of its kind. -/
theorem back_math {m : Mg} (hm : m.Ok) (h : (encF m).1 = 0) :
    decF (encF m).2 = (0, ownM m) ∧ (encF m).2.length ≤ 33792 ∧ ∃ r, (encF m).2 = UInt8.ofNat m.kind.toNat :: r := by
  obtain ⟨ps, hl, ha, he, hok⟩ := encF_some h
  have hk := look_some hl
  have hr : encs (kfm m :: ps.map (Pl.fld m)) = UInt8.ofNat m.kind.toNat :: encs (ps.map (Pl.fld m)) := by rw [encs_cons, enc_kfm]; rfl
  have hrd := readF_encs hok (by
    intro f hf
    rcases List.mem_cons.1 hf with rfl | hf
    · simp [kfm]; omega
    · obtain ⟨q, _, rfl⟩ := List.mem_map.1 hf
      exact (fld_wf hm q).1)
  rw [kinds_fld, hr] at hrd
  rw [he]
  simp only
  refine ⟨?_, hok.2.2, _, hr⟩
  rw [hr, decF, ofNat_kind hk, hl]
  simp only [hrd, if_true]
  have hmap : (List.map ownF (kfm m :: ps.map (Pl.fld m))).drop 1 = ps.map (Pl.fld m) := by
    rw [List.map_cons, List.drop_succ_cons, List.drop_zero, List.map_map]
    apply List.map_congr_left
    intro p _
    exact ownF_fld m p
  rw [hmap, putsF_fld m ps _ ha, ownM, hl]

/-- The place of a field in a message. -/
def Pl.cell : Pl → Nat
  | code => 5 | text => 9 | lang => 7 | name => 6 | want => 8 | rest => 9 | sender => 2 | window => 3 | packet => 4 | chan => 1
theorem put_ne (f : Fd) (x : Mg) (p q : Pl) (h : p.cell ≠ q.cell) : (q.fld (p.put f x) = q.fld x) ∧ Pl.ok (p.put f x) q = Pl.ok x q := by
  cases p <;> cases q <;> first | exact ⟨rfl, rfl⟩ | exact absurd rfl h
theorem put_same (f : Fd) (x : Mg) (p : Pl) (hk : f.kind = p.kind) (ho : ownF f = f) (hf : fault f = 0) : p.fld (p.put f x) = f := by
  obtain ⟨k, n, tx, ls⟩ := f
  simp only at hk
  subst hk
  cases p <;> simp [ownF, Pl.kind, fault] at ho hf
  all_goals first
    | (obtain ⟨rfl, rfl⟩ := ho; simp [Pl.fld, Pl.put, Pl.kind]; done)
    | (simp [Pl.fld, Pl.put, Pl.kind, ho]; done)
    | skip
  obtain ⟨rfl, rfl⟩ := ho
  have : n = 0 ∨ n = 1 := by omega
  rcases this with rfl | rfl <;> rfl
theorem puts_math (m : Mg) : ∀ (ps : List Pl) (fs : List Fd) (x : Mg), putsF ps fs x = (0, m) → (ps.map Pl.cell).Nodup → fs.map Fd.kind = ps.map Pl.kind → (∀ f ∈ fs, ownF f = f ∧ fault f = 0) →
    ps.map (Pl.fld m) = fs ∧ ps.all (Pl.ok m) = true ∧ m.kind = x.kind ∧ ∀ q : Pl, q.cell ∉ ps.map Pl.cell → q.fld m = q.fld x ∧ Pl.ok m q = Pl.ok x q
  | [], [], x, h, _, _, _ => by
    rw [putsF] at h
    injection h with _ h
    subst h
    exact ⟨rfl, rfl, rfl, fun _ _ => ⟨rfl, rfl⟩⟩
  | [], _ :: _, _, _, _, h, _ => by simp at h
  | _ :: _, [], _, _, _, h, _ => by simp at h
  | p :: ps, f :: fs, x, h, hn, hk, ho => by
    rw [putsF] at h
    simp only [List.map_cons, List.cons.injEq] at hk
    rw [List.map_cons, List.nodup_cons] at hn
    by_cases hok : Pl.ok (p.put f x) p = true
    · rw [if_pos hok] at h
      obtain ⟨h1, h2, h3, h4⟩ := puts_math m ps fs _ h hn.2 hk.2 (fun g hg => ho g (by simp [hg]))
      have hp := h4 p hn.1
      have hf := ho f (by simp)
      refine ⟨?_, ?_, ?_, fun q hq => ?_⟩
      · rw [List.map_cons, h1, hp.1, put_same f x p hk.1 hf.1 hf.2]
      · rw [List.all_cons, h2, hp.2, hok]; rfl
      · rw [h3]; cases p <;> rfl
      · simp only [List.map_cons, List.mem_cons, not_or] at hq
        have hq2 := h4 q hq.2
        have hq3 := put_ne f x p q (fun e => hq.1 e.symm)
        exact ⟨hq2.1.trans hq3.1, hq2.2.trans hq3.2⟩
    · rw [if_neg hok] at h
      simp at h
theorem tab_nodup : ∀ x ∈ tab, (x.2.map Pl.cell).Nodup := by
  intro x hx
  simp only [tab, List.mem_cons, List.mem_nil_iff, or_false] at hx
  rcases hx with rfl | rfl | rfl | rfl | rfl | rfl | rfl | rfl | rfl | rfl | rfl | rfl | rfl | rfl | rfl <;> decide
theorem pl_kind (p : Pl) : 1 ≤ p.kind ∧ p.kind ≤ 6 := by cases p <;> simp [Pl.kind]

theorem getF_own (k : Int) (hk : 1 ≤ k ∧ k ≤ 6) (left : List UInt8) (h : (getF k left).1 = 0) : ownF { (getF k left).2.1 with kind := k } = { (getF k left).2.1 with kind := k } := by
  have hk6 : k = 1 ∨ k = 2 ∨ k = 3 ∨ k = 4 ∨ k = 5 ∨ k = 6 := by omega
  rcases hk6 with rfl | rfl | rfl | rfl | rfl | rfl
  · cases left with
    | nil => rfl
    | cons a r => rfl
  · cases left with
    | nil => rfl
    | cons a r => rfl
  · show ownF { (u32F left).2.1 with kind := 3 } = _
    unfold getF u32F
    split
    · rfl
    · rfl
  · rfl
  · show ownF { (namesF left).2.1 with kind := 5 } = { (namesF left).2.1 with kind := 5 }
    unfold namesF
    split
    · split
      · rfl
      · split
        · rfl
        · split <;> rfl
    · rfl
  · show ownF { (restF left).2.1 with kind := 6 } = { (restF left).2.1 with kind := 6 }
    unfold restF
    split <;> rfl
theorem rdF_own : ∀ (ks : List Int) (acc : List Fd) (left : List UInt8), (∀ k ∈ ks, 1 ≤ k ∧ k ≤ 6) → (∀ f ∈ acc, ownF f = f) → (rdF acc ks left).1 = 0 → ∀ f ∈ (rdF acc ks left).2, ownF f = f
  | [], acc, left, _, ha, h => by
    rw [rdF] at h ⊢
    by_cases e : left = []
    · rw [if_pos e]; exact ha
    · rw [if_neg e] at h; simp at h
  | k :: r, acc, left, hk, ha, h => by
    rw [rdF] at h ⊢
    by_cases e : (getF k left).1 = 0
    · rw [if_pos e] at h ⊢
      refine rdF_own r _ _ (fun q hq => hk q (by simp [hq])) (fun f hf => ?_) h
      rcases List.mem_append.1 hf with hf | hf
      · exact ha f hf
      · rw [List.mem_singleton.1 hf]
        exact getF_own k (hk k (by simp)) left e
    · rw [if_neg e] at h
      exact absurd h e
theorem readF_parts {ks : List Int} {b : List UInt8} (h : (readF ks b).1 = 0) : readF ks b = rdF [] ks b := by
  unfold readF at h ⊢
  split
  · rfl
  · rename_i hn
    rw [if_neg hn] at h
    simp at h
theorem rdl_map : ∀ (ks : List Int) (fs : List Fd) (bs : List UInt8), RdL ks fs bs → fs.map Fd.kind = ks
  | [], _, _, ⟨h1, _⟩ => by subst h1; rfl
  | k :: ks, _, _, ⟨f, fs, c, r, h1, _, _, hr⟩ => by
    subst h1
    rw [List.map_cons, rdl_map ks fs r hr]
theorem rd_first (b0 : UInt8) (r : List UInt8) (ks : List Int) : rdF [] (1 :: ks) (b0 :: r) = rdF [⟨1, b0.toNat, [], []⟩] ks r := rfl

theorem put_ok {f : Fd} {x : Mg} (p : Pl) (h : x.Ok) (hn : f.n < 4294967296) (ht : f.text.length ≤ maxLen) : (p.put f x).Ok := by
  have hs : (⟨f.text.toArray⟩ : ByteArray).size ≤ maxLen := by rw [txt_size]; exact ht
  obtain ⟨a, b, c, d, e, g, i, j⟩ := h
  cases p
  · exact ⟨a, b, c, d, e, hn, i, j⟩
  · exact ⟨a, b, c, d, e, g, i, j⟩
  · exact ⟨a, b, c, d, e, g, i, hs⟩
  · exact ⟨a, b, c, d, e, g, hs, j⟩
  · exact ⟨a, b, c, d, e, g, i, j⟩
  · exact ⟨a, b, c, d, e, g, i, j⟩
  · exact ⟨a, b, hn, d, e, g, i, j⟩
  · exact ⟨a, b, c, hn, e, g, i, j⟩
  · exact ⟨a, b, c, d, hn, g, i, j⟩
  · exact ⟨a, hn, c, d, e, g, i, j⟩
theorem puts_ok (m : Mg) : ∀ (ps : List Pl) (fs : List Fd) (x : Mg), putsF ps fs x = (0, m) → x.Ok → (∀ f ∈ fs, f.n < 4294967296 ∧ f.text.length ≤ maxLen) → m.Ok
  | [], _, x, h, hx, _ => by
    rw [putsF] at h
    injection h with _ h
    subst h
    exact hx
  | _ :: _, [], x, h, hx, _ => by
    rw [putsF] at h
    injection h with _ h
    subst h
    exact hx
  | p :: ps, f :: fs, x, h, hx, ho => by
    rw [putsF] at h
    by_cases hok : Pl.ok (p.put f x) p = true
    · rw [if_pos hok] at h
      have hf := ho f (by simp)
      exact puts_ok m ps fs _ h (put_ok p hx hf.1 hf.2) (fun g hg => ho g (by simp [hg]))
    · rw [if_neg hok] at h
      simp at h
theorem own_text {f : Fd} (ho : ownF f = f) (hf : fault f = 0) : f.text.length ≤ maxLen := by
  unfold maxLen
  by_cases h : f.kind = 4 ∨ f.kind = 6
  · rcases h with h | h
    · simp only [fault, h] at hf
      simp at hf
      omega
    · simp only [fault, h] at hf
      simp at hf
      omega
  · have e : f.text = [] := by rw [← ho]; simp [ownF, h]
    rw [e]; simp
theorem putsF_err : ∀ (ps : List Pl) (fs : List Fd) (x : Mg), (putsF ps fs x).1 ≠ 0 → (putsF ps fs x).2 = zeroM
  | [], _, x, h => by rw [putsF] at h; simp at h
  | _ :: _, [], x, h => by rw [putsF] at h; simp at h
  | p :: ps, f :: fs, x, h => by
    rw [putsF] at h ⊢
    by_cases hok : Pl.ok (p.put f x) p = true
    · rw [if_pos hok] at h ⊢
      exact putsF_err ps fs _ h
    · rw [if_neg hok]

/-- What is decoded is encoded in as many bytes, and decoded as the same. -/
theorem again_math {b : List UInt8} (hb : b.length ≤ 33792) (h : (decF b).1 = 0) :
    (decF b).2.Ok ∧ (encF (decF b).2).1 = 0 ∧ (encF (decF b).2).2.length = b.length ∧ (∃ b0 r r2, b = b0 :: r ∧ (encF (decF b).2).2 = b0 :: r2) ∧ ownM (decF b).2 = (decF b).2 := by
  cases b with
  | nil => simp [decF] at h
  | cons b0 r =>
    rw [decF] at h ⊢
    cases hl : look b0.toNat tab with
    | none => rw [hl] at h; simp at h
    | some ps =>
      rw [hl] at h
      simp only at h ⊢
      by_cases hz : (readF (1 :: ps.map Pl.kind) (b0 :: r)).1 = 0
      · rw [if_pos hz] at h ⊢
        obtain ⟨hrd, hok⟩ := readF_zero hb hz
        have hown := rdF_own (1 :: ps.map Pl.kind) [] (b0 :: r) (by
          intro k hk
          rcases List.mem_cons.1 hk with rfl | hk
          · omega
          · obtain ⟨p, _, rfl⟩ := List.mem_map.1 hk
            exact pl_kind p) (by simp) (by rw [← readF_parts hz]; exact hz)
        rw [← readF_parts hz] at hown
        have hp : ∃ fs', (readF (1 :: ps.map Pl.kind) (b0 :: r)).2 = ⟨1, b0.toNat, [], []⟩ :: fs' := by
          have e := readF_parts hz
          rw [rd_first] at e
          have h0 : (rdF [⟨1, b0.toNat, [], []⟩] (ps.map Pl.kind) r).1 = 0 := by rw [← e]; exact hz
          obtain ⟨fs, hfs, _⟩ := rdF_zero (ps.map Pl.kind) [⟨1, b0.toNat, [], []⟩] r (by
            intro k hk
            obtain ⟨p, _, rfl⟩ := List.mem_map.1 hk
            exact pl_kind p) (by simp at hb; omega) h0
          exact ⟨fs, by rw [e, hfs]; rfl⟩
        obtain ⟨fs', hfs⟩ := hp
        have hlen := rdl_len _ _ _ hrd
        have hmap := rdl_map _ _ _ hrd
        rw [hfs] at hlen hmap hok hown h ⊢
        rw [List.drop_succ_cons, List.drop_zero] at h ⊢
        simp only [List.map_cons, List.cons.injEq] at hmap
        obtain ⟨m, hm⟩ : ∃ m, putsF ps fs' { zeroM with kind := b0.toNat } = (0, m) := ⟨_, Prod.ext h rfl⟩
        rw [hm]
        simp only
        obtain ⟨h1, h2, h3, _⟩ := puts_math m ps fs' _ hm (tab_nodup _ (look_mem hl)) hmap.2 (fun f hf => ⟨hown f (by simp [hf]), hok.2.1 f (by simp [hf])⟩)
        have hk : m.kind = b0.toNat := h3
        have hkf : kfm m = ⟨1, b0.toNat, [], []⟩ := by simp [kfm, hk]
        have he : encF m = (0, encs (⟨1, b0.toNat, [], []⟩ :: fs')) := by
          rw [encF, hk, hl]
          simp only
          rw [if_pos h2, hkf, h1]
          exact writeF_ok hok
        have hms : mvs m ps { zeroM with kind := b0.toNat } = m := by
          have e := putsF_fld m ps { zeroM with kind := b0.toNat } h2
          rw [h1, hm] at e
          injection e with _ e
          exact e.symm
        have z0 : (0 : Nat) < 4294967296 := by omega
        have hmo : m.Ok := puts_ok m ps fs' _ hm ⟨by have := b0.toNat_lt; constructor <;> simp only <;> omega, z0, z0, z0, z0, z0, Nat.zero_le _, Nat.zero_le _⟩ (fun f hf => ⟨(hlen.2.2.2 f (by simp [hf])).1, own_text (hown f (by simp [hf])) (hok.2.1 f (by simp [hf]))⟩)
        refine ⟨hmo, by rw [he], by rw [he]; exact hlen.2.1, ⟨b0, r, encs fs', rfl, by rw [he]; simp only [encs_cons]; simp [enc]⟩, by rw [ownM, hk, hl]; exact hms⟩
      · rw [if_neg hz] at h
        exact absurd h hz
theorem decF_err {b : List UInt8} (h : (decF b).1 ≠ 0) : (decF b).2 = zeroM := by
  cases b with
  | nil => rfl
  | cons b0 r =>
    rw [decF] at h ⊢
    split
    · rfl
    · rename_i ps hl
      rw [hl] at h
      simp only at h
      split
      · rename_i hz
        rw [if_pos hz] at h
        exact putsF_err _ _ _ h
      · rfl

end Go.Proofs.YtdplngplljejhaaDoor
